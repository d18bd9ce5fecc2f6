/-
  What ots.Root (a hash's method, kept as a value), the document's own Root, and its Same of the same digests answer.
-/
import Derived.Test.YtghihgmgadaoeaaDoorPub
namespace Go.Proofs.YtghihgmgadaoeaaDoor
open Go.RowKit
set_option maxRecDepth 100000 in
set_option maxHeartbeats 2000000 in
theorem Root_any (A : Option Addr) (n c : Nat) (L : List (List UInt8)) (w : World) (hD : Ds w A n L) (hT : Tab 2 w) (hn : n ≤ 1000) :
    Calls Tryd.prog 13 #[.slice A n c] w fun e w' => e = .returned (.agg (bcells (rootL L))) ∧ Below w.heap.size w w' := by
  have hmf : ∀ (fn : Fn) (first cap : Array Value) (w : World), (Instr.makeFunc fn first cap).run Tryd.prog w = .ok (.func fn first cap) w := fun _ _ _ _ => rfl
  have hcut := run_cut_all (P := Tryd.prog) Tryd.under23 Tryd.size5
  have HD := Lib.hid hD
  have HT := Lib.hid hT
  have h2 := hT.1
  have HLN := Lib.hid hD.1
  have HFL := Lib.hid (flat_length hD.2.1)
  have HS := Lib.hid (show (bcells (rootL L)).size = 32 by rw [bcells_size, rootL_length])
  have HSM := Lib.hid (fun g w h hT hl => show Calls Tryd.prog 31 #[.pointer (some ⟨g, 0, none⟩)] w fun e w' => e = .returned (.agg (bcells (rootL L))) ∧ Below w.heap.size w w' from HSum_any g (2 :: flat L) w h hT hl)
  have HTK := Lib.hid (show L.take n = L from List.take_of_length_le (by rw [hD.1]; exact Nat.le_refl _))
  have hb0 := (Below.refl w.heap.size w).alloc (Nat.le_refl _) (.cells lit32 23)
  have HZ0 := Lib.hid (Row.new w 23 lit32)
  generalize rootL L = R at *
  clear hD hT
  go_enter Tryd.func13, Tryd.ntmps13
  go_wp2_with (first
    | (go_at_call 29; refine (New_any _).mono ?_; rintro e1 w1 ⟨g, rfl, hg, hh1, hb1⟩; have HH1 := Lib.hid hh1; have hs1 := hb1.size; have hlt1 := hh1.lt; simp at hs1 hg; have hb1' := hb0.trans (hb1.mono (by simp)); have HZ1 := Lib.hid (HZ0.out.below hb1 (by simp)); have HTw1 := Lib.hid (HT.out.below hb1'); clear hh1)
    | (go_at_call 30; refine (Write_any g [] _ 1 1 [2] (w1.alloc (.cells #[.int .u8 2] 5)) (HH1.out.alloc _) (one_of w1 2 5).bs (.inr ⟨_, _, rfl, by omega⟩) (Nat.le_refl _) (HTw1.out.below ((Below.refl _ _).alloc (Nat.le_refl _) _)) (by omega) (by simp)).mono ?_; rintro e2 w2 ⟨rfl, hh2, ho2⟩; have HH2 := Lib.hid hh2; have hs2 := ho2.size; simp at hs2; have HZ2 := Lib.hid ((HZ1.out.alloc (.cells #[.int .u8 2] 5)).only ho2 (by omega)); have hb2' := (hb1'.alloc hb1'.size (.cells #[.int .u8 2] 5)).trans (ho2.below (B := w.heap.size) (by omega) (by simp; omega)); clear hh2))
  go_loopw [14] (fun i wr => ∃ m : Nat, m ≤ n ∧ i = .int .i64 (m : Int) ∧ Below w.heap.size w wr ∧ HashAt wr g (2 :: flat (L.take m)) ∧ Row wr w.heap.size 23 lit32) (fun i _ => n - (intOf i).toNat)
  case atStart => exact ⟨0, Nat.zero_le _, rfl, hb2', HH2.out, HZ2.out⟩
  case round =>
    obtain ⟨m, hm, rfl, hbel, hh, hz⟩ := hrel
    have hbs := hbel.size
    have HHr := Lib.hid hh
    have HZr := Lib.hid hz
    have hglt := hh.lt
    have HTr := Lib.hid (HT.out.below hbel)
    clear hh hz
    by_cases hlt : m < n
    · have him : (m : Int) < (n : Int) := by omega
      obtain ⟨b, off, d, rfl, hb, hd, hdl, hBd⟩ := HD.out.get hlt
      have HBd := Lib.hid (hBd.below hbel)
      have HTK1 := Lib.hid (flat_take hd)
      have HLT : Hid ((2 :: flat (L.take m)).length ≤ 40000) := Lib.hid (by rw [List.length_cons, flat_length (HD.out.2.1.take m), List.length_take]; omega)
      clear hd hBd
      go_wp2_with (first
        | (with_reducible refine wpList_indexD rfl (.tmp 18) (.tmp 19) rfl b off n c m _ rfl rfl rfl hlt ?_)
        | (go_at_call 30; refine (Write_any g (2 :: flat (L.take m)) _ 32 32 d wr HHr.out HBd.out (.inr ⟨_, _, rfl, by omega⟩) (Nat.le_refl _) HTr.out (by omega) (by have := HLT.out; omega)).mono ?_; rintro e3 w3 ⟨rfl, hh3, ho3⟩; have HH3 := Lib.hid hh3; have HZ3 := Lib.hid (HZr.out.only ho3 (by omega)); have hb3 := hbel.trans (ho3.below (B := w.heap.size) (by omega) hbs); clear hh3))
      go_roundw
      case rel => exact ⟨m + 1, by omega, by go_num, hb3, by rw [HTK1.out]; exact HH3.out, HZ3.out⟩
      case measure => simp [intOf]; omega
    · obtain rfl : n = m := by omega
      have HHe := Lib.hid (show HashAt wr g (2 :: flat L) by have h := HHr.out; rwa [HTK.out] at h)
      have HLT : Hid ((2 :: flat L).length ≤ 1152921504606846976) := Lib.hid (by rw [List.length_cons, HFL.out, HLN.out]; omega)
      go_wp2_with (first
        | (go_at_call 31; refine (HSM.out g wr HHe.out HTr.out HLT.out).mono ?_; rintro e3 w3 ⟨rfl, hb3⟩; have HZ3 := Lib.hid (HZr.out.below hb3 (by omega)); have hb3' := hbel.trans (hb3.mono hbs))
        | (with_reducible refine wpList_store_row Tryd.agg25 rfl (.tmp 2) (.tmp 25) rfl _ _ rfl rfl 23 lit32 HZ3.out HS.out lit32_size (bcells_one _) ?_; intro w9 hr9 ho9; have HR9 := Lib.hid hr9; clear hr9))
      refine bodyPost_ret (results_row1 Tryd.agg25 Tryd.results13 rfl HR9.out HS.out) rfl ⟨rfl, ?_⟩
      exact hb3'.trans (ho9.below (Nat.le_refl _) hb3'.size)
set_option maxRecDepth 100000 in
set_option maxHeartbeats 2000000 in
theorem RefRoot_any (A : Option Addr) (n c : Nat) (L : List (List UInt8)) (w : World) (hD : Ds w A n L) (hF : First w) (hT : Tab 1 w) (hn : n ≤ 1000) :
    Calls Tryd.prog 14 #[.slice A n c] w fun e w' => e = .returned (.agg (bcells (rootL L))) ∧ Below w.heap.size w w' := by
  have HD := Lib.hid hD
  have HT := Lib.hid hT
  have HF := Lib.hid hF
  have HS := Lib.hid (show (bcells (rootL L)).size = 32 by rw [bcells_size, rootL_length])
  have HSM := Lib.hid (fun A n c w hB hc hF hT hn => show Calls Tryd.prog 23 #[.slice A n c] w fun e w' => e = .returned (.agg (bcells (rootL L))) ∧ Below w.heap.size w w' from RefSum_any A n c (2 :: flat L) w hB hc hF hT hn)
  have HTK := Lib.hid (show L.take n = L from List.take_of_length_le (by rw [hD.1]; exact Nat.le_refl _))
  have hb0 := (Below.refl w.heap.size w).alloc (Nat.le_refl _) (.cells lit32 23)
  generalize rootL L = R at *
  clear hD hT hF
  go_enter Tryd.func14, Tryd.ntmps14
  go_wp2_with fail
  go_loopw [3, 4] (fun t i wr => ∃ (m q : Nat) (A1 : Option Addr) (c1 : Nat), m ≤ n ∧ i = .int .i64 (m : Int) ∧ t = .slice A1 q c1 ∧ Hid (q = 1 + 32 * m) ∧ q ≤ c1 ∧ Below w.heap.size w wr ∧ Own wr (w.heap.size + 1) 5 (.slice A1 q c1) q (2 :: flat (L.take m)) ∧ Row wr w.heap.size 23 lit32) (fun _ i _ => n - (intOf i).toNat)
  case atStart => exact ⟨0, 1, _, 1, Nat.zero_le _, rfl, rfl, Lib.hid rfl, Nat.le_refl _, hb0.alloc hb0.size _, by have h := one_of (w.alloc (.cells lit32 23)) 2 5; simp at h; exact h, (Row.new w 23 lit32).alloc _⟩
  case round =>
    obtain ⟨m, q, A1, c1, hm, rfl, rfl, HQ, hqc, hbel, hown, hz⟩ := hrel
    have hbs := hbel.size
    have HO := Lib.hid hown
    have HZr := Lib.hid hz
    have hzlt := hz.lt
    have hq1 : q ≤ 40000 := by have := HQ.out; omega
    clear hown hz
    by_cases hlt : m < n
    · have him : (m : Int) < (n : Int) := by omega
      obtain ⟨b, off, d, rfl, hb, hd, hdl, hBd⟩ := (HD.out.below hbel).get hlt
      have HRG := Lib.hid hBd.range
      have HDL := Lib.hid hdl
      have HTK1 := Lib.hid (flat_take hd)
      have HDB := Lib.hid (fun w => DBytes_any d w hdl)
      clear hd hBd hdl
      go_wp2_with (first
        | (with_reducible refine wpList_indexD rfl (.tmp 13) (.tmp 14) rfl b off n c m _ rfl rfl rfl hlt ?_)
        | (with_reducible refine wpList_loadD rfl (.tmp 15) rfl b (off + 32 * m) d rfl HRG.out HDL.out ?_)
        | (go_at_call 22; refine (HDB.out _).mono ?_; rintro e2 w2 ⟨A2, n2, c2, rfl, hB2, hc2, hb2, -⟩; have HB2 := Lib.hid hB2; have hn2 : n2 ≤ 32 := (by rw [← hB2.1, HDL.out]; exact Nat.le_refl _); have HN2 := Lib.hid (show n2 = 32 from hB2.1.symm.trans HDL.out); have hs2 := hb2.size; clear hB2)
        | (at_builtin; refine wpList_app Tryd.byteTypes rfl (.tmp 12) (.tmp 17) rfl (w.heap.size + 1) _ q (2 :: flat (L.take m)) rfl (HO.out.below hb2) A2 n2 c2 d rfl HB2.out (by omega) (by omega) ?_; intro A3 c3 w3 ho3 hb3 _; have HO3 := Lib.hid ho3; have HZ3 := Lib.hid ((HZr.out.below hb2 hzlt).below hb3 (by omega)); have hb3' := (hbel.trans (hb2.mono hbs)).trans (hb3.mono (by omega)); obtain ⟨A3q, c3q, hf1, hf2⟩ := ho3.form; injection hf1 with hfa hfb hfc; subst hfa hfc; clear ho3 hfb))
      go_roundw
      case rel => exact ⟨m + 1, q + n2, A3, _, by omega, by go_num, rfl, Lib.hid (by rw [HN2.out, HQ.out]; omega), hf2, hb3', by rw [HTK1.out]; exact HO3.out, HZ3.out⟩
      case measure => simp [intOf]; omega
    · obtain rfl : n = m := by omega
      rw [HTK.out] at HO
      go_wp2_with (first
        | (go_at_call 23; refine (HSM.out A1 q c1 wr HO.out.bs hqc (HF.out.below hbel) (HT.out.below hbel) (by omega)).mono ?_; rintro e3 w3 ⟨rfl, hb3⟩; have HZ3 := Lib.hid (HZr.out.below hb3 hzlt); have hb3' := hbel.trans (hb3.mono hbs))
        | (with_reducible refine wpList_store_row Tryd.agg25 rfl (.tmp 2) (.tmp 20) rfl _ _ rfl rfl 23 lit32 HZ3.out HS.out lit32_size (bcells_one _) ?_; intro w9 hr9 ho9; have HR9 := Lib.hid hr9; clear hr9))
      refine bodyPost_ret (results_row1 Tryd.agg25 Tryd.results14 rfl HR9.out HS.out) rfl ⟨rfl, ?_⟩
      exact hb3'.trans (ho9.below (Nat.le_refl _) hb3'.size)
end Go.Proofs.YtghihgmgadaoeaaDoor
