/-
  What (mac.block).round, (mac.block).mac (its two rounds by a method value) and mac.Mac answer: the mac.
-/
import Derived.Test.YtghihgmgadaoeaaDoorMac
namespace Go.Proofs.YtghihgmgadaoeaaDoor
open Go.RowKit
/-- the first j bytes of a block masked -/
def mixL (m : UInt8) (k : List UInt8) (j : Nat) : List UInt8 := maskL m (k.take j) ++ k.drop j
theorem mixL_zero (m : UInt8) (k : List UInt8) : mixL m k 0 = k := by simp [mixL, maskL]
theorem mixL_all (m : UInt8) (k : List UInt8) (h : k.length = 64) : mixL m k 64 = maskL m k := by
  unfold mixL; rw [List.take_of_length_le (by omega), List.drop_eq_nil_of_le (by omega), List.append_nil]
theorem mixL_length (m : UInt8) (k : List UInt8) (j : Nat) : (mixL m k j).length = k.length := by
  simp [mixL, maskL, List.length_take, List.length_drop]; omega
theorem mixL_get (m : UInt8) (k : List UInt8) (j : Nat) (h : j < k.length) : (mixL m k j)[j]? = some (k.getD j 0) := by
  unfold mixL maskL
  rw [List.getElem?_append_right (by simp; omega)]
  simp only [List.length_map, List.length_take, List.getElem?_drop]
  rw [show j + (j - min j k.length) = j by omega, List.getElem?_eq_getElem h, List.getD_eq_getElem?_getD, List.getElem?_eq_getElem h]; rfl
theorem mixL_step (m : UInt8) (k : List UInt8) (j : Nat) (h : j < k.length) : (bcells (mixL m k j)).setIfInBounds j (.int .u8 (((k.getD j 0) ^^^ m).toNat : Int)) = bcells (mixL m k (j + 1)) := by
  apply Array.ext_getElem?
  intro i
  rw [Array.getElem?_setIfInBounds]
  have hl := mixL_length m k j
  have hl1 := mixL_length m k (j + 1)
  have e : maskL m (k.take (j + 1)) = maskL m (k.take j) ++ [k.getD j 0 ^^^ m] := by
    unfold maskL
    rw [List.take_add_one, List.map_append, List.getElem?_eq_getElem h, List.getD_eq_getElem?_getD, List.getElem?_eq_getElem h]; rfl
  have hlm : (maskL m (k.take j)).length = j := by simp [maskL, List.length_take]; omega
  by_cases hi : j = i
  · subst hi
    rw [if_pos rfl, if_pos (by rw [bcells_size]; omega), bcells_get?]
    unfold mixL
    rw [e, List.append_assoc, List.getElem?_append_right (by omega), hlm, Nat.sub_self]; rfl
  · rw [if_neg hi, bcells_get?, bcells_get?]
    unfold mixL
    rw [e]
    by_cases h1 : i < j
    · rw [List.getElem?_append_left (by omega), List.append_assoc, List.getElem?_append_left (by omega)]
    · rw [List.getElem?_append_right (by omega), List.getElem?_append_right (by rw [List.length_append, hlm]; simp; omega), hlm, List.length_append, hlm, List.getElem?_drop, List.getElem?_drop]
      congr 2; simp; omega
theorem maskL_length (m : UInt8) (k : List UInt8) : (maskL m k).length = k.length := by simp [maskL]
set_option maxRecDepth 100000 in
set_option maxHeartbeats 1000000 in
theorem round_any (k : List UInt8) (m : UInt8) (A : Option Addr) (n c : Nat) (l : List UInt8) (w : World) (hk : k.length = 64) (hB : Bs w A n l) (hnc : n ≤ c) (hT : Tab 2 w) (hn : n ≤ 1000000000000000) :
    Calls Tryd.prog 65 #[.agg (bcells k), .int .u8 (m.toNat : Int), .slice A n c] w fun e w' => e = .returned (.agg (bcells (roundL m k l))) ∧ Below w.heap.size w w' := by
  have HB := Lib.hid hB
  have HT := Lib.hid hT
  have HK := Lib.hid hk
  have h2 := hT.1
  have hl := hB.1
  have hm0 := mixL_zero m k
  have HRL := Lib.hid (show (bcells (roundL m k l)).size = 32 by rw [bcells_size, roundL_length])
  have HML := Lib.hid (show (maskL m k).length = 64 by rw [maskL_length, hk])
  have HALL := Lib.hid (mixL_all m k hk)
  unfold roundL at HRL ⊢
  generalize maskL m k = L at *
  clear hB hT hk
  go_enter Tryd.func65, Tryd.ntmps65
  go_wp2_with fail
  go_loopw [9] (fun i wr => ∃ (j : Nat) (zs : Array Value), j ≤ 64 ∧ i = .int .i64 (j : Int) ∧ Below w.heap.size w wr ∧ Row wr w.heap.size 90 (bcells (mixL m k j)) ∧ Row wr (w.heap.size + 1) 23 zs ∧ Hid (zs.size = 32)) (fun i _ => 64 - (intOf i).toNat)
  case atStart =>
    exact ⟨0, _, Nat.zero_le _, rfl, ((Below.refl _ _).alloc (Nat.le_refl _) _).alloc (by simp) _, by rw [hm0]; exact (Row.new _ _ _).alloc _, Row.new1 _ _ _ _, Lib.hid rfl⟩
  case round =>
    obtain ⟨j, zs, hj, rfl, hbel, hr, hz, HZS⟩ := hrel
    have HR := Lib.hid hr
    have HZ := Lib.hid hz
    have hbs := hbel.size
    have hz1 := hz.lt
    by_cases hlt : j < 64
    · have i0 : (0 : Int) ≤ (j : Int) := by omega
      have i64 : (j : Int) < 64 := by omega
      obtain ⟨X, hX⟩ : ∃ X, k.getD j 0 = X := ⟨_, rfl⟩
      have x1 : wr.cell? ⟨w.heap.size, j, none⟩ = some (.int .u8 (X.toNat : Int)) := by
        rw [hr.cell j, bcells_get?, mixL_get m k j (by rw [HK.out]; exact hlt), hX]; rfl
      have HXX := Lib.hid hX
      have hfz := hr.frozen j
      have HX := Lib.hid (u8_xor X m)
      clear hr hz hX
      go_wp2_with fail
      refine ⟨⟨j + 1, zs, by omega, by go_num, hbel.setCell (by simp) _, ?_, HZ.out.far (by simp) _, HZS⟩, by simp [intOf]; omega⟩
      have h3 := HR.out.set j (.int .u8 (((k.getD j 0) ^^^ m).toNat : Int))
      rw [mixL_step m k j (by rw [HK.out]; exact hlt)] at h3
      rw [HX.out, ← HXX.out]
      exact h3
    · obtain rfl : j = 64 := by omega
      rw [HALL.out] at HR
      have hcut := run_cut_all (P := Tryd.prog) Tryd.under44 Tryd.size5 w.heap.size 0
      have HTr := Lib.hid (HT.out.below hbel)
      have HBr := Lib.hid (HB.out.below hbel)
      clear hr hz
      go_wp2_with (first
        | (go_at_call 29; refine (New_any _).mono ?_; rintro e2 w2 ⟨g, rfl, hg0, hh2, hb2⟩; have HH2 := Lib.hid hh2; have HR2 := Lib.hid (HR.out.below hb2 (by omega)); have HZ2 := Lib.hid (HZ.out.below hb2 (by omega)); have hs2 := hb2.size; clear hh2)
        | (go_at_call_of 30 (Value.slice A n c); (refine (Write_any g L A n c l w3 (by simpa using HH3.out) ((HBr.out.below hb2).only (HBr.out.apart hg0) ho3) (HBr.out.apart hg0) hnc ((HTr.out.below hb2).only ho3 (by omega)) (by omega) (by rw [HML.out]; omega)).mono ?_; rintro e4 w4 ⟨rfl, hh4, ho4⟩; have HH4 := Lib.hid hh4; have hs4 := ho4.size; clear hh4))
        | (go_at_call 30; (refine (Write_any g [] (some ⟨w.heap.size, 0, none⟩) 64 64 L w2 HH2.out (HR2.out.bsB HML.out) (.inr ⟨_, _, rfl, by omega⟩) (Nat.le_refl _) (HTr.out.below hb2) (by omega) (by simp)).mono ?_; rintro e3 w3 ⟨rfl, hh3, ho3⟩; have HH3 := Lib.hid hh3; have hs3 := ho3.size; clear hh3))
        | (go_at_call 31; (refine (HSum_any g (L ++ l) w4 HH4.out (((HTr.out.below hb2).only ho3 (by omega)).only ho4 (by omega)) (by rw [List.length_append, HML.out, hl]; omega)).mono ?_; rintro e5 w5 ⟨rfl, hb5⟩; have HZ5 := Lib.hid (((HZ2.out.only ho3 (by omega)).only ho4 (by omega)).below hb5 (by omega)); have hs5 := hb5.size))
        | ((with_reducible refine wpList_store_row Tryd.agg25 rfl (.tmp 6) (.tmp 27) rfl _ _ rfl rfl 23 zs HZ5.out HRL.out HZS.out (bcells_one _) ?_); intro w9 hr9 ho9; have HR9 := Lib.hid hr9; clear hr9))
      refine bodyPost_ret (results_row1 Tryd.agg25 Tryd.results65 rfl HR9.out HRL.out) rfl ⟨rfl, ?_⟩
      have b2 := hbel.trans (hb2.mono hbs)
      have b3 := b2.trans (ho3.below (B := w.heap.size) (by omega) b2.size)
      have b4 := b3.trans (ho4.below (B := w.heap.size) (by omega) b3.size)
      have b5 := b4.trans (hb5.mono b4.size)
      exact b5.trans (ho9.below (by omega) b5.size)
set_option maxRecDepth 100000 in
set_option maxHeartbeats 1000000 in
theorem bmac_any (k : List UInt8) (A : Option Addr) (n c : Nat) (l : List UInt8) (w : World) (hk : k.length = 64) (hB : Bs w A n l) (hnc : n ≤ c) (hT : Tab 2 w) (hn : n ≤ 1000000000000000) :
    Calls Tryd.prog 60 #[.agg (bcells k), .slice A n c] w fun e w' => e = .returned (.agg (bcells (macB k l))) ∧ Below w.heap.size w w' := by
  have hmf : ∀ (fn : Fn) (first cap : Array Value) (w : World), (Instr.makeFunc fn first cap).run Tryd.prog w = .ok (.func fn first cap) w := fun _ _ _ _ => rfl
  have HB := Lib.hid hB
  have HT := Lib.hid hT
  have HK := Lib.hid hk
  have h2 := hT.1
  have HKS := Lib.hid (show (bcells k).size = 64 by rw [bcells_size, hk])
  have HL1 := Lib.hid (roundL_length 54 k l)
  have HS1 := Lib.hid (show (bcells (roundL 54 k l)).size = 32 by rw [bcells_size, roundL_length])
  have HS2 := Lib.hid (show (bcells (macB k l)).size = 32 by rw [bcells_size, macB_length])
  have HR54 := Lib.hid (fun w hB hT => round_any k 54 A n c l w hk hB hnc hT hn)
  have HR92 := Lib.hid (fun g w hB hT => round_any k 92 (some ⟨g, 0, none⟩) 32 32 (roundL 54 k l) w hk hB (by omega) hT (by omega))
  have hcut := run_cut_all (P := Tryd.prog) Tryd.underlying24' Tryd.size5
  unfold macB at HS2 ⊢
  generalize roundL 54 k l = L1 at *
  generalize roundL 92 k L1 = L2 at *
  have hb0 := ((Below.refl w.heap.size w).alloc (Nat.le_refl _) (.cells (bcells k) 90)).alloc (by simp) (.cells lit32 23)
  have HB0 := Lib.hid (HB.out.below hb0)
  have HT0 := Lib.hid (HT.out.below hb0)
  clear hB hT hk
  go_enter Tryd.func60, Tryd.ntmps60
  go_wp2_with (first
    | (with_reducible refine wpList_load_row Tryd.agg44 rfl (.tmp 2) rfl _ rfl 90 _ ((Row.new w 90 (bcells k)).alloc _) HKS.out ?_)
    | (go_at_call_of 65 (Value.slice A n c); refine (HR54.out _ HB0.out HT0.out).mono ?_; rintro e1 w1 ⟨rfl, hb1⟩; have hs1 := hb1.size; have HZ1 := Lib.hid ((Row.new1 w (.cells (bcells k) 90) 23 lit32).below hb1 (by simp)); have HT1 := Lib.hid (HT0.out.below hb1))
    | (with_reducible refine wpList_store_row Tryd.agg25 rfl (.tmp 6) (.tmp 11) rfl _ _ rfl rfl 23 lit32 (Row.new w1 23 lit32) HS1.out lit32_size (bcells_one _) ?_; intro w2 hr2 ho2; have HR2 := Lib.hid (hr2.bsB HL1.out); have HZ2 := Lib.hid ((HZ1.out.alloc _).only ho2 (by simp at hs1; omega)); have hs2 := ho2.size; have HT2 := Lib.hid ((HT1.out.below ((Below.refl _ _).alloc (Nat.le_refl _) _)).only ho2 (by simp at hs1; omega)); clear hr2)
    | (go_at_call 65; refine (HR92.out _ _ HR2.out HT2.out).mono ?_; rintro e3 w3 ⟨rfl, hb3⟩; have HZ3 := Lib.hid (HZ2.out.below hb3 (by simp at hs1 hs2; omega)); have hs3 := hb3.size)
    | (with_reducible refine wpList_store_row Tryd.agg25 rfl (.tmp 4) (.tmp 14) rfl _ _ rfl rfl 23 lit32 HZ3.out HS2.out lit32_size (bcells_one _) ?_; intro w9 hr9 ho9; have HR9 := Lib.hid hr9; clear hr9))
  refine bodyPost_ret (results_row1 Tryd.agg25 Tryd.results60 rfl HR9.out HS2.out) rfl ⟨rfl, ?_⟩
  simp at hs1 hs2
  have b1 := hb0.trans (hb1.mono (by simp; omega))
  have b2 := (b1.alloc b1.size (.cells lit32 23)).trans (ho2.below (B := w.heap.size) (by omega) (by simp; omega))
  have b3 := b2.trans (hb3.mono b2.size)
  exact b3.trans (ho9.below (by omega) b3.size)
end Go.Proofs.YtghihgmgadaoeaaDoor
