/-
  A signature's bytes: keys.Encode and the document's own.
-/
import Derived.Test.YtfelmdndjdaniaaDoorKeyO
import Derived.Test.YtfelmdndjdaniaaDoorWireR
namespace Go.Proofs.YtfelmdndjdaniaaDoor
open Go.RowKit
def encL (i : Int) (O P : List (List UInt8)) : List UInt8 := (numB i.toNat ++ flat O) ++ flat P
theorem encL_length (i : Int) {O P : List (List UInt8)} (hO : Digs O) (hP : Digs P) : (encL i O P).length = wide i.toNat + 1 + 32 * O.length + 32 * P.length := by
  unfold encL; rw [List.length_append, List.length_append, numB_length, flat_length hO, flat_length hP]
set_option maxRecDepth 100000 in
set_option maxHeartbeats 4000000 in
theorem kEnc_pos (N : Nat) (hN : N < 9223372036854775808) (A B : Option Addr) (n c m d : Nat) (O P : List (List UInt8)) (w : World) (hA : Ds w A n O) (hB : Ds w B m P) (hn : n ≤ 1000) (hm : m ≤ 1000) :
    Calls Tryd.prog 31 #[.agg (sigC (N : Int) A n c B m d)] w (S4NewSlice w ((numB N ++ flat O) ++ flat P)) := by
  obtain ⟨w0, hw0⟩ : ∃ w0, w.alloc (.cells (sigC (N : Int) A n c B m d) 44) = w0 := ⟨_, rfl⟩
  have hb0 : Below w.heap.size w w0 := by rw [← hw0]; exact (Below.refl w.heap.size w).alloc (Nat.le_refl _) _
  have hs0 : w.heap.size < w0.heap.size := by rw [← hw0]; simp
  have hr : Row w0 w.heap.size 44 (sigC (N : Int) A n c B m d) := by rw [← hw0]; exact Row.new w 44 _
  have k0 : w0.cell? ⟨w.heap.size, 0, none⟩ = some (.int .i64 (N : Int)) := hr.cell 0
  have HR := Lib.hid hr
  have HA := Lib.hid hA
  have HB := Lib.hid hB
  have HNm := Lib.hid (Num_any N w0 (by omega))
  have i0 : ¬ (N : Int) < 0 := by omega
  have hwd : wide N ≤ 8 := wide8 (by omega)
  have HLn := Lib.hid (numB_length N)
  have HTO := Lib.hid (show O.take n = O from List.take_of_length_le (by rw [hA.1]; exact Nat.le_refl _))
  have HTP := Lib.hid (show P.take m = P from List.take_of_length_le (by rw [hB.1]; exact Nat.le_refl _))
  have HFO := Lib.hid (show (flat O).length = 32 * n by rw [flat_length hA.2.1, hA.1])
  have HFP := Lib.hid (show (flat P).length = 32 * m by rw [flat_length hB.2.1, hB.1])
  unfold S4NewSlice at HNm ⊢
  have hu : IntKind.u64.wrap (N : Int) = (N : Int) := by simp [IntKind.wrap, IntKind.bits, IntKind.signed]; omega
  generalize numB N = X at *
  generalize wide N = wd at *
  generalize hXl : X.length = xl at *
  have hx9 : xl ≤ 9 := by have := HLn.out; omega
  clear hr hA hB hXl hwd
  obtain ⟨FL, hFL⟩ : ∃ FL, (X ++ flat O) ++ flat P = FL := ⟨_, rfl⟩
  rw [hFL]
  have HFL := Lib.hid hFL
  clear hFL
  go_enter Tryd.func31, Tryd.ntmps31
  go_wp2_with (go_at_call 58; refine HNm.out.mono ?_; rintro e1 w1 ⟨A1, c1, rfl, hc1, hb1, ho1⟩; have hs1 := hb1.size; have b1 := hb0.trans (hb1.mono (by omega)); have HO1 := Lib.hid ho1; have HR1 := Lib.hid (HR.out.below hb1 hs0); have k1 : w1.cell? ⟨w.heap.size, 1, none⟩ = some (.slice A n c) := HR1.out.cell 1; clear ho1)
  go_loopw [3, 16] (fun t iv wr => ∃ (k q : Nat) (A9 : Option Addr) (c9 : Nat), k ≤ n ∧ iv = .int .i64 (k : Int) ∧ t = .slice A9 q c9 ∧ Hid (q = xl + 32 * k) ∧ q ≤ c9 ∧ Below w.heap.size w wr ∧ Own wr (w.heap.size + 1) 5 (.slice A9 q c9) q (X ++ flat (O.take k)) ∧ Row wr w.heap.size 44 (sigC (N : Int) A n c B m d)) (fun _ iv _ => n - (intOf iv).toNat)
  case atStart => exact ⟨0, xl, A1, c1, Nat.zero_le _, rfl, rfl, Lib.hid (by omega), hc1, b1, by simpa [flat] using (HO1.out.mono (by omega)), HR1.out⟩
  case round =>
    obtain ⟨k, q, A9, c9, hk, rfl, rfl, HQ, hqc, hbel, hown, hrr⟩ := hrel
    have hbs := hbel.size
    have hzlt := hrr.lt
    have hq1 : q ≤ 80000 := by have := HQ.out; omega
    have HOr := Lib.hid hown
    have HRr := Lib.hid hrr
    clear hown hrr
    by_cases hlt : k < n
    · have him : (k : Int) < (n : Int) := by omega
      obtain ⟨b, off, D, rfl, hb, hd, hdl, hBd⟩ := (HA.out.below hbel).get hlt
      have HRG := Lib.hid hBd.range
      have HDL := Lib.hid hdl
      have HDS := Lib.hid (show (bcells D).size = 32 by rw [bcells_size, hdl])
      have HTK1 := Lib.hid (flat_take hd)
      clear hd hBd hdl
      go_wp2_with (first
        | (with_reducible refine wpList_indexD rfl (.tmp 14) (.tmp 16) rfl b off n c k _ rfl rfl rfl hlt ?_)
        | (with_reducible refine wpList_loadD rfl (.tmp 18) rfl b (off + 32 * k) D rfl HRG.out HDL.out ?_)
        | (with_reducible refine wpList_store_row Tryd.agg25 rfl (.tmp 5) (.tmp 19) rfl _ (bcells D) rfl rfl 23 lit32 (Row.new wr 23 lit32) HDS.out lit32_size (bcells_one _) ?_; intro w5 hr5 ho5; have HR5 := Lib.hid hr5; have b5 : Below wr.heap.size wr w5 := ((Below.refl _ _).alloc (Nat.le_refl _) _).trans (ho5.below (Nat.le_refl _) (by simp)); have hs5 := b5.size; clear hr5)
        | (at_builtin; refine wpList_app Tryd.byteTypes rfl (.tmp 20) (.tmp 21) rfl (w.heap.size + 1) _ q (X ++ flat (O.take k)) rfl (HOr.out.below b5) _ 32 32 D rfl (HR5.out.bsB HDL.out) (by omega) (by omega) ?_; intro A6 c6 w6 ho6 hb6 _; have HO6 := Lib.hid ho6; have HR6 := Lib.hid ((HRr.out.below b5 hzlt).below hb6 (by omega)); have b6 := (hbel.trans (b5.mono hbs)).trans (hb6.mono (by omega)); obtain ⟨A6q, c6q, hf1, hf2⟩ := ho6.form; injection hf1 with hfa hfb hfc; subst hfa hfc; clear ho6 hfb))
      go_roundw
      case rel => exact ⟨k + 1, q + 32, A6, _, by omega, by go_num, rfl, Lib.hid (by rw [HQ.out]; omega), hf2, b6, by rw [HTK1.out, ← List.append_assoc]; exact HO6.out, HR6.out⟩
      case measure => simp [intOf]; omega
    · obtain rfl : n = k := by omega
      have k2 : wr.cell? ⟨w.heap.size, 2, none⟩ = some (.slice B m d) := HRr.out.cell 2
      obtain ⟨w2, hw2⟩ : ∃ w2, w2 = wr := ⟨_, rfl⟩
      subst hw2
      have b2 := hbel
      have HR2 := HRr
      have HO2 := Lib.hid (show Own w2 (w.heap.size + 1) 5 (.slice A9 q c9) q (X ++ flat O) by have h := HOr.out; rwa [HTO.out] at h)
      have hc2 := hqc
      obtain ⟨A2, hA2⟩ : ∃ A2, A2 = A9 := ⟨_, rfl⟩
      subst hA2
      obtain ⟨c2, hc2'⟩ : ∃ c2, c2 = c9 := ⟨_, rfl⟩
      subst hc2'
      obtain ⟨yl, hyl⟩ : ∃ yl, yl = q := ⟨_, rfl⟩
      subst hyl
      have hyl9 : yl ≤ 40000 := by have := HQ.out; omega
      clear HOr HRr hbel hqc hlt
      go_wp2_with fail
      go_loopw [3, 27] (fun t iv wr => ∃ (k q : Nat) (A9 : Option Addr) (c9 : Nat), k ≤ m ∧ iv = .int .i64 (k : Int) ∧ t = .slice A9 q c9 ∧ Hid (q = yl + 32 * k) ∧ q ≤ c9 ∧ Below w.heap.size w wr ∧ Own wr (w.heap.size + 1) 5 (.slice A9 q c9) q ((X ++ flat O) ++ flat (P.take k)) ∧ Row wr w.heap.size 44 (sigC (N : Int) A n c B m d)) (fun _ iv _ => m - (intOf iv).toNat)
      case atStart => exact ⟨0, yl, A2, c2, Nat.zero_le _, rfl, rfl, Lib.hid (by omega), hc2, b2, by simpa [flat] using (HO2.out), HR2.out⟩
      case round =>
        obtain ⟨k, q, A9, c9, hk, rfl, rfl, HQ, hqc, hbel, hown, hrr⟩ := hrel
        have hbs := hbel.size
        have hzlt := hrr.lt
        have hq1 : q ≤ 80000 := by have := HQ.out; omega
        have HOr := Lib.hid hown
        have HRr := Lib.hid hrr
        clear hown hrr
        by_cases hlt : k < m
        · have him : (k : Int) < (m : Int) := by omega
          obtain ⟨b, off, D, rfl, hb, hd, hdl, hBd⟩ := (HB.out.below hbel).get hlt
          have HRG := Lib.hid hBd.range
          have HDL := Lib.hid hdl
          have HDS := Lib.hid (show (bcells D).size = 32 by rw [bcells_size, hdl])
          have HTK1 := Lib.hid (flat_take hd)
          clear hd hBd hdl
          go_wp2_with (first
            | (with_reducible refine wpList_indexD rfl (.tmp 25) (.tmp 27) rfl b off m d k _ rfl rfl rfl hlt ?_)
            | (with_reducible refine wpList_loadD rfl (.tmp 29) rfl b (off + 32 * k) D rfl HRG.out HDL.out ?_)
            | (with_reducible refine wpList_store_row Tryd.agg25 rfl (.tmp 7) (.tmp 30) rfl _ (bcells D) rfl rfl 23 lit32 (Row.new wr 23 lit32) HDS.out lit32_size (bcells_one _) ?_; intro w5 hr5 ho5; have HR5 := Lib.hid hr5; have b5 : Below wr.heap.size wr w5 := ((Below.refl _ _).alloc (Nat.le_refl _) _).trans (ho5.below (Nat.le_refl _) (by simp)); have hs5 := b5.size; clear hr5)
            | (at_builtin; refine wpList_app Tryd.byteTypes rfl (.tmp 31) (.tmp 32) rfl (w.heap.size + 1) _ q ((X ++ flat O) ++ flat (P.take k)) rfl (HOr.out.below b5) _ 32 32 D rfl (HR5.out.bsB HDL.out) (by omega) (by omega) ?_; intro A6 c6 w6 ho6 hb6 _; have HO6 := Lib.hid ho6; have HR6 := Lib.hid ((HRr.out.below b5 hzlt).below hb6 (by omega)); have b6 := (hbel.trans (b5.mono hbs)).trans (hb6.mono (by omega)); obtain ⟨A6q, c6q, hf1, hf2⟩ := ho6.form; injection hf1 with hfa hfb hfc; subst hfa hfc; clear ho6 hfb))
          go_roundw
          case rel => exact ⟨k + 1, q + 32, A6, _, by omega, by go_num, rfl, Lib.hid (by rw [HQ.out]; omega), hf2, b6, by rw [HTK1.out, ← List.append_assoc]; exact HO6.out, HR6.out⟩
          case measure => simp [intOf]; omega
        · obtain rfl : m = k := by omega
          have HOe := Lib.hid (show Own wr (w.heap.size + 1) 5 (.slice A9 q c9) q FL by have h := HOr.out; rwa [HTP.out, HFL.out] at h)
          have hle : FL.length = q := HOe.out.length
          go_wp2_with fail
          go_ret
          refine ⟨A9, c9, ?_, ?_, hbel, ?_⟩
          · rw [hle]; rfl
          · rw [hle]; exact hqc
          · rw [hle]; exact HOe.out.mono (by omega)
set_option maxRecDepth 100000 in
set_option maxHeartbeats 4000000 in
theorem kEnc_neg (i : Int) (hi : i < 0) (A B : Option Addr) (n c m d : Nat) (O P : List (List UInt8)) (w : World) (hA : Ds w A n O) (hB : Ds w B m P) (hn : n ≤ 1000) (hm : m ≤ 1000) :
    Calls Tryd.prog 31 #[.agg (sigC i A n c B m d)] w (S4NewSlice w ((numB 0 ++ flat O) ++ flat P)) := by
  obtain ⟨w0, hw0⟩ : ∃ w0, w.alloc (.cells (sigC i A n c B m d) 44) = w0 := ⟨_, rfl⟩
  have hb0 : Below w.heap.size w w0 := by rw [← hw0]; exact (Below.refl w.heap.size w).alloc (Nat.le_refl _) _
  have hs0 : w.heap.size < w0.heap.size := by rw [← hw0]; simp
  have hr : Row w0 w.heap.size 44 (sigC i A n c B m d) := by rw [← hw0]; exact Row.new w 44 _
  have k0 : w0.cell? ⟨w.heap.size, 0, none⟩ = some (.int .i64 i) := hr.cell 0
  have HR := Lib.hid hr
  have HA := Lib.hid hA
  have HB := Lib.hid hB
  have HNm := Lib.hid (Num_any 0 w0 (by omega))
  have i0 : i < 0 := hi
  have hwd : wide 0 ≤ 8 := by rw [wide_zero]; omega
  have HLn := Lib.hid (numB_length 0)
  have HTO := Lib.hid (show O.take n = O from List.take_of_length_le (by rw [hA.1]; exact Nat.le_refl _))
  have HTP := Lib.hid (show P.take m = P from List.take_of_length_le (by rw [hB.1]; exact Nat.le_refl _))
  have HFO := Lib.hid (show (flat O).length = 32 * n by rw [flat_length hA.2.1, hA.1])
  have HFP := Lib.hid (show (flat P).length = 32 * m by rw [flat_length hB.2.1, hB.1])
  unfold S4NewSlice at HNm ⊢
  clear hi
  generalize numB 0 = X at *
  generalize wide 0 = wd at *
  generalize hXl : X.length = xl at *
  have hx9 : xl ≤ 9 := by have := HLn.out; omega
  clear hr hA hB hXl hwd
  obtain ⟨FL, hFL⟩ : ∃ FL, (X ++ flat O) ++ flat P = FL := ⟨_, rfl⟩
  rw [hFL]
  have HFL := Lib.hid hFL
  clear hFL
  go_enter Tryd.func31, Tryd.ntmps31
  go_wp2_with (go_at_call 58; refine HNm.out.mono ?_; rintro e1 w1 ⟨A1, c1, rfl, hc1, hb1, ho1⟩; have hs1 := hb1.size; have b1 := hb0.trans (hb1.mono (by omega)); have HO1 := Lib.hid ho1; have HR1 := Lib.hid (HR.out.below hb1 hs0); have k1 : w1.cell? ⟨w.heap.size, 1, none⟩ = some (.slice A n c) := HR1.out.cell 1; clear ho1)
  go_loopw [3, 16] (fun t iv wr => ∃ (k q : Nat) (A9 : Option Addr) (c9 : Nat), k ≤ n ∧ iv = .int .i64 (k : Int) ∧ t = .slice A9 q c9 ∧ Hid (q = xl + 32 * k) ∧ q ≤ c9 ∧ Below w.heap.size w wr ∧ Own wr (w.heap.size + 1) 5 (.slice A9 q c9) q (X ++ flat (O.take k)) ∧ Row wr w.heap.size 44 (sigC i A n c B m d)) (fun _ iv _ => n - (intOf iv).toNat)
  case atStart => exact ⟨0, xl, A1, c1, Nat.zero_le _, rfl, rfl, Lib.hid (by omega), hc1, b1, by simpa [flat] using (HO1.out.mono (by omega)), HR1.out⟩
  case round =>
    obtain ⟨k, q, A9, c9, hk, rfl, rfl, HQ, hqc, hbel, hown, hrr⟩ := hrel
    have hbs := hbel.size
    have hzlt := hrr.lt
    have hq1 : q ≤ 80000 := by have := HQ.out; omega
    have HOr := Lib.hid hown
    have HRr := Lib.hid hrr
    clear hown hrr
    by_cases hlt : k < n
    · have him : (k : Int) < (n : Int) := by omega
      obtain ⟨b, off, D, rfl, hb, hd, hdl, hBd⟩ := (HA.out.below hbel).get hlt
      have HRG := Lib.hid hBd.range
      have HDL := Lib.hid hdl
      have HDS := Lib.hid (show (bcells D).size = 32 by rw [bcells_size, hdl])
      have HTK1 := Lib.hid (flat_take hd)
      clear hd hBd hdl
      go_wp2_with (first
        | (with_reducible refine wpList_indexD rfl (.tmp 14) (.tmp 16) rfl b off n c k _ rfl rfl rfl hlt ?_)
        | (with_reducible refine wpList_loadD rfl (.tmp 18) rfl b (off + 32 * k) D rfl HRG.out HDL.out ?_)
        | (with_reducible refine wpList_store_row Tryd.agg25 rfl (.tmp 5) (.tmp 19) rfl _ (bcells D) rfl rfl 23 lit32 (Row.new wr 23 lit32) HDS.out lit32_size (bcells_one _) ?_; intro w5 hr5 ho5; have HR5 := Lib.hid hr5; have b5 : Below wr.heap.size wr w5 := ((Below.refl _ _).alloc (Nat.le_refl _) _).trans (ho5.below (Nat.le_refl _) (by simp)); have hs5 := b5.size; clear hr5)
        | (at_builtin; refine wpList_app Tryd.byteTypes rfl (.tmp 20) (.tmp 21) rfl (w.heap.size + 1) _ q (X ++ flat (O.take k)) rfl (HOr.out.below b5) _ 32 32 D rfl (HR5.out.bsB HDL.out) (by omega) (by omega) ?_; intro A6 c6 w6 ho6 hb6 _; have HO6 := Lib.hid ho6; have HR6 := Lib.hid ((HRr.out.below b5 hzlt).below hb6 (by omega)); have b6 := (hbel.trans (b5.mono hbs)).trans (hb6.mono (by omega)); obtain ⟨A6q, c6q, hf1, hf2⟩ := ho6.form; injection hf1 with hfa hfb hfc; subst hfa hfc; clear ho6 hfb))
      go_roundw
      case rel => exact ⟨k + 1, q + 32, A6, _, by omega, by go_num, rfl, Lib.hid (by rw [HQ.out]; omega), hf2, b6, by rw [HTK1.out, ← List.append_assoc]; exact HO6.out, HR6.out⟩
      case measure => simp [intOf]; omega
    · obtain rfl : n = k := by omega
      have k2 : wr.cell? ⟨w.heap.size, 2, none⟩ = some (.slice B m d) := HRr.out.cell 2
      obtain ⟨w2, hw2⟩ : ∃ w2, w2 = wr := ⟨_, rfl⟩
      subst hw2
      have b2 := hbel
      have HR2 := HRr
      have HO2 := Lib.hid (show Own w2 (w.heap.size + 1) 5 (.slice A9 q c9) q (X ++ flat O) by have h := HOr.out; rwa [HTO.out] at h)
      have hc2 := hqc
      obtain ⟨A2, hA2⟩ : ∃ A2, A2 = A9 := ⟨_, rfl⟩
      subst hA2
      obtain ⟨c2, hc2'⟩ : ∃ c2, c2 = c9 := ⟨_, rfl⟩
      subst hc2'
      obtain ⟨yl, hyl⟩ : ∃ yl, yl = q := ⟨_, rfl⟩
      subst hyl
      have hyl9 : yl ≤ 40000 := by have := HQ.out; omega
      clear HOr HRr hbel hqc hlt
      go_wp2_with fail
      go_loopw [3, 27] (fun t iv wr => ∃ (k q : Nat) (A9 : Option Addr) (c9 : Nat), k ≤ m ∧ iv = .int .i64 (k : Int) ∧ t = .slice A9 q c9 ∧ Hid (q = yl + 32 * k) ∧ q ≤ c9 ∧ Below w.heap.size w wr ∧ Own wr (w.heap.size + 1) 5 (.slice A9 q c9) q ((X ++ flat O) ++ flat (P.take k)) ∧ Row wr w.heap.size 44 (sigC i A n c B m d)) (fun _ iv _ => m - (intOf iv).toNat)
      case atStart => exact ⟨0, yl, A2, c2, Nat.zero_le _, rfl, rfl, Lib.hid (by omega), hc2, b2, by simpa [flat] using (HO2.out), HR2.out⟩
      case round =>
        obtain ⟨k, q, A9, c9, hk, rfl, rfl, HQ, hqc, hbel, hown, hrr⟩ := hrel
        have hbs := hbel.size
        have hzlt := hrr.lt
        have hq1 : q ≤ 80000 := by have := HQ.out; omega
        have HOr := Lib.hid hown
        have HRr := Lib.hid hrr
        clear hown hrr
        by_cases hlt : k < m
        · have him : (k : Int) < (m : Int) := by omega
          obtain ⟨b, off, D, rfl, hb, hd, hdl, hBd⟩ := (HB.out.below hbel).get hlt
          have HRG := Lib.hid hBd.range
          have HDL := Lib.hid hdl
          have HDS := Lib.hid (show (bcells D).size = 32 by rw [bcells_size, hdl])
          have HTK1 := Lib.hid (flat_take hd)
          clear hd hBd hdl
          go_wp2_with (first
            | (with_reducible refine wpList_indexD rfl (.tmp 25) (.tmp 27) rfl b off m d k _ rfl rfl rfl hlt ?_)
            | (with_reducible refine wpList_loadD rfl (.tmp 29) rfl b (off + 32 * k) D rfl HRG.out HDL.out ?_)
            | (with_reducible refine wpList_store_row Tryd.agg25 rfl (.tmp 7) (.tmp 30) rfl _ (bcells D) rfl rfl 23 lit32 (Row.new wr 23 lit32) HDS.out lit32_size (bcells_one _) ?_; intro w5 hr5 ho5; have HR5 := Lib.hid hr5; have b5 : Below wr.heap.size wr w5 := ((Below.refl _ _).alloc (Nat.le_refl _) _).trans (ho5.below (Nat.le_refl _) (by simp)); have hs5 := b5.size; clear hr5)
            | (at_builtin; refine wpList_app Tryd.byteTypes rfl (.tmp 31) (.tmp 32) rfl (w.heap.size + 1) _ q ((X ++ flat O) ++ flat (P.take k)) rfl (HOr.out.below b5) _ 32 32 D rfl (HR5.out.bsB HDL.out) (by omega) (by omega) ?_; intro A6 c6 w6 ho6 hb6 _; have HO6 := Lib.hid ho6; have HR6 := Lib.hid ((HRr.out.below b5 hzlt).below hb6 (by omega)); have b6 := (hbel.trans (b5.mono hbs)).trans (hb6.mono (by omega)); obtain ⟨A6q, c6q, hf1, hf2⟩ := ho6.form; injection hf1 with hfa hfb hfc; subst hfa hfc; clear ho6 hfb))
          go_roundw
          case rel => exact ⟨k + 1, q + 32, A6, _, by omega, by go_num, rfl, Lib.hid (by rw [HQ.out]; omega), hf2, b6, by rw [HTK1.out, ← List.append_assoc]; exact HO6.out, HR6.out⟩
          case measure => simp [intOf]; omega
        · obtain rfl : m = k := by omega
          have HOe := Lib.hid (show Own wr (w.heap.size + 1) 5 (.slice A9 q c9) q FL by have h := HOr.out; rwa [HTP.out, HFL.out] at h)
          have hle : FL.length = q := HOe.out.length
          go_wp2_with fail
          go_ret
          refine ⟨A9, c9, ?_, ?_, hbel, ?_⟩
          · rw [hle]; rfl
          · rw [hle]; exact hqc
          · rw [hle]; exact HOe.out.mono (by omega)
theorem kEnc_any (i : Int) (hi : i < 9223372036854775808) (A B : Option Addr) (n c m d : Nat) (O P : List (List UInt8)) (w : World) (hA : Ds w A n O) (hB : Ds w B m P) (hn : n ≤ 1000) (hm : m ≤ 1000) :
    Calls Tryd.prog 31 #[.agg (sigC i A n c B m d)] w (S4NewSlice w (encL i O P)) := by
  unfold encL
  by_cases h : i < 0
  · rw [show i.toNat = 0 by omega]
    exact kEnc_neg i h A B n c m d O P w hA hB hn hm
  · obtain ⟨N, rfl⟩ := Int.eq_ofNat_of_zero_le (show 0 ≤ i by omega)
    rw [Int.toNat_natCast]
    exact kEnc_pos N (by omega) A B n c m d O P w hA hB hn hm
set_option maxRecDepth 100000 in
set_option maxHeartbeats 4000000 in
theorem mEnc_pos (N : Nat) (hN : N < 9223372036854775808) (A B : Option Addr) (n c m d : Nat) (O P : List (List UInt8)) (w : World) (hA : Ds w A n O) (hB : Ds w B m P) (hn : n ≤ 1000) (hm : m ≤ 1000) :
    Calls Tryd.prog 32 #[.agg (sigC (N : Int) A n c B m d)] w (S4NewSlice w ((numB N ++ flat O) ++ flat P)) := by
  obtain ⟨w0, hw0⟩ : ∃ w0, w.alloc (.cells (sigC (N : Int) A n c B m d) 44) = w0 := ⟨_, rfl⟩
  have hb0 : Below w.heap.size w w0 := by rw [← hw0]; exact (Below.refl w.heap.size w).alloc (Nat.le_refl _) _
  have hs0 : w.heap.size < w0.heap.size := by rw [← hw0]; simp
  have hr : Row w0 w.heap.size 44 (sigC (N : Int) A n c B m d) := by rw [← hw0]; exact Row.new w 44 _
  have k0 : w0.cell? ⟨w.heap.size, 0, none⟩ = some (.int .i64 (N : Int)) := hr.cell 0
  have HR := Lib.hid hr
  have HA := Lib.hid hA
  have HB := Lib.hid hB
  have HNm := Lib.hid (RefNum_any N w0 (by omega))
  have i0 : ¬ (N : Int) < 0 := by omega
  have hwd : wide N ≤ 8 := wide8 (by omega)
  have HLn := Lib.hid (numB_length N)
  have HTO := Lib.hid (show O.take n = O from List.take_of_length_le (by rw [hA.1]; exact Nat.le_refl _))
  have HTP := Lib.hid (show P.take m = P from List.take_of_length_le (by rw [hB.1]; exact Nat.le_refl _))
  have HFO := Lib.hid (show (flat O).length = 32 * n by rw [flat_length hA.2.1, hA.1])
  have HFP := Lib.hid (show (flat P).length = 32 * m by rw [flat_length hB.2.1, hB.1])
  unfold S4NewSlice at HNm ⊢
  have hu : IntKind.u64.wrap (N : Int) = (N : Int) := by simp [IntKind.wrap, IntKind.bits, IntKind.signed]; omega
  generalize numB N = X at *
  generalize wide N = wd at *
  generalize hXl : X.length = xl at *
  have hx9 : xl ≤ 9 := by have := HLn.out; omega
  clear hr hA hB hXl hwd
  obtain ⟨FL, hFL⟩ : ∃ FL, (X ++ flat O) ++ flat P = FL := ⟨_, rfl⟩
  rw [hFL]
  have HFL := Lib.hid hFL
  clear hFL
  go_enter Tryd.func32, Tryd.ntmps32
  go_wp2_with (go_at_call 59; refine HNm.out.mono ?_; rintro e1 w1 ⟨A1, c1, rfl, hc1, hb1, ho1⟩; have hs1 := hb1.size; have b1 := hb0.trans (hb1.mono (by omega)); have HO1 := Lib.hid ho1; have HR1 := Lib.hid (HR.out.below hb1 hs0); have k1 : w1.cell? ⟨w.heap.size, 1, none⟩ = some (.slice A n c) := HR1.out.cell 1; clear ho1)
  go_loopw [3, 4] (fun t iv wr => ∃ (k q : Nat) (A9 : Option Addr) (c9 : Nat), k ≤ n ∧ iv = .int .i64 (k : Int) ∧ t = .slice A9 q c9 ∧ Hid (q = xl + 32 * k) ∧ q ≤ c9 ∧ Below w.heap.size w wr ∧ Own wr (w.heap.size + 1) 5 (.slice A9 q c9) q (X ++ flat (O.take k)) ∧ Row wr w.heap.size 44 (sigC (N : Int) A n c B m d)) (fun _ iv _ => n - (intOf iv).toNat)
  case atStart => exact ⟨0, xl, A1, c1, Nat.zero_le _, rfl, rfl, Lib.hid (by omega), hc1, b1, by simpa [flat] using (HO1.out.mono (by omega)), HR1.out⟩
  case round =>
    obtain ⟨k, q, A9, c9, hk, rfl, rfl, HQ, hqc, hbel, hown, hrr⟩ := hrel
    have hbs := hbel.size
    have hzlt := hrr.lt
    have hq1 : q ≤ 80000 := by have := HQ.out; omega
    have HOr := Lib.hid hown
    have HRr := Lib.hid hrr
    have kq : wr.cell? ⟨w.heap.size, 1, none⟩ = some (.slice A n c) := HRr.out.cell 1
    clear hown hrr
    by_cases hlt : k < n
    · have him : (k : Int) < (n : Int) := by omega
      obtain ⟨b, off, D, rfl, hb, hd, hdl, hBd⟩ := (HA.out.below hbel).get hlt
      have HRG := Lib.hid hBd.range
      have HDL := Lib.hid hdl
      have HDS := Lib.hid (show (bcells D).size = 32 by rw [bcells_size, hdl])
      have HTK1 := Lib.hid (flat_take hd)
      have HDB := Lib.hid (fun w => DBytes_any D w hdl)
      clear hd hBd hdl
      go_wp2_with (first
        | (with_reducible refine wpList_indexD rfl (.tmp 20) (.tmp 21) rfl b off n c k _ rfl rfl rfl hlt ?_)
        | (with_reducible refine wpList_loadD rfl (.tmp 22) rfl b (off + 32 * k) D rfl HRG.out HDL.out ?_)
        | (go_at_call 60; refine (HDB.out _).mono ?_; rintro e5 w5 ⟨A5, n5, c5, rfl, hB5, hc5, b5, -⟩; have HB5 := Lib.hid hB5; have hn5 : n5 ≤ 32 := (by rw [← hB5.1, HDL.out]; exact Nat.le_refl _); have HN5 := Lib.hid (show n5 = 32 from hB5.1.symm.trans HDL.out); have hs5 := b5.size; clear hB5)
        | (at_builtin; refine wpList_app Tryd.byteTypes rfl (.tmp 18) (.tmp 24) rfl (w.heap.size + 1) _ q (X ++ flat (O.take k)) rfl (HOr.out.below b5) A5 n5 c5 D rfl HB5.out (by omega) (by omega) ?_; intro A6 c6 w6 ho6 hb6 _; have HO6 := Lib.hid ho6; have HR6 := Lib.hid ((HRr.out.below b5 hzlt).below hb6 (by omega)); have b6 := (hbel.trans (b5.mono hbs)).trans (hb6.mono (by omega)); obtain ⟨A6q, c6q, hf1, hf2⟩ := ho6.form; injection hf1 with hfa hfb hfc; subst hfa hfc; clear ho6 hfb))
      go_roundw
      case rel => exact ⟨k + 1, q + n5, A6, _, by omega, by go_num, rfl, Lib.hid (by rw [HN5.out, HQ.out]; omega), hf2, b6, by rw [HTK1.out, ← List.append_assoc]; exact HO6.out, HR6.out⟩
      case measure => simp [intOf]; omega
    · obtain rfl : n = k := by omega
      have k2 : wr.cell? ⟨w.heap.size, 2, none⟩ = some (.slice B m d) := HRr.out.cell 2
      obtain ⟨w2, hw2⟩ : ∃ w2, w2 = wr := ⟨_, rfl⟩
      subst hw2
      have b2 := hbel
      have HR2 := HRr
      have HO2 := Lib.hid (show Own w2 (w.heap.size + 1) 5 (.slice A9 q c9) q (X ++ flat O) by have h := HOr.out; rwa [HTO.out] at h)
      have hc2 := hqc
      obtain ⟨A2, hA2⟩ : ∃ A2, A2 = A9 := ⟨_, rfl⟩
      subst hA2
      obtain ⟨c2, hc2'⟩ : ∃ c2, c2 = c9 := ⟨_, rfl⟩
      subst hc2'
      obtain ⟨yl, hyl⟩ : ∃ yl, yl = q := ⟨_, rfl⟩
      subst hyl
      have hyl9 : yl ≤ 40000 := by have := HQ.out; omega
      clear HOr HRr hbel hqc hlt
      go_wp2_with fail
      go_loopw [3, 5] (fun t iv wr => ∃ (k q : Nat) (A9 : Option Addr) (c9 : Nat), k ≤ m ∧ iv = .int .i64 (k : Int) ∧ t = .slice A9 q c9 ∧ Hid (q = yl + 32 * k) ∧ q ≤ c9 ∧ Below w.heap.size w wr ∧ Own wr (w.heap.size + 1) 5 (.slice A9 q c9) q ((X ++ flat O) ++ flat (P.take k)) ∧ Row wr w.heap.size 44 (sigC (N : Int) A n c B m d)) (fun _ iv _ => m - (intOf iv).toNat)
      case atStart => exact ⟨0, yl, A2, c2, Nat.zero_le _, rfl, rfl, Lib.hid (by omega), hc2, b2, by simpa [flat] using (HO2.out), HR2.out⟩
      case round =>
        obtain ⟨k, q, A9, c9, hk, rfl, rfl, HQ, hqc, hbel, hown, hrr⟩ := hrel
        have hbs := hbel.size
        have hzlt := hrr.lt
        have hq1 : q ≤ 80000 := by have := HQ.out; omega
        have HOr := Lib.hid hown
        have HRr := Lib.hid hrr
        have kq : wr.cell? ⟨w.heap.size, 2, none⟩ = some (.slice B m d) := HRr.out.cell 2
        clear hown hrr
        by_cases hlt : k < m
        · have him : (k : Int) < (m : Int) := by omega
          obtain ⟨b, off, D, rfl, hb, hd, hdl, hBd⟩ := (HB.out.below hbel).get hlt
          have HRG := Lib.hid hBd.range
          have HDL := Lib.hid hdl
          have HDS := Lib.hid (show (bcells D).size = 32 by rw [bcells_size, hdl])
          have HTK1 := Lib.hid (flat_take hd)
          have HDB := Lib.hid (fun w => DBytes_any D w hdl)
          clear hd hBd hdl
          go_wp2_with (first
            | (with_reducible refine wpList_indexD rfl (.tmp 35) (.tmp 36) rfl b off m d k _ rfl rfl rfl hlt ?_)
            | (with_reducible refine wpList_loadD rfl (.tmp 37) rfl b (off + 32 * k) D rfl HRG.out HDL.out ?_)
            | (go_at_call 60; refine (HDB.out _).mono ?_; rintro e5 w5 ⟨A5, n5, c5, rfl, hB5, hc5, b5, -⟩; have HB5 := Lib.hid hB5; have hn5 : n5 ≤ 32 := (by rw [← hB5.1, HDL.out]; exact Nat.le_refl _); have HN5 := Lib.hid (show n5 = 32 from hB5.1.symm.trans HDL.out); have hs5 := b5.size; clear hB5)
            | (at_builtin; refine wpList_app Tryd.byteTypes rfl (.tmp 33) (.tmp 39) rfl (w.heap.size + 1) _ q ((X ++ flat O) ++ flat (P.take k)) rfl (HOr.out.below b5) A5 n5 c5 D rfl HB5.out (by omega) (by omega) ?_; intro A6 c6 w6 ho6 hb6 _; have HO6 := Lib.hid ho6; have HR6 := Lib.hid ((HRr.out.below b5 hzlt).below hb6 (by omega)); have b6 := (hbel.trans (b5.mono hbs)).trans (hb6.mono (by omega)); obtain ⟨A6q, c6q, hf1, hf2⟩ := ho6.form; injection hf1 with hfa hfb hfc; subst hfa hfc; clear ho6 hfb))
          go_roundw
          case rel => exact ⟨k + 1, q + n5, A6, _, by omega, by go_num, rfl, Lib.hid (by rw [HN5.out, HQ.out]; omega), hf2, b6, by rw [HTK1.out, ← List.append_assoc]; exact HO6.out, HR6.out⟩
          case measure => simp [intOf]; omega
        · obtain rfl : m = k := by omega
          have HOe := Lib.hid (show Own wr (w.heap.size + 1) 5 (.slice A9 q c9) q FL by have h := HOr.out; rwa [HTP.out, HFL.out] at h)
          have hle : FL.length = q := HOe.out.length
          go_wp2_with fail
          go_ret
          refine ⟨A9, c9, ?_, ?_, hbel, ?_⟩
          · rw [hle]; rfl
          · rw [hle]; exact hqc
          · rw [hle]; exact HOe.out.mono (by omega)
set_option maxRecDepth 100000 in
set_option maxHeartbeats 4000000 in
theorem mEnc_neg (i : Int) (hi : i < 0) (A B : Option Addr) (n c m d : Nat) (O P : List (List UInt8)) (w : World) (hA : Ds w A n O) (hB : Ds w B m P) (hn : n ≤ 1000) (hm : m ≤ 1000) :
    Calls Tryd.prog 32 #[.agg (sigC i A n c B m d)] w (S4NewSlice w ((numB 0 ++ flat O) ++ flat P)) := by
  obtain ⟨w0, hw0⟩ : ∃ w0, w.alloc (.cells (sigC i A n c B m d) 44) = w0 := ⟨_, rfl⟩
  have hb0 : Below w.heap.size w w0 := by rw [← hw0]; exact (Below.refl w.heap.size w).alloc (Nat.le_refl _) _
  have hs0 : w.heap.size < w0.heap.size := by rw [← hw0]; simp
  have hr : Row w0 w.heap.size 44 (sigC i A n c B m d) := by rw [← hw0]; exact Row.new w 44 _
  have k0 : w0.cell? ⟨w.heap.size, 0, none⟩ = some (.int .i64 i) := hr.cell 0
  have HR := Lib.hid hr
  have HA := Lib.hid hA
  have HB := Lib.hid hB
  have HNm := Lib.hid (RefNum_any 0 w0 (by omega))
  have i0 : i < 0 := hi
  have hwd : wide 0 ≤ 8 := by rw [wide_zero]; omega
  have HLn := Lib.hid (numB_length 0)
  have HTO := Lib.hid (show O.take n = O from List.take_of_length_le (by rw [hA.1]; exact Nat.le_refl _))
  have HTP := Lib.hid (show P.take m = P from List.take_of_length_le (by rw [hB.1]; exact Nat.le_refl _))
  have HFO := Lib.hid (show (flat O).length = 32 * n by rw [flat_length hA.2.1, hA.1])
  have HFP := Lib.hid (show (flat P).length = 32 * m by rw [flat_length hB.2.1, hB.1])
  unfold S4NewSlice at HNm ⊢
  clear hi
  generalize numB 0 = X at *
  generalize wide 0 = wd at *
  generalize hXl : X.length = xl at *
  have hx9 : xl ≤ 9 := by have := HLn.out; omega
  clear hr hA hB hXl hwd
  obtain ⟨FL, hFL⟩ : ∃ FL, (X ++ flat O) ++ flat P = FL := ⟨_, rfl⟩
  rw [hFL]
  have HFL := Lib.hid hFL
  clear hFL
  go_enter Tryd.func32, Tryd.ntmps32
  go_wp2_with (go_at_call 59; refine HNm.out.mono ?_; rintro e1 w1 ⟨A1, c1, rfl, hc1, hb1, ho1⟩; have hs1 := hb1.size; have b1 := hb0.trans (hb1.mono (by omega)); have HO1 := Lib.hid ho1; have HR1 := Lib.hid (HR.out.below hb1 hs0); have k1 : w1.cell? ⟨w.heap.size, 1, none⟩ = some (.slice A n c) := HR1.out.cell 1; clear ho1)
  go_loopw [3, 4] (fun t iv wr => ∃ (k q : Nat) (A9 : Option Addr) (c9 : Nat), k ≤ n ∧ iv = .int .i64 (k : Int) ∧ t = .slice A9 q c9 ∧ Hid (q = xl + 32 * k) ∧ q ≤ c9 ∧ Below w.heap.size w wr ∧ Own wr (w.heap.size + 1) 5 (.slice A9 q c9) q (X ++ flat (O.take k)) ∧ Row wr w.heap.size 44 (sigC i A n c B m d)) (fun _ iv _ => n - (intOf iv).toNat)
  case atStart => exact ⟨0, xl, A1, c1, Nat.zero_le _, rfl, rfl, Lib.hid (by omega), hc1, b1, by simpa [flat] using (HO1.out.mono (by omega)), HR1.out⟩
  case round =>
    obtain ⟨k, q, A9, c9, hk, rfl, rfl, HQ, hqc, hbel, hown, hrr⟩ := hrel
    have hbs := hbel.size
    have hzlt := hrr.lt
    have hq1 : q ≤ 80000 := by have := HQ.out; omega
    have HOr := Lib.hid hown
    have HRr := Lib.hid hrr
    have kq : wr.cell? ⟨w.heap.size, 1, none⟩ = some (.slice A n c) := HRr.out.cell 1
    clear hown hrr
    by_cases hlt : k < n
    · have him : (k : Int) < (n : Int) := by omega
      obtain ⟨b, off, D, rfl, hb, hd, hdl, hBd⟩ := (HA.out.below hbel).get hlt
      have HRG := Lib.hid hBd.range
      have HDL := Lib.hid hdl
      have HDS := Lib.hid (show (bcells D).size = 32 by rw [bcells_size, hdl])
      have HTK1 := Lib.hid (flat_take hd)
      have HDB := Lib.hid (fun w => DBytes_any D w hdl)
      clear hd hBd hdl
      go_wp2_with (first
        | (with_reducible refine wpList_indexD rfl (.tmp 20) (.tmp 21) rfl b off n c k _ rfl rfl rfl hlt ?_)
        | (with_reducible refine wpList_loadD rfl (.tmp 22) rfl b (off + 32 * k) D rfl HRG.out HDL.out ?_)
        | (go_at_call 60; refine (HDB.out _).mono ?_; rintro e5 w5 ⟨A5, n5, c5, rfl, hB5, hc5, b5, -⟩; have HB5 := Lib.hid hB5; have hn5 : n5 ≤ 32 := (by rw [← hB5.1, HDL.out]; exact Nat.le_refl _); have HN5 := Lib.hid (show n5 = 32 from hB5.1.symm.trans HDL.out); have hs5 := b5.size; clear hB5)
        | (at_builtin; refine wpList_app Tryd.byteTypes rfl (.tmp 18) (.tmp 24) rfl (w.heap.size + 1) _ q (X ++ flat (O.take k)) rfl (HOr.out.below b5) A5 n5 c5 D rfl HB5.out (by omega) (by omega) ?_; intro A6 c6 w6 ho6 hb6 _; have HO6 := Lib.hid ho6; have HR6 := Lib.hid ((HRr.out.below b5 hzlt).below hb6 (by omega)); have b6 := (hbel.trans (b5.mono hbs)).trans (hb6.mono (by omega)); obtain ⟨A6q, c6q, hf1, hf2⟩ := ho6.form; injection hf1 with hfa hfb hfc; subst hfa hfc; clear ho6 hfb))
      go_roundw
      case rel => exact ⟨k + 1, q + n5, A6, _, by omega, by go_num, rfl, Lib.hid (by rw [HN5.out, HQ.out]; omega), hf2, b6, by rw [HTK1.out, ← List.append_assoc]; exact HO6.out, HR6.out⟩
      case measure => simp [intOf]; omega
    · obtain rfl : n = k := by omega
      have k2 : wr.cell? ⟨w.heap.size, 2, none⟩ = some (.slice B m d) := HRr.out.cell 2
      obtain ⟨w2, hw2⟩ : ∃ w2, w2 = wr := ⟨_, rfl⟩
      subst hw2
      have b2 := hbel
      have HR2 := HRr
      have HO2 := Lib.hid (show Own w2 (w.heap.size + 1) 5 (.slice A9 q c9) q (X ++ flat O) by have h := HOr.out; rwa [HTO.out] at h)
      have hc2 := hqc
      obtain ⟨A2, hA2⟩ : ∃ A2, A2 = A9 := ⟨_, rfl⟩
      subst hA2
      obtain ⟨c2, hc2'⟩ : ∃ c2, c2 = c9 := ⟨_, rfl⟩
      subst hc2'
      obtain ⟨yl, hyl⟩ : ∃ yl, yl = q := ⟨_, rfl⟩
      subst hyl
      have hyl9 : yl ≤ 40000 := by have := HQ.out; omega
      clear HOr HRr hbel hqc hlt
      go_wp2_with fail
      go_loopw [3, 5] (fun t iv wr => ∃ (k q : Nat) (A9 : Option Addr) (c9 : Nat), k ≤ m ∧ iv = .int .i64 (k : Int) ∧ t = .slice A9 q c9 ∧ Hid (q = yl + 32 * k) ∧ q ≤ c9 ∧ Below w.heap.size w wr ∧ Own wr (w.heap.size + 1) 5 (.slice A9 q c9) q ((X ++ flat O) ++ flat (P.take k)) ∧ Row wr w.heap.size 44 (sigC i A n c B m d)) (fun _ iv _ => m - (intOf iv).toNat)
      case atStart => exact ⟨0, yl, A2, c2, Nat.zero_le _, rfl, rfl, Lib.hid (by omega), hc2, b2, by simpa [flat] using (HO2.out), HR2.out⟩
      case round =>
        obtain ⟨k, q, A9, c9, hk, rfl, rfl, HQ, hqc, hbel, hown, hrr⟩ := hrel
        have hbs := hbel.size
        have hzlt := hrr.lt
        have hq1 : q ≤ 80000 := by have := HQ.out; omega
        have HOr := Lib.hid hown
        have HRr := Lib.hid hrr
        have kq : wr.cell? ⟨w.heap.size, 2, none⟩ = some (.slice B m d) := HRr.out.cell 2
        clear hown hrr
        by_cases hlt : k < m
        · have him : (k : Int) < (m : Int) := by omega
          obtain ⟨b, off, D, rfl, hb, hd, hdl, hBd⟩ := (HB.out.below hbel).get hlt
          have HRG := Lib.hid hBd.range
          have HDL := Lib.hid hdl
          have HDS := Lib.hid (show (bcells D).size = 32 by rw [bcells_size, hdl])
          have HTK1 := Lib.hid (flat_take hd)
          have HDB := Lib.hid (fun w => DBytes_any D w hdl)
          clear hd hBd hdl
          go_wp2_with (first
            | (with_reducible refine wpList_indexD rfl (.tmp 35) (.tmp 36) rfl b off m d k _ rfl rfl rfl hlt ?_)
            | (with_reducible refine wpList_loadD rfl (.tmp 37) rfl b (off + 32 * k) D rfl HRG.out HDL.out ?_)
            | (go_at_call 60; refine (HDB.out _).mono ?_; rintro e5 w5 ⟨A5, n5, c5, rfl, hB5, hc5, b5, -⟩; have HB5 := Lib.hid hB5; have hn5 : n5 ≤ 32 := (by rw [← hB5.1, HDL.out]; exact Nat.le_refl _); have HN5 := Lib.hid (show n5 = 32 from hB5.1.symm.trans HDL.out); have hs5 := b5.size; clear hB5)
            | (at_builtin; refine wpList_app Tryd.byteTypes rfl (.tmp 33) (.tmp 39) rfl (w.heap.size + 1) _ q ((X ++ flat O) ++ flat (P.take k)) rfl (HOr.out.below b5) A5 n5 c5 D rfl HB5.out (by omega) (by omega) ?_; intro A6 c6 w6 ho6 hb6 _; have HO6 := Lib.hid ho6; have HR6 := Lib.hid ((HRr.out.below b5 hzlt).below hb6 (by omega)); have b6 := (hbel.trans (b5.mono hbs)).trans (hb6.mono (by omega)); obtain ⟨A6q, c6q, hf1, hf2⟩ := ho6.form; injection hf1 with hfa hfb hfc; subst hfa hfc; clear ho6 hfb))
          go_roundw
          case rel => exact ⟨k + 1, q + n5, A6, _, by omega, by go_num, rfl, Lib.hid (by rw [HN5.out, HQ.out]; omega), hf2, b6, by rw [HTK1.out, ← List.append_assoc]; exact HO6.out, HR6.out⟩
          case measure => simp [intOf]; omega
        · obtain rfl : m = k := by omega
          have HOe := Lib.hid (show Own wr (w.heap.size + 1) 5 (.slice A9 q c9) q FL by have h := HOr.out; rwa [HTP.out, HFL.out] at h)
          have hle : FL.length = q := HOe.out.length
          go_wp2_with fail
          go_ret
          refine ⟨A9, c9, ?_, ?_, hbel, ?_⟩
          · rw [hle]; rfl
          · rw [hle]; exact hqc
          · rw [hle]; exact HOe.out.mono (by omega)
theorem mEnc_any (i : Int) (hi : i < 9223372036854775808) (A B : Option Addr) (n c m d : Nat) (O P : List (List UInt8)) (w : World) (hA : Ds w A n O) (hB : Ds w B m P) (hn : n ≤ 1000) (hm : m ≤ 1000) :
    Calls Tryd.prog 32 #[.agg (sigC i A n c B m d)] w (S4NewSlice w (encL i O P)) := by
  unfold encL
  by_cases h : i < 0
  · rw [show i.toNat = 0 by omega]
    exact mEnc_neg i h A B n c m d O P w hA hB hn hm
  · obtain ⟨N, rfl⟩ := Int.eq_ofNat_of_zero_le (show 0 ≤ i by omega)
    rw [Int.toNat_natCast]
    exact mEnc_pos N (by omega) A B n c m d O P w hA hB hn hm
end Go.Proofs.YtfelmdndjdaniaaDoor
