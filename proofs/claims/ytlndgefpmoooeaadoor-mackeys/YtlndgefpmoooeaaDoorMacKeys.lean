/-
  MacKeys, whole, as the tied card (Rows.MacKeysCardSaid): for every key and text, up to 500 bytes each, and every number of zeros up to 64: a key longer than a block has the macs of its sum, and bytes 0 behind a key change nothing up to a block; a known mac begins as it should. Conditions: the tables sha.constants, juratref02.constants and juratref02.first read as their initialisers lay them (tied to the program's text).
-/
import Derived.Test.YtlndgefpmoooeaaDoorRows
import Derived.Test.YtlndgefpmoooeaaDoorCards
import Derived.Test.YtlndgefpmoooeaaDoorTie
import Derived.WalkKit
import Derived.ProofKit
import Derived.OpenShut
import Derived.ChangeMaps5
import Derived.ShutString
import Derived.ChangeOld
import Derived.Below
import Derived.SizedLaws
import Derived.SevenTiedAt
import Derived.Lay
import Derived.LaidLaws
import Derived.Test.YtlndgefpmoooeaaDoorLaid
import Derived.Test.YtlndgefpmoooeaaDoorRefMac
import Derived.Test.YtlndgefpmoooeaaDoorAwake
namespace Go.Proofs.YtlndgefpmoooeaaDoor.macKeys
open Go.ChangeShapes Go.WideShapes Go.ChangeAt Go.RowKit
open Go.ChangeMaps (open_string shut_string)
set_option linter.unusedVariables false
theorem own : ownKnob Tryd.prog.godebug = none := by kernel_rfl
theorem laidOut : laidOutB Tryd.prog = true := by kernel_rfl
theorem range_row {w : World} {g : Nat} {t : TypeId} {l : List UInt8} (h : Row w g t (bcells l)) : w.rangeAt g 0 (l.map bcell) := fun j v hv => by
  rw [Nat.zero_add, h.cell j, bcells_get?, ← List.getElem?_map]; exact hv
theorem macL_sum (k l : List UInt8) (h : 64 < k.length) : macL (sumL k) l = macL k l := by
  have e : padK (sumL k) = padK k := by
    unfold padK keyL
    rw [if_pos h, if_neg (by rw [sumL_length]; omega)]
  unfold macL; rw [e]
theorem macL_zeros (k l : List UInt8) (j : Nat) (h : k.length + j ≤ 64) : macL (k ++ List.replicate j 0) l = macL k l := by
  have e : padK (k ++ List.replicate j 0) = padK k := by
    unfold padK keyL
    rw [if_neg (by rw [List.length_append, List.length_replicate]; omega), if_neg (by omega)]
    unfold padTo
    rw [List.append_assoc, List.replicate_append_replicate, List.length_append, List.length_replicate]
    congr 2; omega
  unfold macL; rw [e]
theorem zeros_step (k : List UInt8) (j : Nat) : k ++ List.replicate j 0 ++ [0] = k ++ List.replicate (j + 1) (0 : UInt8) := by
  rw [List.append_assoc, List.replicate_succ']
set_option maxRecDepth 100000 in
set_option maxHeartbeats 1000000 in
theorem walk_ok (w : World) (a0 : Option Addr) (len0 cap0 : Nat) (l0 : List UInt8) (w0 : Bs w a0 len0 l0) (s0 : len0 ≤ cap0) (a1 : Option Addr) (len1 cap1 : Nat) (l1 : List UInt8) (w1 : Bs w a1 len1 l1) (a2 : Nat) (hF : First w) (hT1 : Tab 1 w) (hT2 : Tab 2 w)
    (h0 : len0 ≤ 500) (h1 : len1 ≤ 500) (h2 : a2 ≤ 64) :
    Calls Tryd.prog 7 #[.slice a0 len0 cap0, .slice a1 len1 cap1, .int .i64 (a2 : Int)] w fun e w' => e = .returned (.bool true) ∧ Below w.heap.size w w' := by
  have HW0 := Lib.hid w0
  have HW1 := Lib.hid w1
  have HF := Lib.hid hF
  have HT1 := Lib.hid hT1
  have HT2 := Lib.hid hT2
  have i0 : ¬ 500 < (len0 : Int) := by omega
  have i1 : ¬ 500 < (len1 : Int) := by omega
  have i2 : ¬ (a2 : Int) < 0 := by omega
  have i3 : ¬ 64 < (a2 : Int) := by omega
  have hl0 := w0.1
  have hl1 := w1.1
  have heq := eq_digest (macL l0 l1) (macL_length _ _)
  have HM := Lib.hid (fun A B n m c d w hA hB h3 h4 hT h5 h6 => Mac_any A B n m c d l0 l1 w hA hB h3 h4 hT h5 h6)
  have HML := Lib.hid (macL_length l0 l1)
  have HMS := Lib.hid (fun h A B n m c d w hA hB h3 h4 hT h5 h6 => show Calls Tryd.prog 10 #[.slice A n c, .slice B m d] w fun e w' => e = .returned (.agg (bcells (macL l0 l1))) ∧ Below w.heap.size w w' by have hq := Mac_any A B n m c d (sumL l0) l1 w hA hB h3 h4 hT h5 h6; rwa [macL_sum l0 l1 h] at hq)
  have HMZ := Lib.hid (fun j h A B n m c d w hA hB h3 h4 hT h5 h6 => show Calls Tryd.prog 10 #[.slice A n c, .slice B m d] w fun e w' => e = .returned (.agg (bcells (macL l0 l1))) ∧ Below w.heap.size w w' by have hq := Mac_any A B n m c d (l0 ++ List.replicate j 0) l1 w hA hB h3 h4 hT h5 h6; rwa [macL_zeros l0 l1 j h] at hq)
  have HSU := Lib.hid (fun A n c w hB hc hF hT hn => RefSum_any A n c l0 w hB hc hF hT hn)
  have HSL := Lib.hid (sumL_length l0)
  have HSB := Lib.hid (fun w => DBytes_any (sumL l0) w (sumL_length l0))
  generalize macL l0 l1 = R at *
  generalize sumL l0 = D at *
  have ru := Tryd.underlying24'
  have rl : (R.map bcell).length = 32 := by rw [List.length_map]; exact HML.out
  have rz : (Tryd.prog.info? 25).map (·.size) = some (R.map bcell).length := by rw [rl]; kernel_rfl
  have HRS := Lib.hid (show (bcells R).size = 32 by rw [bcells_size]; exact HML.out)
  have heq' : ∀ w, (Op.equalIn 10000 25 (.agg (R.map bcell).toArray) (.agg (bcells R))).run Tryd.prog w = .ok true w := heq
  clear w0 w1 hF hT1 hT2 heq
  go_enter Tryd.func7, Tryd.ntmps7
  by_cases h64 : 64 < len0
  · have i4 : 64 < (len0 : Int) := by omega
    go_wp2_with (first
      | (go_at_call_of 11 (Value.slice a0 len0 cap0); refine (own_any a0 len0 cap0 l0 w HW0.out (by omega)).mono ?_; rintro e1 w1 ⟨A1, n1, c1, rfl, hB1, hc1, hb1, -⟩; have HB1 := Lib.hid hB1; have hn1 := hB1.1; clear hB1)
      | (go_at_call 11; refine (own_any a1 len1 cap1 l1 w1 (HW1.out.below hb1) (by omega)).mono ?_; rintro e2 w2 ⟨A2, n2, c2, rfl, hB2, hc2, hb2, -⟩; have HB2 := Lib.hid hB2; have hn2 := hB2.1; have hb2' := hb1.trans (hb2.mono hb1.size); clear hB2)
      | (go_at_call 10; refine (HM.out _ _ _ _ _ _ w2 (HB1.out.below hb2) HB2.out hc1 hc2 (HT2.out.below hb2') (by omega) (by omega)).mono ?_; rintro e3 w3 ⟨rfl, hb3⟩; have hb3' := hb2'.trans (hb3.mono hb2'.size))
      | (with_reducible refine wpList_store_row Tryd.agg25 rfl (.tmp 7) (.tmp 30) rfl _ _ rfl rfl 25 lit32 (Row.new w3 25 lit32) HRS.out lit32_size (bcells_one _) ?_; intro w4 hr4 ho4; have HR4 := Lib.hid hr4; have hs4 := ho4.size; have hb4' := (hb3'.alloc hb3'.size (.cells lit32 25)).trans (ho4.below (B := w.heap.size) hb3'.size (by have := hb3'.size; simp; omega)); have hlt4 := hr4.lt; clear hr4))
    have K4 := Lib.hid (show w4.drew.rangeAt w3.heap.size 0 (R.map bcell) by exact range_row HR4.out)
    have hb5 : Below w.heap.size w w4.drew := hb4'.drew
    go_region_held3 (fun w' => w'.rangeAt w3.heap.size 0 (R.map bcell)) (first | (with_reducible exact K4.out) | (with_reducible exact K9.out) | (with_reducible exact K8.out) | (with_reducible exact K7.out) | (with_reducible exact K6.out) | (with_reducible exact K5.out))
      (first
        | (go_at_call 21; (refine (HSU.out _ _ _ w4.drew (HW0.out.below hb5) s0 (HF.out.below hb5) (HT1.out.below hb5) (by omega)).mono ?_; rintro e5 w5 ⟨rfl, hb6⟩; have B5 : Below w4.heap.size w4 w5 := (Below.refl w4.heap.size w4).drew.trans hb6; have K5 := Lib.hid (range_row (HR4.out.below B5 hlt4))))
        | (go_at_call 20; (refine (HSB.out w5).mono ?_; rintro e6 w6 ⟨A6, n6, c6, rfl, hB6, hc6, hb6', -⟩; have HB6 := Lib.hid hB6; have HN6 := Lib.hid (hB6.1.symm.trans HSL.out); have B6 : Below w4.heap.size w4 w6 := B5.trans (hb6'.mono B5.size); have K6 := Lib.hid (range_row (HR4.out.below B6 hlt4)); clear hB6))
        | (go_at_call 11; (refine (own_any a1 len1 cap1 l1 w6 (HW1.out.below (hb4'.trans (B6.mono hb4'.size))) (by omega)).mono ?_; rintro e7 w7 ⟨A7, n7, c7, rfl, hB7, hc7, hb7, -⟩; have HB7 := Lib.hid hB7; have HN7 := Lib.hid (hB7.1.symm.trans hl1); have B7 : Below w4.heap.size w4 w7 := B6.trans (hb7.mono B6.size); have K7 := Lib.hid (range_row (HR4.out.below B7 hlt4)); clear hB7))
        | (go_at_call 10; (refine (HMS.out (by omega) _ _ _ _ _ _ w7 (HB6.out.below hb7) HB7.out hc6 hc7 (HT2.out.below (hb4'.trans (B7.mono hb4'.size))) (by have := HN6.out; omega) (by have := HN7.out; omega)).mono ?_; rintro e8 w8 ⟨rfl, hb8⟩; have B8 : Below w4.heap.size w4 w8 := B7.trans (hb8.mono B7.size); have K8 := Lib.hid (range_row (HR4.out.below B8 hlt4))))
        | (go_at_call 9; (refine (awake_any w8 (HT2.out.below (hb4'.trans (B8.mono hb4'.size)))).mono ?_; rintro e9 w9 ⟨rfl, hb9⟩; have B9 : Below w4.heap.size w4 w9 := B8.trans (hb9.mono B8.size); have K9 := Lib.hid (range_row (HR4.out.below B9 hlt4)))))
    all_goals
      go_wp2_with fail
      go_ret
      exact ⟨rfl, hb4'.trans (B9.mono hb4'.size)⟩
  · have i4 : ¬ 64 < (len0 : Int) := by omega
    go_wp2_with (first
      | (go_at_call_of 11 (Value.slice a1 len1 cap1); refine (own_any a1 len1 cap1 l1 w1 (HW1.out.below hb1) (by omega)).mono ?_; rintro e2 w2 ⟨A2, n2, c2, rfl, hB2, hc2, hb2, -⟩; have HB2 := Lib.hid hB2; have hn2 := hB2.1; have hb2' := hb1.trans (hb2.mono hb1.size); clear hB2)
      | (go_at_call 10; refine (HM.out _ _ _ _ _ _ w2 (HB1.out.below hb2) HB2.out hc1 hc2 (HT2.out.below hb2') (by omega) (by omega)).mono ?_; rintro e3 w3 ⟨rfl, hb3⟩; have hb3' := hb2'.trans (hb3.mono hb2'.size))
      | (with_reducible refine wpList_store_row Tryd.agg25 rfl (.tmp 7) (.tmp 30) rfl _ _ rfl rfl 25 lit32 (Row.new w3 25 lit32) HRS.out lit32_size (bcells_one _) ?_; intro w4 hr4 ho4; have HR4 := Lib.hid hr4; have hs4 := ho4.size; have hb4' := (hb3'.alloc hb3'.size (.cells lit32 25)).trans (ho4.below (B := w.heap.size) hb3'.size (by have := hb3'.size; simp; omega)); have hlt4 := hr4.lt; clear hr4)
      | (go_at_call 11; refine (own_any a0 len0 cap0 l0 w4 (HW0.out.below hb4') (by omega)).mono ?_; rintro e5 w5 ⟨A5, n5, c5, rfl, hB5, hc5, hb5, ho5⟩; have HO5 := Lib.hid ho5; obtain rfl : n5 = len0 := hB5.1.symm.trans hl0; have hs5 := hb5.size; clear hB5 ho5)
      | (go_at_call 11; refine (own_any a0 len0 cap0 l0 w HW0.out (by omega)).mono ?_; rintro e1 w1 ⟨A1, n1, c1, rfl, hB1, hc1, hb1, -⟩; have HB1 := Lib.hid hB1; have hn1 := hB1.1; clear hB1))
    go_loopw [2, 8] (fun z t wr => ∃ (j : Nat) (A : Option Addr) (c : Nat), j ≤ a2 ∧ n5 + j ≤ 64 ∧ z = .int .i64 ((a2 - j : Nat) : Int) ∧ t = .slice A (n5 + j) c ∧ Below w4.heap.size w4 wr ∧ Own wr w4.heap.size 5 (.slice A (n5 + j) c) (n5 + j) (l0 ++ List.replicate j 0)) (fun z _ _ => (intOf z).toNat)
    case atStart => exact ⟨0, A5, c5, Nat.zero_le _, by omega, rfl, rfl, hb5, by simpa using HO5.out⟩
    case round =>
      obtain ⟨j, A6, c6, hj, hj64, rfl, rfl, hbel, ho⟩ := hrel
      obtain ⟨z, hz⟩ : ∃ z, a2 - j = z := ⟨_, rfl⟩
      obtain ⟨m6, hm6⟩ : ∃ m6, n5 + j = m6 := ⟨_, rfl⟩
      rw [hz, hm6]
      rw [hm6] at ho hj64
      have HO6 := Lib.hid ho
      have HZ := Lib.hid hz
      have HM6 := Lib.hid hm6
      have hbs := hbel.size
      clear ho
      by_cases hgo : m6 < 64 ∧ 0 < z
      · have k1 : (m6 : Int) < 64 := by omega
        have k2 : (0 : Int) < (z : Int) := by omega
        have k3 : z ≤ 64 := by omega
        clear hz hm6
        go_wp2_with (at_builtin; refine wpList_app Tryd.byteTypes rfl (.tmp 54) (.tmp 55) rfl w4.heap.size _ m6 (l0 ++ List.replicate j 0) rfl (own_below HO6.out ((Below.refl _ _).alloc (Nat.le_refl _) _)) _ 1 1 [0] rfl (zero_new wr 5) (by omega) (by simp; omega) ?_; intro A7 c7 w7 ho7 hb7 _)
        have hz := HZ.out
        have hm6 := HM6.out
        refine ⟨⟨j + 1, A7, c7, by omega, by omega, ?_, by rw [show n5 + (j + 1) = m6 + 1 by omega], (hbel.alloc hbs _).trans hb7, ?_⟩, by simp [intOf]; omega⟩
        · rw [show a2 - (j + 1) = z - 1 by omega]; go_num
        · rw [← zeros_step, show n5 + (j + 1) = m6 + 1 by omega]; exact ho7
      · have HBL := Lib.hid HO6.out.bs
        obtain ⟨A8, c8, e8, hc8⟩ := HO6.out.form
        injection e8 with e81 e82 e83
        subst e81 e83
        have K4 := Lib.hid (show wr.drew.rangeAt w3.heap.size 0 (R.map bcell) by exact range_row (HR4.out.below hbel.drew hlt4))
        have HRr := Lib.hid (HR4.out.below hbel hlt4)
        have hltr : w3.heap.size < wr.heap.size := by omega
        have hbr := hb4'.trans (hbel.mono hb4'.size)
        have hj' : l0.length + j ≤ 64 := by omega
        clear hz hm6
        by_cases hm64 : m6 < 64
        · have k1 : (m6 : Int) < 64 := by omega
          have k2 : ¬ (0 : Int) < (z : Int) := by omega
          go_wp2_with fail
          go_region_held3 (fun w' => w'.rangeAt w3.heap.size 0 (R.map bcell)) (first | (with_reducible exact K4.out) | (with_reducible exact K9.out) | (with_reducible exact K8.out) | (with_reducible exact K7.out))
            (first
              | (go_at_call 11; (refine (own_any a1 len1 cap1 l1 wr.drew (HW1.out.below hbr.drew) (by omega)).mono ?_; rintro e7 w7 ⟨A7, n7, c7, rfl, hB7, hc7, hb7, -⟩; have HB7 := Lib.hid hB7; have HN7 := Lib.hid (hB7.1.symm.trans hl1); have B7 : Below wr.heap.size wr w7 := (Below.refl wr.heap.size wr).drew.trans hb7; have K7 := Lib.hid (range_row (HRr.out.below B7 hltr)); clear hB7))
              | (go_at_call 10; (refine (HMZ.out j hj' _ _ _ _ _ _ w7 (HBL.out.below B7) HB7.out hc8 hc7 (HT2.out.below (hbr.trans (B7.mono hbr.size))) (by omega) (by have := HN7.out; omega)).mono ?_; rintro e8 w8 ⟨rfl, hb8⟩; have B8 : Below wr.heap.size wr w8 := B7.trans (hb8.mono B7.size); have K8 := Lib.hid (range_row (HRr.out.below B8 hltr))))
              | (go_at_call 9; (refine (awake_any w8 (HT2.out.below (hbr.trans (B8.mono hbr.size)))).mono ?_; rintro e9 w9 ⟨rfl, hb9⟩; have B9 : Below wr.heap.size wr w9 := B8.trans (hb9.mono B8.size); have K9 := Lib.hid (range_row (HRr.out.below B9 hltr)))))
          all_goals
            go_wp2_with fail
            go_ret
            exact ⟨rfl, hbr.trans (B9.mono hbr.size)⟩
        · have k1 : ¬ (m6 : Int) < 64 := by omega
          go_wp2_with fail
          go_region_held3 (fun w' => w'.rangeAt w3.heap.size 0 (R.map bcell)) (first | (with_reducible exact K4.out) | (with_reducible exact K9.out) | (with_reducible exact K8.out) | (with_reducible exact K7.out))
            (first
              | (go_at_call 11; (refine (own_any a1 len1 cap1 l1 wr.drew (HW1.out.below hbr.drew) (by omega)).mono ?_; rintro e7 w7 ⟨A7, n7, c7, rfl, hB7, hc7, hb7, -⟩; have HB7 := Lib.hid hB7; have HN7 := Lib.hid (hB7.1.symm.trans hl1); have B7 : Below wr.heap.size wr w7 := (Below.refl wr.heap.size wr).drew.trans hb7; have K7 := Lib.hid (range_row (HRr.out.below B7 hltr)); clear hB7))
              | (go_at_call 10; (refine (HMZ.out j hj' _ _ _ _ _ _ w7 (HBL.out.below B7) HB7.out hc8 hc7 (HT2.out.below (hbr.trans (B7.mono hbr.size))) (by omega) (by have := HN7.out; omega)).mono ?_; rintro e8 w8 ⟨rfl, hb8⟩; have B8 : Below wr.heap.size wr w8 := B7.trans (hb8.mono B7.size); have K8 := Lib.hid (range_row (HRr.out.below B8 hltr))))
              | (go_at_call 9; (refine (awake_any w8 (HT2.out.below (hbr.trans (B8.mono hbr.size)))).mono ?_; rintro e9 w9 ⟨rfl, hb9⟩; have B9 : Below wr.heap.size wr w9 := B8.trans (hb9.mono B8.size); have K9 := Lib.hid (range_row (HRr.out.below B9 hltr)))))
          all_goals
            go_wp2_with fail
            go_ret
            exact ⟨rfl, hbr.trans (B9.mono hbr.size)⟩
set_option maxRecDepth 100000 in
set_option maxHeartbeats 1000000 in
theorem walk (w : World) (a0 : Option Addr) (len0 cap0 : Nat) (l0 : List UInt8) (w0 : Bs w a0 len0 l0) (s0 : len0 ≤ cap0 ∧ cap0 ≤ 140737488351232) (a1 : Option Addr) (len1 cap1 : Nat) (l1 : List UInt8) (w1 : Bs w a1 len1 l1) (s1 : len1 ≤ cap1 ∧ cap1 ≤ 140737488351232) (a2 : Int) (w2 : (Lit.int .i64 a2).wf = true) (hT : First w ∧ Tab 1 w ∧ Tab 2 w) :
    Calls Tryd.prog 7 #[.slice a0 len0 cap0, .slice a1 len1 cap1, .int .i64 a2] w fun e w' => e = .returned (.bool true) ∧ Below w.heap.size w w' := by
  have HT2 := Lib.hid hT.2.2
  by_cases h0 : len0 ≤ 500
  · have i0 : ¬ 500 < (len0 : Int) := by omega
    by_cases h1 : len1 ≤ 500
    · have i1 : ¬ 500 < (len1 : Int) := by omega
      by_cases h2 : a2 < 0
      · clear w0 w1 w2 hT
        go_enter Tryd.func7, Tryd.ntmps7
        go_wp2_with (go_at_call 9; refine (awake_any _ HT2.out).mono ?_; rintro e4 w4 ⟨rfl, hb4⟩)
        go_ret
        exact ⟨rfl, hb4⟩
      · by_cases h3 : 64 < a2
        · clear w0 w1 w2 hT
          go_enter Tryd.func7, Tryd.ntmps7
          go_wp2_with (go_at_call 9; refine (awake_any _ HT2.out).mono ?_; rintro e4 w4 ⟨rfl, hb4⟩)
          go_ret
          exact ⟨rfl, hb4⟩
        · obtain ⟨k, rfl⟩ : ∃ k : Nat, a2 = (k : Int) := ⟨a2.toNat, by omega⟩
          exact walk_ok w a0 len0 cap0 l0 w0 s0.1 a1 len1 cap1 l1 w1 k hT.1 hT.2.1 hT.2.2 h0 h1 (by omega)
    · have i1 : 500 < (len1 : Int) := by omega
      clear w0 w1 w2 hT
      go_enter Tryd.func7, Tryd.ntmps7
      go_wp2_with (go_at_call 9; refine (awake_any _ HT2.out).mono ?_; rintro e4 w4 ⟨rfl, hb4⟩)
      go_ret
      exact ⟨rfl, hb4⟩
  · have i0 : 500 < (len0 : Int) := by omega
    clear w0 w1 w2 hT
    go_enter Tryd.func7, Tryd.ntmps7
    go_wp2_with (go_at_call 9; refine (awake_any _ HT2.out).mono ?_; rintro e4 w4 ⟨rfl, hb4⟩)
    go_ret
    exact ⟨rfl, hb4⟩

set_option maxRecDepth 100000 in
theorem lifted (os : Os) (started : os.Started) (H : Type) (enc : TypeId × Value → H) :
    ReturnsInHanded {} Tryd.checked os 7 .any (fun w args => (Rows.macKeysSpec.pre enc Tryd.prog Tryd.f7 Rows.macKeysRow.domain false w args ∧ laidMetH Tryd.prog lay3 w) ∧ sizedMet enc Tryd.prog Tryd.f7 (OpenSpec.ofChange Rows.macKeysSpec) false w args)
      (Rows.macKeysSpec.post enc Tryd.prog Tryd.f7 false true false false) := by
  refine returnsInHanded_of_change_and (C := Tryd.checked) (X := fun w _ => laidMetH Tryd.prog lay3 w) (fun _ _ _ hh h => h.of_heap hh) own started (by kernel_rfl) Tryd.func7
    (ChangeSpec.witness_shaped (enc := enc) (C := Tryd.checked) (os := os) (X := fun w _ => laidMetH Tryd.prog lay3 w) false (World.laidAll Tryd.prog os lay3) #[.slice none 0 0, .slice none 0 0, .int .i64 0] 8 rfl (World.shaped_of_ZipB (by kernel_rfl) (by kernel_rfl)) (by kernel_rfl) (by kernel_rfl) (by kernel_rfl) (met3 os _)) ?_
  intro W base args ds gs before hval0 hW hcnd hsz0 hL _
  have hval : ∀ (j : Nat) t v, Tryd.f7.params[j]? = some t → args[j]? = some v → Value.okWide Tryd.prog W .any base t v := hval0
  have hW' := hW
  obtain ⟨p, q, hA0, hV, rfl, hfz, hnd⟩ := hW
  have hA : DataW.TrodAll enc Tryd.prog W 0 (fun _ => true) true Tryd.f7.params.toList args.toList ds p := hA0
  have hsz : (DataW.weightsEach Tryd.prog (Tryd.f7.params.toList ++ Rows.macKeysSpec.plain.varTypes Tryd.prog) (ds ++ gs)).all (· ≤ reachBytes) = true := hsz0
  rw [Tryd.params7] at hA hval hsz
  obtain ⟨v0, vs0, d0, ds0, p0, q0, hargs, rfl, rfl, h0, r0⟩ := trodAll_cons hA
  obtain ⟨v1, vs1, d1, ds1, p1, q1, rfl, rfl, rfl, h1, r1⟩ := trodAll_cons r0
  obtain ⟨v2, vs2, d2, ds2, p2, q2, rfl, rfl, rfl, h2, r2⟩ := trodAll_cons r1
  obtain ⟨rfl, rfl, rfl⟩ := trodAll_nil r2
  obtain rfl : args = #[v0, v1, v2] := by cases args; simp_all
  obtain ⟨rfl, rfl⟩ := trodVars_none hV
  obtain ⟨a0, len0, cap0, rfl⟩ := okWide_slice Tryd.underlying22 (hval 0 22 v0 rfl rfl)
  have k0 := h0
  have lt0 : ∀ x ∈ p0, x.block < W.heap.size := by obtain ⟨m, hm⟩ := k0; exact DataW.trod_lt m _ _ _ hm
  obtain ⟨l0, w0, s0⟩ : ∃ l, Bs W a0 len0 l ∧ len0 ≤ cap0 ∧ cap0 ≤ 140737488351232 := by
    obtain ⟨fuel, hf⟩ := h0
    rcases open_ints Tryd.underlying22 Tryd.underlying5 (by kernel_rfl) hf with ⟨hcs, _⟩ | ⟨x, l, c, zs, hcs, _, hl, hm, hz, hx, hcell, hwz⟩
    · simp [Value.cells] at hcs
      obtain ⟨rfl, rfl, rfl⟩ := hcs
      exact ⟨[], Bs.nil _ _, by omega, by omega⟩
    · simp [Value.cells] at hcs
      obtain ⟨rfl, rfl, rfl⟩ := hcs
      simp only [Prod.mk.injEq] at hx
      obtain ⟨rfl, _⟩ := hx
      have hb := sized_slice hsz (j := 0) (t := 22) (e := 5) rfl rfl Tryd.underlying22
      rw [show Tryd.prog.bytesOf 5 = 1 from by kernel_rfl] at hb
      simp only [lits, List.length_map, List.length_take, List.length_drop, reachBytes] at hb
      have hz' : zs.length = cap0 := by simpa using hz
      exact ⟨_, Bs.of_ints hl hz' hcell hwz, hl, by omega⟩
  obtain ⟨a1, len1, cap1, rfl⟩ := okWide_slice Tryd.underlying22 (hval 1 22 v1 rfl rfl)
  have k1 := h1
  have lt1 : ∀ x ∈ p1, x.block < W.heap.size := by obtain ⟨m, hm⟩ := k1; exact DataW.trod_lt m _ _ _ hm
  obtain ⟨l1, w1, s1⟩ : ∃ l, Bs W a1 len1 l ∧ len1 ≤ cap1 ∧ cap1 ≤ 140737488351232 := by
    obtain ⟨fuel, hf⟩ := h1
    rcases open_ints Tryd.underlying22 Tryd.underlying5 (by kernel_rfl) hf with ⟨hcs, _⟩ | ⟨x, l, c, zs, hcs, _, hl, hm, hz, hx, hcell, hwz⟩
    · simp [Value.cells] at hcs
      obtain ⟨rfl, rfl, rfl⟩ := hcs
      exact ⟨[], Bs.nil _ _, by omega, by omega⟩
    · simp [Value.cells] at hcs
      obtain ⟨rfl, rfl, rfl⟩ := hcs
      simp only [Prod.mk.injEq] at hx
      obtain ⟨rfl, _⟩ := hx
      have hb := sized_slice hsz (j := 1) (t := 22) (e := 5) rfl rfl Tryd.underlying22
      rw [show Tryd.prog.bytesOf 5 = 1 from by kernel_rfl] at hb
      simp only [lits, List.length_map, List.length_take, List.length_drop, reachBytes] at hb
      have hz' : zs.length = cap1 := by simpa using hz
      exact ⟨_, Bs.of_ints hl hz' hcell hwz, hl, by omega⟩
  obtain ⟨a2, rfl, rfl, rfl, w2⟩ := open_int Tryd.underlying3 (hval 2 3 v2 rfl rfl) h2
  have hTab := of_lay3 hL
  clear hA0 hval0
  refine (walk W a0 len0 cap0 l0 w0 s0 a1 len1 cap1 l1 w1 s1 a2 w2 hTab).mono fun e W' ⟨he, bel⟩ => ?_
  subst he
  exact ⟨_, rfl, _, _, _, [], _, [], hW', trodAll_mk1 (shut_bool Tryd.underlying4 _), (trodAll_cons_mk (Below.trod laidOut (by kernel_rfl) (of_decide_eq_true (by kernel_rfl)) k0 bel lt0) (trodAll_cons_mk (Below.trod laidOut (by kernel_rfl) (of_decide_eq_true (by kernel_rfl)) k1 bel lt1) (trodAll_cons_mk (shut_int Tryd.underlying3 w2) trodAll_mk0))), rfl, bel.frame _, fun h => by cases h⟩
theorem over : Rows.macKeysRow.holds Tryd.pinned (OpenSpec.ofChange Rows.macKeysSpec) :=
  OpenClaim.holds_of_wide 7 Tryd.f7 rfl rfl rfl rfl rfl rfl rfl ⟨rfl, rfl, rfl, rfl, rfl⟩ rfl rfl rfl rfl rfl (by kernel_rfl) Tryd.func7 (by kernel_rfl)
    (of_decide_eq_true (by kernel_rfl)) (by unfold Func.isWrapper; first | (rw [if_pos (by decide +kernel)]; kernel_rfl) | (rw [if_neg (by decide +kernel)]; exact ⟨rfl, rfl⟩))
    (fun os started H enc _ => lifted os started H enc)
theorem macKeys_holds : Rows.MacKeysCardSaid :=
  Claim7.holds_tied_plain_at .later [] [.data, .data, .data] true (true, "c1aaf16a699fb574ed9094ce5eacd068c6fd07693febcb0b710cf4b7deeb39ec") false
    over (fun _ h => by cases h) (by kernel_rfl) (fun _ h => by cases h) macKeys_row_tie rfl ⟨rfl, rfl⟩ (by kernel_rfl) rfl
    (fun f fn hf hfn => by
      obtain rfl : f = 7 := Option.some.inj ((show Tryd.prog.funcNamed "jurat/juratlaw03.MacKeys" = some 7 by kernel_rfl).symm.trans hf) |>.symm
      obtain rfl : fn = Tryd.f7 := (Option.some.inj (Tryd.func7.symm.trans hfn)).symm
      exact ⟨by kernel_rfl, fun j t ht => by
        rw [Tryd.params7] at ht
        have hm : t ∈ [22, 3] := by simpa using Array.mem_of_getElem? ht
        have hall : ([22, 3].all fun u => !Tryd.prog.wantsStandIn u) = true := by kernel_rfl
        exact (show Tryd.prog.wantsStandIn t = false by simpa using List.all_eq_true.1 hall t hm)⟩)
    (by kernel_rfl)
#print axioms macKeys_holds
end Go.Proofs.YtlndgefpmoooeaaDoor.macKeys
