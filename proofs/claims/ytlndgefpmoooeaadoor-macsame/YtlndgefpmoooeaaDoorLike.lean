/-
  What mac.byteAt and mac.Same answer: whether two texts are the same, and how many bytes the longer one has; juratref03.Same the same.
-/
import Derived.Test.YtlndgefpmoooeaaDoorByte
import Derived.Test.YtlndgefpmoooeaaDoorSame
import Derived.Test.YtlndgefpmoooeaaDoorCalls
import Derived.Test.YtlndgefpmoooeaaDoorArr
namespace Go.Proofs.YtlndgefpmoooeaaDoor
open Go.RowKit
def orsL (l r : List UInt8) : Nat → UInt8
  | 0 => 0
  | k + 1 => orsL l r k ||| (l.getD k 0 ^^^ r.getD k 0)
theorem orsL_zero (l r : List UInt8) : ∀ k, orsL l r k = 0 ↔ ∀ j, j < k → l.getD j 0 = r.getD j 0
  | 0 => by simp [orsL]
  | k + 1 => by
    rw [orsL, or_zero, orsL_zero l r k, xor_zero]
    refine ⟨fun ⟨h1, h2⟩ j hj => ?_, fun h => ⟨fun j hj => h j (by omega), h k (by omega)⟩⟩
    by_cases e : j = k
    · subst e; exact h2
    · exact h1 j (by omega)
theorem orsL_same (l r : List UInt8) (k : Nat) (hk : k = max l.length r.length) : (orsL l r k = 0 ∧ l.length = r.length) ↔ l = r := by
  rw [orsL_zero]
  refine ⟨fun ⟨h, hl⟩ => List.ext_getElem? fun j => ?_, fun h => by subst h; exact ⟨fun _ _ => rfl, rfl⟩⟩
  by_cases hj : j < l.length
  · have := h j (by omega)
    rw [List.getD_eq_getElem?_getD, List.getD_eq_getElem?_getD, List.getElem?_eq_getElem hj, List.getElem?_eq_getElem (by omega)] at this
    rw [List.getElem?_eq_getElem hj, List.getElem?_eq_getElem (by omega)]
    simpa using this
  · rw [List.getElem?_eq_none (by omega), List.getElem?_eq_none (by omega)]
set_option maxHeartbeats 400000 in
theorem byteAt_any (A : Option Addr) (n c : Nat) (l : List UInt8) (i : Nat) (w : World) (h : Bs w A n l) :
    Calls Tryd.prog 25 #[.slice A n c, .int .i64 (i : Int)] w fun e w' => e = .returned (.int .u8 ((l.getD i 0).toNat : Int)) ∧ w = w' := by
  have hl := h.1
  by_cases hi : i < n
  · obtain ⟨b, off, x, rfl, hb, hx, hc⟩ := h.get hi
    have i1 : (i : Int) < (n : Int) := by omega
    have i0 : (0 : Int) ≤ (i : Int) := by omega
    have e : l.getD i 0 = x := by rw [List.getD_eq_getElem?_getD, hx]; rfl
    rw [e]
    clear h
    go_enter Tryd.func25, Tryd.ntmps25
    go_wp2
    go_ret
    exact ⟨rfl, rfl⟩
  · have i1 : ¬ (i : Int) < (n : Int) := by omega
    have e : l.getD i 0 = 0 := by rw [List.getD_eq_getElem?_getD, List.getElem?_eq_none (by omega)]; rfl
    rw [e]
    clear h
    go_enter Tryd.func25, Tryd.ntmps25
    go_wp2
    go_ret
    exact ⟨rfl, rfl⟩
set_option maxHeartbeats 1000000 in
theorem SameM_any (A B : Option Addr) (n m c d : Nat) (l r : List UInt8) (w : World) (hA : Bs w A n l) (hB : Bs w B m r) (hn : n ≤ 281474976710656) (hm : m ≤ 281474976710656) :
    Calls Tryd.prog 13 #[.slice A n c, .slice B m d] w fun e w' => e = .returned (.tuple #[.bool (decide (l = r)), .int .i64 ((max n m : Nat) : Int)]) ∧ w = w' := by
  have HA := Lib.hid hA
  have HB := Lib.hid hB
  have hl1 := hA.1
  have hl2 := hB.1
  obtain ⟨M, hM⟩ : ∃ M, max n m = M := ⟨_, rfl⟩
  have hMb : M ≤ 281474976710656 := by omega
  have HM := Lib.hid hM
  clear hA hB
  go_enter Tryd.func13, Tryd.ntmps13
  go_wp2_with fail
  all_goals
    go_loopw [6, 7, 14] (fun u s i wr => ∃ k : Nat, k ≤ M ∧ u = .int .u8 ((orsL l r k).toNat : Int) ∧ s = .int .i64 (k : Int) ∧ i = .int .i64 (k : Int) ∧ wr = w) (fun _ _ i _ => M - (intOf i).toNat)
    case atStart => exact ⟨0, Nat.zero_le _, rfl, rfl, rfl, rfl⟩
    case round =>
      obtain ⟨k, hk, rfl, rfl, rfl, rfl⟩ := hrel
      by_cases hlt : k < M
      · first
          | have i1 : (k : Int) < (n : Int) := by omega
          | have i1 : (k : Int) < (m : Int) := by omega
        go_wp2_with (first
          | (with_reducible (go_at_call 25; refine (byteAt_any A n c l k _ HA.out).mono ?_); rintro e1 w1 ⟨rfl, rfl⟩)
          | (go_at_call 25; refine (byteAt_any B m d r k _ HB.out).mono ?_; rintro e1 w1 ⟨rfl, rfl⟩))
        refine ⟨⟨k + 1, hlt, ?_, by go_num, by go_num, trivial⟩, by simp [intOf]; omega⟩
        rw [u8_xor, u8_or]; rfl
      · obtain rfl : k = M := by omega
        have i1 : ¬ (k : Int) < (n : Int) := by omega
        have i2 : ¬ (k : Int) < (m : Int) := by omega
        have hs := orsL_same l r k (by omega)
        rw [hl1, hl2] at hs
        obtain ⟨z, hz⟩ : ∃ z : Int, ((orsL l r k).toNat : Int) = z := ⟨_, rfl⟩
        have hz0 : orsL l r k = 0 ↔ z = 0 := by
          rw [← hz, ← UInt8.toNat_inj]; simp
        rw [hz0] at hs
        rw [hz]
        by_cases hl : l = r
        · obtain ⟨rfl, e2⟩ := hs.2 hl
          subst e2
          go_wp2_with fail
          go_ret2
          first | exact ⟨rfl, rfl⟩ | exact ⟨by simp [hl]; exact HM.out.symm, rfl⟩
        · have e1 := fun h => hl (hs.1 h)
          by_cases e0 : z = 0
          · have e2 : ¬ (n : Int) = (m : Int) := fun h => e1 ⟨e0, by omega⟩
            subst e0
            have e3 : ((n : Int) == (m : Int)) = false := by simpa using e2
            go_wp2_with fail
            go_ret2
            first | exact ⟨rfl, rfl⟩ | exact ⟨by simp [hl]; exact HM.out.symm, rfl⟩
          · go_wp2_with fail
            go_ret2
            first | exact ⟨rfl, rfl⟩ | exact ⟨by simp [hl]; exact HM.out.symm, rfl⟩
theorem RefSame_dec (A B : Option Addr) (n m c d : Nat) (l r : List UInt8) (w : World) (h : Bs w A n l) (h2 : Bs w B m r) (hn : n ≤ 281474976710656) (hm : m ≤ 281474976710656) :
    Calls Tryd.prog 17 #[.slice A n c, .slice B m d] w fun e w' => e = .returned (.bool (decide (l = r))) ∧ ∃ k, w' = w.drewN k := by
  by_cases hl : l = r
  · rw [decide_eq_true hl]; subst hl; exact Same_same A B n m c d l w h h2 hn
  · rw [decide_eq_false hl]; exact Same_no A B n m c d l r w h h2 hn hm hl
set_option maxHeartbeats 1000000 in
theorem RefSame3_any (A B : Option Addr) (n m c d : Nat) (l r : List UInt8) (w : World) (hA : Bs w A n l) (hB : Bs w B m r) (hn : n ≤ 281474976710656) (hm : m ≤ 281474976710656) :
    Calls Tryd.prog 14 #[.slice A n c, .slice B m d] w fun e w' => e = .returned (.tuple #[.bool (decide (l = r)), .int .i64 ((max n m : Nat) : Int)]) ∧ ∃ k, w' = w.drewN k := by
  have HA := Lib.hid hA
  have HB := Lib.hid hB
  have HD := Lib.hid (RefSame_dec A B n m c d l r w hA hB hn hm)
  obtain ⟨b, hb⟩ : ∃ b, decide (l = r) = b := ⟨_, rfl⟩
  rw [hb] at HD ⊢
  clear hA hB hb
  go_enter Tryd.func14, Tryd.ntmps14
  go_wp2_with (go_at_call 17; refine HD.out.mono ?_; rintro e1 w1 ⟨rfl, k1, rfl⟩)
  all_goals
    go_ret2
    refine ⟨?_, k1, rfl⟩
    first
      | (rw [show max n m = m by omega]; rfl)
      | (rw [show max n m = n by omega]; rfl)
end Go.Proofs.YtlndgefpmoooeaaDoor
