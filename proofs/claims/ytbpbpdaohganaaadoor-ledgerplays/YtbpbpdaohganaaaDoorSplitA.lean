/-
  What proof.split and the document's own split answer: the greatest power of two below a number.
-/
import Derived.Test.YtbpbpdaohganaaaDoorLists
import Derived.Test.YtbpbpdaohganaaaDoorLenA
import Derived.Test.YtbpbpdaohganaaaDoorDgs
namespace Go.Proofs.YtbpbpdaohganaaaDoor
open Go.RowKit
set_option maxRecDepth 100000 in
theorem split_any (n : Nat) (w : World) (h2 : 2 ≤ n) (hn : n ≤ 1024) : Calls Tryd.prog 50 #[.int .i64 (n : Int)] w fun e w' => e = .returned (.int .i64 ((splitN n : Nat) : Int)) ∧ w = w' := by
  have hl : lenN (n - 1) = Nat.log2 (n - 1) + 1 := by unfold lenN; rw [if_neg (by omega)]
  have hs : Nat.log2 (n - 1) ≤ 10 := by
    have := lenN_le (n - 1) 10 (by omega)
    omega
  have hw := wrap_pow hs
  have H := Len_any (n - 1) w (by omega)
  have e1 : IntKind.u64.wrap ((n : Int) - 1) = ((n - 1 : Nat) : Int) := by
    simp [IntKind.wrap, IntKind.bits, IntKind.signed]
    omega
  rw [hl] at H
  show Calls Tryd.prog 50 #[.int .i64 (n : Int)] w fun e w' => e = .returned (.int .i64 ((2 ^ Nat.log2 (n - 1) : Nat) : Int)) ∧ w = w'
  have H2 : Calls Tryd.prog 58 #[.int .u64 ((n - 1 : Nat) : Int)] w fun e w' => e = .returned (.int .i64 ((Nat.log2 (n - 1) : Nat) + 1 : Int)) ∧ w = w' := H
  generalize Nat.log2 (n - 1) = s at *
  generalize n - 1 = p at *
  have H3 := Lib.hid H2
  generalize 2 ^ s = T at *
  clear H H2 hl
  go_enter Tryd.func50, Tryd.ntmps50
  go_wp2_with (go_at_call 58; refine H3.out.mono ?_; rintro e1 w1 ⟨rfl, rfl⟩)
  go_ret
  exact ⟨by show Ending.returned (.int .i64 (wrap64 (2 ^ s))) = _; rw [hw], rfl⟩
set_option maxRecDepth 100000 in
theorem RefSplit_any (n : Nat) (w : World) (h2 : 2 ≤ n) (hn : n ≤ 9223372036854775807) : Calls Tryd.prog 52 #[.int .i64 (n : Int)] w fun e w' => e = .returned (.int .i64 ((splitN n : Nat) : Int)) ∧ w = w' := by
  obtain ⟨p, hp⟩ : ∃ p, n - 1 = p := ⟨_, rfl⟩
  have e1 : wrap64 ((n : Int) - 1) = (p : Int) := by unfold wrap64; omega
  have e2 : ((p : Int)).tdiv 2 = ((p / 2 : Nat) : Int) := by rw [Int.tdiv_eq_ediv_of_nonneg (by omega)]; rfl
  obtain ⟨q, hq⟩ : ∃ q, p / 2 = q := ⟨_, rfl⟩
  rw [hq] at e2
  have e5 : wrap64 (q : Int) = (q : Int) := by unfold wrap64; omega
  have HP := Lib.hid hp
  have HQ := Lib.hid hq
  have HN := Lib.hid hn
  have H2 := Lib.hid h2
  clear hp hq hn h2
  go_enter Tryd.func52, Tryd.ntmps52
  go_wp2
  go_loopw [3] (fun v wr => ∃ j T : Nat, T = 2 ^ j ∧ v = .int .i64 (T : Int) ∧ T ≤ p ∧ wr = w) (fun v _ => n - (intOf v).toNat)
  case atStart => exact ⟨0, 1, rfl, rfl, by rw [← HP.out]; have := H2.out; omega, rfl⟩
  case round =>
    obtain ⟨j, T, hT, rfl, hj, rfl⟩ := hrel
    have HT := Lib.hid hT
    have HJ := Lib.hid hj
    by_cases hlt : T ≤ q
    · have i1 : (T : Int) ≤ (q : Int) := by omega
      have hq2 : 2 * T ≤ p := by have := HQ.out; omega
      have e3 : wrap64 (2 * (T : Int)) = 2 * (T : Int) := by have := HN.out; have := HP.out; unfold wrap64; omega
      have HTp : 0 < T := by rw [hT]; exact Nat.pos_of_ne_zero (by simp)
      have HQ2 := Lib.hid hq2
      clear hlt hT hj hq2
      go_wp2
      rw [e3]
      refine ⟨⟨j + 1, 2 * T, by rw [Nat.pow_succ, HT.out]; omega, by simp, HQ2.out, trivial⟩, ?_⟩
      have := HN.out
      have := HP.out
      have := HQ2.out
      simp [intOf]
      omega
    · have i1 : ¬ (T : Int) ≤ (q : Int) := by omega
      have HI := Lib.hid hlt
      clear hlt hT hj
      go_wp2
      go_ret
      refine ⟨?_, rfl⟩
      have : splitN n = T := by
        rw [HT.out]
        have := HT.out
        have := HI.out
        have := HQ.out
        have := HP.out
        have := HJ.out
        have := H2.out
        exact splitN_eq (by omega) (by rw [Nat.pow_succ]; omega)
      rw [this]
      rfl
end Go.Proofs.YtbpbpdaohganaaaDoor
