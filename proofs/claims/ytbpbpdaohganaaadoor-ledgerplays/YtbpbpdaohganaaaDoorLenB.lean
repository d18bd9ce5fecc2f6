/-
  What the standard library's bits.TrailingZeros answers of a number above 0: how many zeros its binary digits end with.
-/
import Derived.Test.YtbpbpdaohganaaaDoorLenA
namespace Go.Proofs.YtbpbpdaohganaaaDoor
open Go.RowKit
theorem odd_part : ∀ m : Nat, 0 < m → ∃ t q, m = (2 * q + 1) * 2 ^ t := by
  intro m
  induction m using Nat.strongRecOn with
  | _ m ih =>
    intro h
    by_cases h2 : m % 2 = 1
    · exact ⟨0, m / 2, by rw [Nat.pow_zero]; omega⟩
    · obtain ⟨t, q, e⟩ := ih (m / 2) (by omega) (by omega)
      exact ⟨t + 1, q, by rw [Nat.pow_succ, ← Nat.mul_assoc, ← e]; omega⟩
theorem low_bit (t q m : Nat) (hm : m = (2 * q + 1) * 2 ^ t) (hlt : m < 2 ^ 64) : m &&& (2 ^ 64 - m) = 2 ^ t := by
  have hp : 0 < 2 ^ t := Nat.pos_of_ne_zero (by simp)
  have e1 : m = 2 ^ t * (2 * q + 1) + 0 := by rw [Nat.add_zero, hm, Nat.mul_comm]
  have e2 : m - 1 = 2 ^ t * (2 * q) + (2 ^ t - 1) := by
    rw [e1, Nat.mul_add]; omega
  have h0 : 0 < m := by rw [hm]; exact Nat.mul_pos (by omega) hp
  apply Nat.eq_of_testBit_eq
  intro i
  have e3 : 2 ^ 64 - m = 2 ^ 64 - ((m - 1) + 1) := by omega
  rw [Nat.testBit_and, e3, Nat.testBit_two_pow_sub_succ (by omega), Nat.testBit_two_pow]
  have b1 : m.testBit i = if i < t then (0 : Nat).testBit i else (2 * q + 1).testBit (i - t) := by
    conv => lhs; rw [e1]
    exact Nat.testBit_two_pow_mul_add _ hp _
  have b2 : (m - 1).testBit i = if i < t then (2 ^ t - 1).testBit i else (2 * q).testBit (i - t) := by
    rw [e2]
    exact Nat.testBit_two_pow_mul_add _ (by omega) _
  rw [b1, b2]
  by_cases hi : i < t
  · rw [if_pos hi, if_pos hi]
    simp
    omega
  · rw [if_neg hi, if_neg hi]
    by_cases he : i = t
    · subst he
      have ht : i < 64 := by
        by_cases hc : i < 64
        · exact hc
        · have : 2 ^ 64 ≤ 2 ^ i := Nat.pow_le_pow_right (by decide) (by omega)
          have : 2 ^ i ≤ m := by rw [hm]; exact Nat.le_mul_of_pos_left _ (by omega)
          omega
      simp [Nat.testBit_zero, ht]
    · obtain ⟨j, hj⟩ : ∃ j, i - t = j + 1 := ⟨i - t - 1, by omega⟩
      rw [hj, Nat.testBit_succ, Nat.testBit_succ, show (2 * q + 1) / 2 = q by omega, show 2 * q / 2 = q by omega]
      have : ¬ t = i := by omega
      simp [this]
      exact fun h _ => h
theorem db_at : ∀ t : Nat, t < 64 → dbL.getD ((2 ^ t * 285870213051353865 % 18446744073709551616) / 288230376151711744) 0 = (t : Int) := by decide +kernel
theorem and_u64 (a b : Nat) (ha : a < 18446744073709551616) (hb : b < 18446744073709551616) : bits .and .u64 (a : Int) (b : Int) = ((a &&& b : Nat) : Int) := by
  have hx : a &&& b < 2 ^ 64 := Nat.and_lt_two_pow _ (by omega)
  show IntKind.u64.wrap ((BitVec.ofInt 64 (a : Int) &&& BitVec.ofInt 64 (b : Int)).toNat : Int) = _
  rw [BitVec.toNat_and, ofInt_u64 a ha, ofInt_u64 b hb]
  simp [IntKind.wrap, IntKind.bits, IntKind.signed]
  omega
theorem wrap_neg (m : Nat) (h0 : 0 < m) (h : m < 18446744073709551616) : IntKind.u64.wrap (-(m : Int)) = ((18446744073709551616 - m : Nat) : Int) := by
  simp [IntKind.wrap, IntKind.bits, IntKind.signed]
  omega
theorem wrap_mul (p : Nat) : IntKind.u64.wrap ((p : Int) * 285870213051353865) = ((p * 285870213051353865 % 18446744073709551616 : Nat) : Int) := by
  simp [IntKind.wrap, IntKind.bits, IntKind.signed]
set_option maxRecDepth 100000 in
theorem TZ64_any (t q m : Nat) (w : World) (hm : m = (2 * q + 1) * 2 ^ t) (hlt : m < 18446744073709551616) (hT : TabB w) : Calls Tryd.prog 65 #[.int .u64 (m : Int)] w fun e w' => e = .returned (.int .i64 (t : Int)) ∧ w = w' := by
  have hp : 0 < 2 ^ t := Nat.pos_of_ne_zero (by simp)
  have h0 : 0 < m := by rw [hm]; exact Nat.mul_pos (by omega) hp
  have ht : t < 64 := by
    by_cases hc : t < 64
    · exact hc
    · have h1 : 2 ^ 64 ≤ 2 ^ t := Nat.pow_le_pow_right (by decide) (by omega)
      have h2 : 2 ^ t ≤ m := by rw [hm]; exact Nat.le_mul_of_pos_left _ (by omega)
      omega
  have e1 := wrap_neg m h0 hlt
  have e2 : bits .and .u64 (m : Int) ((18446744073709551616 - m : Nat) : Int) = ((2 ^ t : Nat) : Int) := by
    rw [and_u64 m _ hlt (by omega)]
    congr 1
    exact low_bit t q m hm hlt
  have e3 := wrap_mul (2 ^ t)
  have e4 := hT.2 ((2 ^ t * 285870213051353865 % 18446744073709551616) / 288230376151711744) (by omega)
  rw [db_at t ht] at e4
  have hk : (2 ^ t * 285870213051353865 % 18446744073709551616) / 288230376151711744 < 64 := by omega
  obtain ⟨k, hk1⟩ : ∃ k, (2 ^ t * 285870213051353865 % 18446744073709551616) / 288230376151711744 = k := ⟨_, rfl⟩
  rw [hk1] at e4 hk
  have e5 : ((2 ^ t * 285870213051353865 % 18446744073709551616 : Nat) : Int) / 288230376151711744 = (k : Int) := by rw [← hk1]; rfl
  generalize 2 ^ t * 285870213051353865 % 18446744073709551616 = V at *
  generalize 2 ^ t = T at *
  generalize 18446744073709551616 - m = M at *
  have hb4 := hT.1
  have e6 : ((m : Int) == 0) = false := by simp; omega
  have e7 := w64 (t : Int) (by omega) (by omega)
  clear hp hm hlt hk1 ht h0
  go_enter Tryd.func65, Tryd.ntmps65
  go_wp2
  go_ret
  refine ⟨?_, rfl⟩
  first
    | rfl
    | (show Ending.returned (.int .i64 (wrap64 (t : Int))) = _; rw [e7])
theorem TZ_any (t q m : Nat) (w : World) (hm : m = (2 * q + 1) * 2 ^ t) (hlt : m < 18446744073709551616) (hT : TabB w) : Calls Tryd.prog 45 #[.int .u64 (m : Int)] w fun e w' => e = .returned (.int .i64 (t : Int)) ∧ w = w' := by
  have H := Lib.hid (TZ64_any t q m w hm hlt hT)
  clear hm hlt hT
  go_enter Tryd.func45, Tryd.ntmps45
  go_wp2_with (go_at_call 65; refine H.out.mono ?_; rintro e1 w1 ⟨rfl, rfl⟩)
  go_ret
  exact ⟨rfl, rfl⟩
end Go.Proofs.YtbpbpdaohganaaaDoor
