/-
  What bits.Rot and juratref01.Rot answer: the word that is turned, for every word and every number of places.
-/
import Derived.Test.YtiidcnjhjojhoaaDoorProg
import Derived.Test.YtiidcnjhjojhoaaDoorPlain
import Derived.WalkKit
import Derived.WalkSpells
import Derived.WalkLawsBesides
import Derived.Lib.Hide
namespace Go.Proofs.YtiidcnjhjojhoaaDoor
open Go.RowKit
theorem ret_int {k : IntKind} {a b : Int} (h : a = b) : Ending.returned (.int k a) = .returned (.int k b) := by rw [h]
set_option maxHeartbeats 400000 in
theorem Rot_any (x n : Int) (w : World) (hx0 : 0 ≤ x) (hx : x < 4294967296) :
    Calls Tryd.prog 50 #[.int .u32 x, .int .i64 n] w fun e w' => e = .returned (.int .u32 (rotI x n)) ∧ w = w' := by
  obtain ⟨k, hk⟩ : ∃ k : Nat, n % 32 = k := ⟨(n % 32).toNat, by omega⟩
  have hk32 : k < 32 := by omega
  have hend := Lib.hid (rot_prog x n k hx0 hx hk)
  have hmod : (IntKind.u64.wrap n).tmod 32 = k := by rw [u64_mod32, hk]
  clear hk
  go_enter Tryd.func50, Tryd.ntmps50
  go_wp2
  go_ret
  exact ⟨ret_int hend.out, rfl⟩

theorem tmod_cases (n : Int) : ∃ t : Int, n.tmod 32 = t ∧ -32 < t ∧ t < 32 ∧ (t < 0 → n % 32 = t + 32) ∧ (0 ≤ t → n % 32 = t) := by
  refine ⟨n.tmod 32, rfl, ?_, ?_, ?_, ?_⟩ <;> rcases Int.le_total 0 n with h | h
  all_goals first
    | (rw [Int.tmod_eq_emod_of_nonneg h]; omega)
    | (obtain ⟨m, hm⟩ : ∃ m, n = -m := ⟨-n, by omega⟩
       subst hm
       rw [Int.neg_tmod, Int.tmod_eq_emod_of_nonneg (by omega)]; omega)
set_option maxHeartbeats 400000 in
theorem RefRot_any (x n : Int) (w : World) (hx0 : 0 ≤ x) (hx : x < 4294967296) :
    Calls Tryd.prog 49 #[.int .u32 x, .int .i64 n] w fun e w' => e = .returned (.int .u32 (rotI x n)) ∧ w = w' := by
  obtain ⟨t, ht, ht1, ht2, hneg, hpos⟩ := tmod_cases n
  by_cases h : t < 0
  · have hd : decide (t < 0) = true := by simpa using h
    obtain ⟨k, hk⟩ : ∃ k : Nat, t + 32 = k := ⟨(t + 32).toNat, by omega⟩
    have hk32 : k < 32 := by omega
    have HE := Lib.hid (show n % 32 = k by rw [hneg h, hk])
    clear hneg hpos
    go_enter Tryd.func49, Tryd.ntmps49
    go_wp2
    go_loop [0, 5] (fun x' i => ∃ j : Nat, j ≤ k ∧ i = .int .i64 j ∧ x' = .int .u32 (rotI x j)) (fun _ i => k - (intOf i).toNat)
    case atStart => exact ⟨0, Nat.zero_le _, rfl, by simp [rotI_0]⟩
    case round =>
      obtain ⟨j, hj, rfl, rfl⟩ := hrel
      have hr := rotI_lt x j hx0 hx
      have hst := Lib.hid (rotI_step x j hx0 hx)
      by_cases hlt : j < k
      · go_wp2
        go_round
        case rel => exact ⟨j + 1, by omega, by go_num, by rw [show ((j + 1 : Nat) : Int) = (j : Int) + 1 from rfl, hst.out]⟩
        case measure => simp [intOf]; omega
      · go_wp2
        go_ret
        have : j = k := by omega
        exact ⟨ret_int (by rw [this, ← HE.out, rotI_mod]), rfl⟩
  · have hd : decide (t < 0) = false := by simpa using h
    obtain ⟨k, rfl⟩ : ∃ k : Nat, t = k := ⟨t.toNat, by omega⟩
    have hk32 : k < 32 := by omega
    have HE := Lib.hid (show n % 32 = k by rw [hpos (by omega)])
    clear hneg hpos
    go_enter Tryd.func49, Tryd.ntmps49
    go_wp2
    go_loop [0, 5] (fun x' i => ∃ j : Nat, j ≤ k ∧ i = .int .i64 j ∧ x' = .int .u32 (rotI x j)) (fun _ i => k - (intOf i).toNat)
    case atStart => exact ⟨0, Nat.zero_le _, rfl, by simp [rotI_0]⟩
    case round =>
      obtain ⟨j, hj, rfl, rfl⟩ := hrel
      have hr := rotI_lt x j hx0 hx
      have hst := Lib.hid (rotI_step x j hx0 hx)
      by_cases hlt : j < k
      · go_wp2
        go_round
        case rel => exact ⟨j + 1, by omega, by go_num, by rw [show ((j + 1 : Nat) : Int) = (j : Int) + 1 from rfl, hst.out]⟩
        case measure => simp [intOf]; omega
      · go_wp2
        go_ret
        have : j = k := by omega
        exact ⟨ret_int (by rw [this, ← HE.out, rotI_mod]), rfl⟩
end Go.Proofs.YtiidcnjhjojhoaaDoor
