/-
  Heads of slices of bytes and of lists, as equations; frames' first ones.
-/
import Derived.Test.YthiklmdjfcgejaaDoorFrE
namespace Go.Proofs.YthiklmdjfcgejaaDoor
open Go.RowKit
theorem cutI_head (A : Option Addr) (n c m : Nat) (hm : m ≤ n) (hnc : n ≤ c) :
    ∃ A', (∀ w, (Instr.sliceAt 22 (.slice A n c) none (some (.int .i64 (m : Int))) none).run Tryd.prog w = .ok (.slice A' m c) w) ∧ (∀ w l, Bs w A n l → Bs w A' m (l.take m)) := by
  refine ⟨if c = 0 then A else A.map (·.add (0 * 1)), fun w => ?_, fun w l hb => ?_⟩
  · have h2 : (m : Int) ≤ c := by omega
    simp [Instr.sliceAt, Instr.slice, run_underlying Tryd.byteTypes.ht, Instr.sliceBounds, run_sliceBound, h2]
  · by_cases hm0 : m = 0
    · subst hm0; rw [List.take_zero]; exact Bs.nil _ _
    · have hc : c ≠ 0 := by omega
      rw [if_neg hc]
      obtain ⟨b, off, x, hA, _⟩ := hb.get (k := 0) (by omega)
      subst hA
      rw [Option.map_some, Addr.add_mid]
      exact hb.take hm
theorem Bss.take {w : World} {A : Option Addr} {n m : Nat} {L : List (List UInt8)} (h : Bss w A n L) (hm : m ≤ n) : Bss w A m (L.take m) :=
  ⟨by rw [List.length_take, h.1]; omega, fun k l hk => by
    rw [List.getElem?_take] at hk
    split at hk
    · exact h.2 k l hk
    · cases hk⟩
theorem cutL_head (A : Option Addr) (n c m : Nat) (hm : m ≤ n) (hnc : n ≤ c) :
    ∃ A', (∀ w, (Instr.sliceAt 32 (.slice A n c) none (some (.int .i64 (m : Int))) none).run Tryd.prog w = .ok (.slice A' m c) w) ∧ (∀ w L, Bss w A n L → Bss w A' m (L.take m)) := by
  refine ⟨if c = 0 then A else A.map (·.add (0 * 1)), fun w => ?_, fun w L hb => ?_⟩
  · have h2 : (m : Int) ≤ c := by omega
    simp [Instr.sliceAt, Instr.slice, run_underlying Tryd.underlying32, Instr.sliceBounds, run_sliceBound, h2]
  · by_cases hm0 : m = 0
    · subst hm0; rw [List.take_zero]; exact Bss.nil _ _
    · have hc : c ≠ 0 := by omega
      rw [if_neg hc]
      obtain ⟨b, off, A', c', l, hA, _⟩ := hb.get (k := 0) (by omega)
      subst hA
      rw [Option.map_some, Addr.add_mid]
      exact hb.take hm
theorem frsB_take_le (L : List (List UInt8)) (k : Nat) : (frsB (L.take k)).length ≤ (frsB L).length := by
  have h : frsB L = frsB (L.take k) ++ frsB (L.drop k) := by rw [← frsB_append, List.take_append_drop]
  rw [h, List.length_append]; omega
end Go.Proofs.YthiklmdjfcgejaaDoor
