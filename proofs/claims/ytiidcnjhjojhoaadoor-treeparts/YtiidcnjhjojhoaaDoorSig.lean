/-
  What sha.choose, sha.majority and the four sigmas answer, for all words.
-/
import Derived.Test.YtiidcnjhjojhoaaDoorRot
import Derived.Test.YtiidcnjhjojhoaaDoorSpec
import Derived.Deep.QuietTactic
import Derived.BigQuiet
namespace Go.Proofs.YtiidcnjhjojhoaaDoor
open Go.RowKit
set_option maxHeartbeats 400000 in
theorem choose_any (x y z : Int) (w : World) :
    Calls Tryd.prog 40 #[.int .u32 x, .int .u32 y, .int .u32 z] w fun e w' => e = .returned (.int .u32 (chW x y z)) ∧ w = w' := by
  have hs : IntKind.u32.signed = false := rfl
  go_enter Tryd.func40, Tryd.ntmps40
  go_wp2
  go_ret
  exact ⟨rfl, rfl⟩
set_option maxHeartbeats 400000 in
theorem majority_any (x y z : Int) (w : World) :
    Calls Tryd.prog 42 #[.int .u32 x, .int .u32 y, .int .u32 z] w fun e w' => e = .returned (.int .u32 (majW x y z)) ∧ w = w' := by
  go_enter Tryd.func42, Tryd.ntmps42
  go_wp2
  go_ret
  exact ⟨rfl, rfl⟩
set_option maxHeartbeats 400000 in
theorem bS0_any (x : Int) (w : World) (hx0 : 0 ≤ x) (hx : x < 4294967296) :
    Calls Tryd.prog 41 #[.int .u32 x] w fun e w' => e = .returned (.int .u32 (bS0 x)) ∧ w = w' := by
  go_enter Tryd.func41, Tryd.ntmps41
  go_wp2_with (go_at_call 50; refine (Rot_any _ _ _ hx0 hx).mono ?_; rintro e w' ⟨rfl, rfl⟩)
  go_ret
  exact ⟨rfl, rfl⟩
set_option maxHeartbeats 400000 in
theorem bS1_any (x : Int) (w : World) (hx0 : 0 ≤ x) (hx : x < 4294967296) :
    Calls Tryd.prog 39 #[.int .u32 x] w fun e w' => e = .returned (.int .u32 (bS1 x)) ∧ w = w' := by
  go_enter Tryd.func39, Tryd.ntmps39
  go_wp2_with (go_at_call 50; refine (Rot_any _ _ _ hx0 hx).mono ?_; rintro e w' ⟨rfl, rfl⟩)
  go_ret
  exact ⟨rfl, rfl⟩
set_option maxHeartbeats 400000 in
theorem sS0_any (x : Int) (w : World) (hx0 : 0 ≤ x) (hx : x < 4294967296) :
    Calls Tryd.prog 45 #[.int .u32 x] w fun e w' => e = .returned (.int .u32 (sS0 x)) ∧ w = w' := by
  go_enter Tryd.func45, Tryd.ntmps45
  go_wp2_with (go_at_call 50; refine (Rot_any _ _ _ hx0 hx).mono ?_; rintro e w' ⟨rfl, rfl⟩)
  go_ret
  exact ⟨rfl, rfl⟩
set_option maxHeartbeats 400000 in
theorem sS1_any (x : Int) (w : World) (hx0 : 0 ≤ x) (hx : x < 4294967296) :
    Calls Tryd.prog 44 #[.int .u32 x] w fun e w' => e = .returned (.int .u32 (sS1 x)) ∧ w = w' := by
  go_enter Tryd.func44, Tryd.ntmps44
  go_wp2_with (go_at_call 50; refine (Rot_any _ _ _ hx0 hx).mono ?_; rintro e w' ⟨rfl, rfl⟩)
  go_ret
  exact ⟨rfl, rfl⟩
/-- eight words, as a value -/
def v8 (s : S8) : Value := .agg #[.int .u32 s.a, .int .u32 s.b, .int .u32 s.c, .int .u32 s.d, .int .u32 s.e, .int .u32 s.f, .int .u32 s.g, .int .u32 s.h]
/-- words, as cells -/
def wcells (l : List Int) : Array Value := (l.map fun x => Value.int .u32 x).toArray
theorem wcells_size (l : List Int) : (wcells l).size = l.length := by simp [wcells]
theorem wcells_get (l : List Int) (t : Nat) (h : t < l.length) : (wcells l)[t]? = some (.int .u32 (l.getD t 0)) := by
  simp [wcells, h]
/-- the table in block b holds the constants -/
def Tab (b : Nat) (w : World) : Prop := b < w.heap.size ∧ ∀ t, t < 64 → w.cell? ⟨b, t, none⟩ = some (.int .u32 (kAt t))
theorem Tab.below {b : Nat} {w w' : World} (h : Tab b w) (hb : Below w.heap.size w w') : Tab b w' :=
  ⟨Nat.lt_of_lt_of_le h.1 hb.size, fun t ht => (hb.cell (p := ⟨b, t, none⟩) h.1).trans (h.2 t ht)⟩
end Go.Proofs.YtiidcnjhjojhoaaDoor
