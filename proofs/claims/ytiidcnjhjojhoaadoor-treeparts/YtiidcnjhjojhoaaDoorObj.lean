/-
  What sha.New, (*sha.Hash).Len, (*sha.Hash).Clone answer, and a nil hash.
-/
import Derived.Test.YtiidcnjhjojhoaaDoorHash
import Derived.Test.YtiidcnjhjojhoaaDoorPad
import Derived.Test.YtiidcnjhjojhoaaDoorJoin
import Derived.Test.YtiidcnjhjojhoaaDoorWrite
namespace Go.Proofs.YtiidcnjhjojhoaaDoor
open Go.RowKit
theorem Tryd.agg63' : AggType Tryd.prog 61 73 := ⟨_, Tryd.underlying61, rfl, by kernel_rfl⟩
def zeros64 : List UInt8 := List.replicate 64 0
theorem zero63 : (Tryd.prog.info? 61).map (fun i => (i.zero, i.size)) = some (some (.agg (hcells ⟨0, 0, 0, 0, 0, 0, 0, 0⟩ zeros64 0)), 73) := by kernel_rfl
theorem built63 : Tryd.prog.built 61 [(0, v8 firstS)] = some (hcells firstS zeros64 0) := by kernel_rfl
theorem HashAt.new {w : World} {g : Nat} (h : Row w g 61 (hcells firstS zeros64 0)) : HashAt w g [] := ⟨zeros64, rfl, h, rfl⟩
set_option maxRecDepth 100000 in
set_option maxHeartbeats 400000 in
theorem firstWords_any (w : World) : Calls Tryd.prog 32 #[] w fun e w' => e = .returned (v8 firstS) ∧ Below w.heap.size w w' := by
  go_enter Tryd.func32, Tryd.ntmps32
  go_wp2
  refine bodyPost_ret (v := v8 firstS) ?_ rfl ⟨rfl, ?_⟩
  · exact results_row1 Tryd.agg29 Tryd.results32 rfl (Row.new w 57 _) rfl
  · exact (Below.refl _ _).alloc (Nat.le_refl _) _
def NewHash (w : World) (e : Ending) (w' : World) : Prop := ∃ g, e = .returned (.pointer (some ⟨g, 0, none⟩)) ∧ w.heap.size ≤ g ∧ HashAt w' g [] ∧ Below w.heap.size w w'
set_option maxRecDepth 100000 in
set_option maxHeartbeats 400000 in
theorem New_any (w : World) : Calls Tryd.prog 26 #[] w (NewHash w) := by
  have HBu := Lib.hid built63
  go_enter Tryd.func26, Tryd.ntmps26
  go_wp2_with (first
    | (go_at_call 32; refine (firstWords_any _).mono ?_; rintro e w1 ⟨rfl, hb1⟩)
    | (with_reducible refine wpList_build rfl 61 #[(0, .tmp 1)] rfl ?hf ?_; rotate_left))
  · have e : (Tryd.prog.built 61 [(0, v8 firstS)]).getD #[] = hcells firstS zeros64 0 := by rw [HBu.out]; rfl
    rw [e]
    go_ret
    exact ⟨_, rfl, hb1.size, HashAt.new (Row.new w1 61 _), hb1.alloc hb1.size _⟩
  case hf => rw [HBu.out]; rfl


set_option maxHeartbeats 400000 in
theorem Write_nil (A : Option Addr) (n c : Nat) (w : World) : Calls Tryd.prog 27 #[.pointer none, .slice A n c] w fun e w' => e = .returned (.tuple #[]) ∧ w = w' := by
  go_enter Tryd.func27, Tryd.ntmps27
  go_wp2
  exact bodyPost_ret (v := .tuple #[]) (by simp [results, Tryd.results27]) rfl ⟨rfl, rfl⟩
def zero32 : List UInt8 := List.replicate 32 0
theorem zero25 : (Tryd.prog.info? 24).map (fun i => (i.zero, i.size)) = some (some (.agg (bcells zero32)), 32) := by kernel_rfl
theorem built25 : Tryd.prog.built 24 [] = some (bcells zero32) := by kernel_rfl
/-- a hash of its own, of the message m -/
def NewClone (w : World) (m : List UInt8) (e : Ending) (w' : World) : Prop := ∃ g, e = .returned (.pointer (some ⟨g, 0, none⟩)) ∧ w.heap.size ≤ g ∧ HashAt w' g m ∧ Below w.heap.size w w'
def z73 : Array Value := hcells ⟨0, 0, 0, 0, 0, 0, 0, 0⟩ zeros64 0
theorem z73_size : z73.size = 73 := rfl
theorem zeroV63 (w : World) : (zeroValue 61).run Tryd.prog w = .ok (.agg z73) w := (zero_of_info zero63).1 w
end Go.Proofs.YtiidcnjhjojhoaaDoor
