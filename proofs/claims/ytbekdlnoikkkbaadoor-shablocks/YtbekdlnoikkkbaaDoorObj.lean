/-
  What sha.New, (*sha.Hash).Len, (*sha.Hash).Clone answer, and a nil hash.
-/
import Derived.Test.YtbekdlnoikkkbaaDoorHash
import Derived.Test.YtbekdlnoikkkbaaDoorPad
import Derived.Test.YtbekdlnoikkkbaaDoorJoin
import Derived.Test.YtbekdlnoikkkbaaDoorWrite
namespace Go.Proofs.YtbekdlnoikkkbaaDoor
open Go.RowKit
theorem Tryd.agg63' : AggType Tryd.prog 63 73 := ⟨_, Tryd.underlying63, rfl, by kernel_rfl⟩
def zeros64 : List UInt8 := List.replicate 64 0
theorem zero63 : (Tryd.prog.info? 63).map (fun i => (i.zero, i.size)) = some (some (.agg (hcells ⟨0, 0, 0, 0, 0, 0, 0, 0⟩ zeros64 0)), 73) := by kernel_rfl
theorem built63 : Tryd.prog.built 63 [(0, v8 firstS)] = some (hcells firstS zeros64 0) := by kernel_rfl
theorem HashAt.new {w : World} {g : Nat} (h : Row w g 63 (hcells firstS zeros64 0)) : HashAt w g [] := ⟨zeros64, rfl, h, rfl⟩
set_option maxRecDepth 100000 in
set_option maxHeartbeats 400000 in
theorem firstWords_any (w : World) : Calls Tryd.prog 29 #[] w fun e w' => e = .returned (v8 firstS) ∧ Below w.heap.size w w' := by
  go_enter Tryd.func29, Tryd.ntmps29
  go_wp2
  refine bodyPost_ret (v := v8 firstS) ?_ rfl ⟨rfl, ?_⟩
  · exact results_row1 Tryd.agg29 Tryd.results29 rfl (Row.new w 29 _) rfl
  · exact (Below.refl _ _).alloc (Nat.le_refl _) _
def NewHash (w : World) (e : Ending) (w' : World) : Prop := ∃ g, e = .returned (.pointer (some ⟨g, 0, none⟩)) ∧ w.heap.size ≤ g ∧ HashAt w' g [] ∧ Below w.heap.size w w'
set_option maxRecDepth 100000 in
set_option maxHeartbeats 400000 in
theorem New_any (w : World) : Calls Tryd.prog 17 #[] w (NewHash w) := by
  have HBu := Lib.hid built63
  go_enter Tryd.func17, Tryd.ntmps17
  go_wp2_with (first
    | (go_at_call 29; refine (firstWords_any _).mono ?_; rintro e w1 ⟨rfl, hb1⟩)
    | (with_reducible refine wpList_build rfl 63 #[(0, .tmp 1)] rfl ?hf ?_; rotate_left))
  · have e : (Tryd.prog.built 63 [(0, v8 firstS)]).getD #[] = hcells firstS zeros64 0 := by rw [HBu.out]; rfl
    rw [e]
    go_ret
    exact ⟨_, rfl, hb1.size, HashAt.new (Row.new w1 63 _), hb1.alloc hb1.size _⟩
  case hf => rw [HBu.out]; rfl
set_option maxHeartbeats 400000 in
theorem Len_any (g : Nat) (m : List UInt8) (w : World) (h : HashAt w g m) :
    Calls Tryd.prog 20 #[.pointer (some ⟨g, 0, none⟩)] w fun e w' => e = .returned (.int .i64 (m.length : Int)) ∧ w = w' := by
  obtain ⟨P, hP, hr, _⟩ := h
  have hc : w.cell? ⟨g, 72, none⟩ = some (.int .i64 (m.length : Int)) := (hr.cell 72).trans (hcells_72 _ P _ hP)
  clear hr hP
  go_enter Tryd.func20, Tryd.ntmps20
  go_wp2
  go_ret
  exact ⟨rfl, rfl⟩
set_option maxHeartbeats 400000 in
theorem Len_nil (w : World) : Calls Tryd.prog 20 #[.pointer none] w fun e w' => e = .returned (.int .i64 0) ∧ w = w' := by
  go_enter Tryd.func20, Tryd.ntmps20
  go_wp2
  go_ret
  exact ⟨rfl, rfl⟩
set_option maxHeartbeats 400000 in
theorem Write_nil (A : Option Addr) (n c : Nat) (w : World) : Calls Tryd.prog 18 #[.pointer none, .slice A n c] w fun e w' => e = .returned (.tuple #[]) ∧ w = w' := by
  go_enter Tryd.func18, Tryd.ntmps18
  go_wp2
  exact bodyPost_ret (v := .tuple #[]) (by simp [results, Tryd.results18]) rfl ⟨rfl, rfl⟩
set_option maxHeartbeats 400000 in
theorem Clone_nil (w : World) : Calls Tryd.prog 21 #[.pointer none] w fun e w' => e = .returned (.pointer none) ∧ w = w' := by
  go_enter Tryd.func21, Tryd.ntmps21
  go_wp2
  go_ret
  exact ⟨rfl, rfl⟩
def zero32 : List UInt8 := List.replicate 32 0
theorem zero25 : (Tryd.prog.info? 25).map (fun i => (i.zero, i.size)) = some (some (.agg (bcells zero32)), 32) := by kernel_rfl
theorem built25 : Tryd.prog.built 25 [] = some (bcells zero32) := by kernel_rfl
/-- a hash of its own, of the message m -/
def NewClone (w : World) (m : List UInt8) (e : Ending) (w' : World) : Prop := ∃ g, e = .returned (.pointer (some ⟨g, 0, none⟩)) ∧ w.heap.size ≤ g ∧ HashAt w' g m ∧ Below w.heap.size w w'
def z73 : Array Value := hcells ⟨0, 0, 0, 0, 0, 0, 0, 0⟩ zeros64 0
theorem z73_size : z73.size = 73 := rfl
theorem zeroV63 (w : World) : (zeroValue 63).run Tryd.prog w = .ok (.agg z73) w := (zero_of_info zero63).1 w
set_option maxRecDepth 100000 in
set_option maxHeartbeats 400000 in
theorem Clone_any (g : Nat) (m : List UInt8) (w : World) (h : HashAt w g m) : Calls Tryd.prog 21 #[.pointer (some ⟨g, 0, none⟩)] w (NewClone w m) := by
  obtain ⟨P, hP, hr, ht⟩ := h
  have HR := Lib.hid hr
  have HS := Lib.hid (show (hcells (compN m (m.length / 64)) P m.length).size = 73 by rw [hcells_size, hP])
  have hz := zeroV63
  clear hr
  go_enter Tryd.func21, Tryd.ntmps21
  go_wp2_with (first
    | (with_reducible refine wpList_load_row Tryd.agg63' rfl (.tmp 7) rfl _ rfl 63 _ HR.out HS.out ?_)
    | (with_reducible refine wpList_store_row Tryd.agg63' rfl (.tmp 3) (.tmp 8) rfl _ _ rfl rfl 63 z73 (Row.new w 63 z73) HS.out z73_size (hcells_one _ _ _) ?_; intro w9 hr9 ho9; have HR9 := Lib.hid hr9; clear hr9))
  go_ret
  exact ⟨_, rfl, Nat.le_refl _, ⟨P, hP, HR9.out, ht⟩, ((Below.refl _ _).alloc (Nat.le_refl _) _).trans (ho9.below (Nat.le_refl _) (by simp))⟩
end Go.Proofs.YtbekdlnoikkkbaaDoor
