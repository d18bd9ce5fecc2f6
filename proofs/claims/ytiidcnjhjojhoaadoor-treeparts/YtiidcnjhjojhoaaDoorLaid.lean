/-
  From a row's condition on the listed tables to what the walks ask: the constants and the first words stand in their blocks. A world that meets each condition.
-/
import Derived.Test.YtiidcnjhjojhoaaDoorRows
import Derived.Test.YtiidcnjhjojhoaaDoorSig
import Derived.Test.YtiidcnjhjojhoaaDoorRefBlock
import Derived.Lib.LaidTab
import Derived.MakeChecks
import Derived.Lay
import Derived.LaidLaws
import Derived.ProofKit
namespace Go.Proofs.YtiidcnjhjojhoaaDoor
open Go.ChangeShapes Go.WideShapes Go.ChangeAt Go.RowKit
theorem g0 : Tryd.prog.globalNamed "jurat/juratref02.first" = some 0 := by kernel_rfl
theorem g1 : Tryd.prog.globalNamed "jurat/juratref02.constants" = some 2 := by kernel_rfl
theorem g2 : Tryd.prog.globalNamed "jurat/sha.constants" = some 1 := by kernel_rfl
theorem t0 : (Tryd.prog.globals[0]?).map (·.type) = some 57 := by kernel_rfl
theorem t1 : (Tryd.prog.globals[2]?).map (·.type) = some 63 := by kernel_rfl
theorem t2 : (Tryd.prog.globals[1]?).map (·.type) = some 63 := by kernel_rfl
theorem c28 : Tryd.prog.cellsOf 56 = 1 := by kernel_rfl
theorem c29 : Tryd.prog.cellsOf 57 = 8 := by kernel_rfl
theorem c50 : Tryd.prog.cellsOf 63 = 64 := by kernel_rfl
def firstL : List Int := [1779033703, 3144134277, 1013904242, 2773480762, 1359893119, 2600822924, 528734635, 1541459225]
theorem first_at (j : Nat) (h : j < 8) : firstL.getD j 0 = firstS.at j := by
  match j, h with
  | 0, _ | 1, _ | 2, _ | 3, _ | 4, _ | 5, _ | 6, _ | 7, _ => rfl
/-- the first words stand in block 0 -/
def First (w : World) : Prop := 0 < w.heap.size ∧ ∀ t, t < 8 → w.cell? ⟨0, t, none⟩ = some (.int .u32 (firstS.at t))
theorem First.below {w w' : World} (h : First w) (hb : Below w.heap.size w w') : First w' :=
  ⟨Nat.lt_of_lt_of_le h.1 hb.size, fun t ht => (hb.cell (p := ⟨0, t, none⟩) h.1).trans (h.2 t ht)⟩
theorem tab_of {W : World} {name : String} {g : Nat} (hg : Tryd.prog.globalNamed name = some g) (h : Lib.TabIs Tryd.prog W name .u32 kList) : Tab g W := by
  have hc := fun t ht => h.cell hg t (show t < kList.length from ht)
  exact ⟨World.block_lt_of_cell? W _ (hc 0 (by decide)), fun t ht => hc t ht⟩
theorem laidK {W : World} {rest : List (String × DataW Unit)} {name : String} {g : Nat} (hg : Tryd.prog.globalNamed name = some g) (ht : (Tryd.prog.globals[g]?).map (·.type) = some 63)
    (h : laidMet Tryd.prog ((name, Lib.tabData .u32 kList) :: rest) W) : Tab g W :=
  tab_of hg (Lib.tabIs_of_head hg ht Tryd.underlying63 Tryd.underlying56 c28 c50 h)
theorem laidF {W : World} {rest : List (String × DataW Unit)} (h : laidMet Tryd.prog (("jurat/juratref02.first", Lib.tabData .u32 firstL) :: rest) W) : First W := by
  have hT := Lib.tabIs_of_head g0 t0 Tryd.underlying57 Tryd.underlying56 c28 c29 h
  have hc := fun t ht => hT.cell g0 t (show t < firstL.length from ht)
  refine ⟨World.block_lt_of_cell? W _ (hc 0 (by decide)), fun t ht => ?_⟩
  rw [← first_at t ht]; exact hc t ht
theorem laid_tail {P : Program} {W : World} {x : String × DataW Unit} {rest : List (String × DataW Unit)} (h : laidMet P (x :: rest) W) : laidMet P rest W := by
  obtain ⟨ps, ⟨g', t', cs, fuel, p, q, hg', ht', hvar, hd, hq, rfl⟩, hn, hx⟩ := h
  exact ⟨q, hq, (List.nodup_append.1 hn).2.1, fun b off hm => hx b off (List.mem_append_right _ hm)⟩
abbrev lay1 : List (String × DataW Unit) := [("jurat/sha.constants", Rows.laid_jurat_sha_constants)]
abbrev lay2 : List (String × DataW Unit) := [("jurat/juratref02.constants", Rows.laid_jurat_juratref02_constants), ("jurat/sha.constants", Rows.laid_jurat_sha_constants)]
abbrev lay3 : List (String × DataW Unit) := [("jurat/juratref02.first", Rows.laid_jurat_juratref02_first), ("jurat/juratref02.constants", Rows.laid_jurat_juratref02_constants), ("jurat/sha.constants", Rows.laid_jurat_sha_constants)]
theorem of_lay1 {W : World} (h : laidMetH Tryd.prog lay1 W) : Tab 1 W := by
  rw [MakeChecks.laidMetH_plain _ _ _ (by kernel_rfl)] at h
  exact laidK g2 t2 h
theorem of_lay2 {W : World} (h : laidMetH Tryd.prog lay2 W) : Tab 2 W ∧ Tab 1 W := by
  rw [MakeChecks.laidMetH_plain _ _ _ (by kernel_rfl)] at h
  exact ⟨laidK g1 t1 h, laidK g2 t2 (laid_tail h)⟩
theorem of_lay3 {W : World} (h : laidMetH Tryd.prog lay3 W) : First W ∧ Tab 2 W ∧ Tab 1 W := by
  rw [MakeChecks.laidMetH_plain _ _ _ (by kernel_rfl)] at h
  exact ⟨laidF h, laidK g1 t1 (laid_tail h), laidK g2 t2 (laid_tail (laid_tail h))⟩
theorem met1 (os : Os) (args : Array Value) : laidMetH Tryd.prog lay1 ((World.laidAll Tryd.prog os lay1).forCall (fun _ _ => 0) ⟨#[], args, []⟩).memory := by
  rw [MakeChecks.laidMetH_plain _ _ _ (by kernel_rfl)]
  exact laidMet_laidAll _ (by kernel_rfl) (by kernel_rfl)
theorem met2 (os : Os) (args : Array Value) : laidMetH Tryd.prog lay2 ((World.laidAll Tryd.prog os lay2).forCall (fun _ _ => 0) ⟨#[], args, []⟩).memory := by
  rw [MakeChecks.laidMetH_plain _ _ _ (by kernel_rfl)]
  exact laidMet_laidAll _ (by kernel_rfl) (by kernel_rfl)
theorem met3 (os : Os) (args : Array Value) : laidMetH Tryd.prog lay3 ((World.laidAll Tryd.prog os lay3).forCall (fun _ _ => 0) ⟨#[], args, []⟩).memory := by
  rw [MakeChecks.laidMetH_plain _ _ _ (by kernel_rfl)]
  exact laidMet_laidAll _ (by kernel_rfl) (by kernel_rfl)
end Go.Proofs.YtiidcnjhjojhoaaDoor
