/-
  What sha.Block answers of a block of 64 bytes: the words behind it.
-/
import Derived.Test.YtbekdlnoikkkbaaDoorSums
import Derived.Deep.RegionWith
namespace Go.Proofs.YtbekdlnoikkkbaaDoor
open Go.RowKit
abbrev z8 : Array Value := #[.int .u32 0, .int .u32 0, .int .u32 0, .int .u32 0, .int .u32 0, .int .u32 0, .int .u32 0, .int .u32 0]
set_option maxRecDepth 100000 in
set_option maxHeartbeats 1000000 in
theorem Block_ok (a b c d e f g h : Int) (A : Option Addr) (cap : Nat) (l : List UInt8) (w : World) (hB : Bs w A 64 l) (hcap : 64 ≤ cap) (hT : Tab 2 w) (hok : S8.ok ⟨a, b, c, d, e, f, g, h⟩) :
    Calls Tryd.prog 12 #[.agg #[.int .u32 a, .int .u32 b, .int .u32 c, .int .u32 d, .int .u32 e, .int .u32 f, .int .u32 g, .int .u32 h], .slice A 64 cap] w fun en w' => en = .returned (.tuple #[v8 (blockS ⟨a, b, c, d, e, f, g, h⟩ l), .int .i64 0]) ∧ Below w.heap.size w w' := by
  have HB := Lib.hid hB
  have HT := Lib.hid hT
  have HOK := Lib.hid hok
  have h2 := hT.1
  clear hB hT hok
  go_enter Tryd.func12, Tryd.ntmps12
  go_wp2_with fail
  obtain ⟨w1, hw1⟩ : ∃ w1, w1 = (w.alloc (.cells #[.int .u32 a, .int .u32 b, .int .u32 c, .int .u32 d, .int .u32 e, .int .u32 f, .int .u32 g, .int .u32 h] 29)).alloc (.cells z8 29) := ⟨_, rfl⟩
  rw [← hw1]
  have hr0 : Row w1 w.heap.size 29 #[.int .u32 a, .int .u32 b, .int .u32 c, .int .u32 d, .int .u32 e, .int .u32 f, .int .u32 g, .int .u32 h] := by rw [hw1]; exact (Row.new w _ _).alloc _
  have hr1 : Row w1 (w.heap.size + 1) 29 z8 := by rw [hw1]; exact Row.new1 w _ _ _
  have hb1 : Below w.heap.size w w1 := by rw [hw1]; exact ((Below.refl _ _).alloc (Nat.le_refl _) _).alloc (by simp) _
  have HR0 := Lib.hid hr0
  have HR1 := Lib.hid hr1
  have hlt := hr1.lt
  clear hw1 hr1
  have x0 : w1.cell? ⟨w.heap.size, 0, none⟩ = some (.int .u32 a) := hr0.cell 0
  have x1 : w1.cell? ⟨w.heap.size, 1, none⟩ = some (.int .u32 b) := hr0.cell 1
  have x2 : w1.cell? ⟨w.heap.size, 2, none⟩ = some (.int .u32 c) := hr0.cell 2
  have x3 : w1.cell? ⟨w.heap.size, 3, none⟩ = some (.int .u32 d) := hr0.cell 3
  have x4 : w1.cell? ⟨w.heap.size, 4, none⟩ = some (.int .u32 e) := hr0.cell 4
  have x5 : w1.cell? ⟨w.heap.size, 5, none⟩ = some (.int .u32 f) := hr0.cell 5
  have x6 : w1.cell? ⟨w.heap.size, 6, none⟩ = some (.int .u32 g) := hr0.cell 6
  have x7 : w1.cell? ⟨w.heap.size, 7, none⟩ = some (.int .u32 h) := hr0.cell 7
  clear hr0
  go_region_with (first
    | (go_at_call 24; (refine (spread_any _ _ l _ (by (have hq := HB.out.below hb1; exact hq)) hcap).mono ?_; rintro e4 w4 ⟨rfl, hb4⟩; have HR04 := Lib.hid (Row.below (w := w1.drew) HR0.out hb4 HR0.out.lt); have HR4 := Lib.hid (Row.below (w := w1.drew) HR1.out hb4 HR1.out.lt); have y0 : w4.cell? ⟨w.heap.size, 0, none⟩ = some (.int .u32 a) := HR04.out.cell 0; have y1 : w4.cell? ⟨w.heap.size, 1, none⟩ = some (.int .u32 b) := HR04.out.cell 1; have y2 : w4.cell? ⟨w.heap.size, 2, none⟩ = some (.int .u32 c) := HR04.out.cell 2; have y3 : w4.cell? ⟨w.heap.size, 3, none⟩ = some (.int .u32 d) := HR04.out.cell 3; have y4 : w4.cell? ⟨w.heap.size, 4, none⟩ = some (.int .u32 e) := HR04.out.cell 4; have y5 : w4.cell? ⟨w.heap.size, 5, none⟩ = some (.int .u32 f) := HR04.out.cell 5; have y6 : w4.cell? ⟨w.heap.size, 6, none⟩ = some (.int .u32 g) := HR04.out.cell 6; have y7 : w4.cell? ⟨w.heap.size, 7, none⟩ = some (.int .u32 h) := HR04.out.cell 7; skip))
    | (go_at_call 23; (refine (work_any a b c d e f g h (wList l 64) (wList_length _ _) _ (by (have hq := HT.out.below hb1; exact Tab.below (w := w1.drew) hq hb4)) HOK.out).mono ?_; rintro e5 w5 ⟨rfl, hb5⟩; unfold v8; have HR5 := Lib.hid (HR4.out.below hb5 HR4.out.lt); have z0 : w5.cell? ⟨w.heap.size + 1, 0, none⟩ = some (.int .u32 0) := HR5.out.cell 0; have fz0 := HR5.out.frozen 0; have z1 : w5.cell? ⟨w.heap.size + 1, 1, none⟩ = some (.int .u32 0) := HR5.out.cell 1; have fz1 := HR5.out.frozen 1; have z2 : w5.cell? ⟨w.heap.size + 1, 2, none⟩ = some (.int .u32 0) := HR5.out.cell 2; have fz2 := HR5.out.frozen 2; have z3 : w5.cell? ⟨w.heap.size + 1, 3, none⟩ = some (.int .u32 0) := HR5.out.cell 3; have fz3 := HR5.out.frozen 3; have z4 : w5.cell? ⟨w.heap.size + 1, 4, none⟩ = some (.int .u32 0) := HR5.out.cell 4; have fz4 := HR5.out.frozen 4; have z5 : w5.cell? ⟨w.heap.size + 1, 5, none⟩ = some (.int .u32 0) := HR5.out.cell 5; have fz5 := HR5.out.frozen 5; have z6 : w5.cell? ⟨w.heap.size + 1, 6, none⟩ = some (.int .u32 0) := HR5.out.cell 6; have fz6 := HR5.out.frozen 6; have z7 : w5.cell? ⟨w.heap.size + 1, 7, none⟩ = some (.int .u32 0) := HR5.out.cell 7; have fz7 := HR5.out.frozen 7; skip)))
  all_goals
    go_wp2_with fail
    refine bodyPost_ret (v := .tuple #[v8 (blockS ⟨a, b, c, d, e, f, g, h⟩ l), .int .i64 0]) ?_ rfl ⟨rfl, ?_⟩
    · exact results_row2 Tryd.agg29 Tryd.results12 rfl rfl ((((((((HR5.out.set 0 _).set 1 _).set 2 _).set 3 _).set 4 _).set 5 _).set 6 _).set 7 _) rfl
    · have hb14 : Below w.heap.size w w4 := hb1.drew.trans (hb4.mono hb1.size)
      have hb15 : Below w.heap.size w w5 := hb14.trans (hb5.mono hb14.size)
      exact (((((((hb15.setCell (by simp) _).setCell (by simp) _).setCell (by simp) _).setCell (by simp) _).setCell (by simp) _).setCell (by simp) _).setCell (by simp) _).setCell (by simp) _
end Go.Proofs.YtbekdlnoikkkbaaDoor
