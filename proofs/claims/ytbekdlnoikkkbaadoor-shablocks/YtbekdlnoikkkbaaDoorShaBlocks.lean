/-
  ShaBlocks, whole, as the tied card (Rows.ShaBlocksCardSaid): for all eight words and all bytes sha.Block answers the document's own words behind the block where there are 64 bytes, else zeros and ErrArg; the sum of abc is the document's. Conditions: the tables sha.constants and juratref02.constants read as their initialisers lay them (tied to the program's text).
-/
import Derived.Test.YtbekdlnoikkkbaaDoorRows
import Derived.Test.YtbekdlnoikkkbaaDoorCards
import Derived.Test.YtbekdlnoikkkbaaDoorTie
import Derived.WalkKit
import Derived.ProofKit
import Derived.OpenShut
import Derived.ShutString
import Derived.ChangeOld
import Derived.Below
import Derived.SizedLaws
import Derived.SevenTiedAt
import Derived.Lay
import Derived.LaidLaws
import Derived.Test.YtbekdlnoikkkbaaDoorLaid
import Derived.Test.YtbekdlnoikkkbaaDoorApp
namespace Go.Proofs.YtbekdlnoikkkbaaDoor.shaBlocks
open Go.ChangeShapes Go.WideShapes Go.ChangeAt Go.RowKit
set_option linter.unusedVariables false
theorem own : ownKnob Tryd.prog.godebug = none := by kernel_rfl
theorem laidOut : laidOutB Tryd.prog = true := by kernel_rfl
theorem rowd {w : World} {G : Nat} {t : TypeId} {cs : Array Value} (r : Row w G t cs) : Row w.drew G t cs := r
theorem bsd {w : World} {A : Option Addr} {n : Nat} {l : List UInt8} (h : Bs w A n l) : Bs w.drew A n l := h
theorem own1d (w1 : World) : Own (w1.alloc e0o).drew w1.heap.size 5 (.slice (some ⟨w1.heap.size, 0, none⟩) 0 0) 0 [] := empty_new w1 5
theorem own3d (w1 : World) : Own ((w1.alloc e0o).alloc z8o).drew w1.heap.size 5 (.slice (some ⟨w1.heap.size, 0, none⟩) 0 0) 0 [] := own_alloc (empty_new w1 5) z8o
theorem own4d (w1 : World) : Own ((w1.alloc z8o).alloc e0o).drew w1.heap.size 5 (.slice (some ⟨w1.heap.size + 1, 0, none⟩) 0 0) 0 [] := own4 w1
theorem below_setX8 {B X : Nat} {w w' : World} (h : Below B w w') (hX : B ≤ X) (a b c d e f g i : Value) :
    Below B w ((((((((w'.setCell ⟨X, 0, none⟩ a).setCell ⟨X, 1, none⟩ b).setCell ⟨X, 2, none⟩ c).setCell ⟨X, 3, none⟩ d).setCell ⟨X, 4, none⟩ e).setCell ⟨X, 5, none⟩ f).setCell ⟨X, 6, none⟩ g).setCell ⟨X, 7, none⟩ i) :=
  (((((((h.setCell (p := ⟨X, 0, none⟩) hX a).setCell (p := ⟨X, 1, none⟩) hX b).setCell (p := ⟨X, 2, none⟩) hX c).setCell (p := ⟨X, 3, none⟩) hX d).setCell (p := ⟨X, 4, none⟩) hX e).setCell (p := ⟨X, 5, none⟩) hX f).setCell (p := ⟨X, 6, none⟩) hX g).setCell (p := ⟨X, 7, none⟩) hX i
theorem awake_at {w W : World} (hT : Tab 2 w) (B : Below w.heap.size w W) : Calls Tryd.prog 9 #[] W fun e w' => e = .returned (.bool true) ∧ Below w.heap.size w w' :=
  (awake_any W (hT.below B)).mono fun _ _ ⟨he, hb⟩ => ⟨he, B.trans (hb.mono B.size)⟩
theorem rowfar8 {w : World} {G X : Nat} {t : TypeId} {cs : Array Value} (r : Row w G t cs) (hne : G ≠ X) (a b c d e f g i : Value) :
    Row ((((((((w.setCell ⟨X, 0, none⟩ a).setCell ⟨X, 1, none⟩ b).setCell ⟨X, 2, none⟩ c).setCell ⟨X, 3, none⟩ d).setCell ⟨X, 4, none⟩ e).setCell ⟨X, 5, none⟩ f).setCell ⟨X, 6, none⟩ g).setCell ⟨X, 7, none⟩ i) G t cs :=
  (((((((r.far (p := ⟨X, 0, none⟩) hne a).far (p := ⟨X, 1, none⟩) hne b).far (p := ⟨X, 2, none⟩) hne c).far (p := ⟨X, 3, none⟩) hne d).far (p := ⟨X, 4, none⟩) hne e).far (p := ⟨X, 5, none⟩) hne f).far (p := ⟨X, 6, none⟩) hne g).far (p := ⟨X, 7, none⟩) hne i
set_option maxRecDepth 100000 in
set_option maxHeartbeats 1000000 in
theorem walk_no (w : World) (a b c d e f g h : Int) (a1 : Option Addr) (len1 cap1 : Nat) (l1 : List UInt8) (w0 : Bs w a1 len1 l1) (s1 : cap1 ≤ 140737488351232) (s2 : len1 ≤ cap1) (hT1 : Tab 1 w) (hT2 : Tab 2 w) (hok : S8.ok ⟨a, b, c, d, e, f, g, h⟩) (hn : len1 ≠ 64) :
    Calls Tryd.prog 4 #[.agg #[.int .u32 a, .int .u32 b, .int .u32 c, .int .u32 d, .int .u32 e, .int .u32 f, .int .u32 g, .int .u32 h], .slice a1 len1 cap1] w fun e w' => e = .returned (.bool true) ∧ Below w.heap.size w w' := by
  have hn' : ¬ (len1 : Int) = 64 := by omega
  have hb64 : ((len1 : Int) != 64) = true := by simpa using hn'
  have heq := eq_wordsL 0 0 0 0 0 0 0 0
  have HW := Lib.hid w0
  have HT1 := Lib.hid hT1
  have HT2 := Lib.hid hT2
  have HOK := Lib.hid hok
  have h2lt := hT2.1
  clear w0 hT1 hT2 hok
  go_enter Tryd.func4, Tryd.ntmps4
  go_wp2_with fail
  obtain ⟨w1, hw1⟩ : ∃ w1, w1 = w.alloc (.cells #[.int .u32 a, .int .u32 b, .int .u32 c, .int .u32 d, .int .u32 e, .int .u32 f, .int .u32 g, .int .u32 h] 29) := ⟨_, rfl⟩
  rw [← hw1]
  have R1 : Row w1 w.heap.size 29 #[.int .u32 a, .int .u32 b, .int .u32 c, .int .u32 d, .int .u32 e, .int .u32 f, .int .u32 g, .int .u32 h] := by rw [hw1]; exact Row.new w _ _
  have hb1 : Below w.heap.size w w1 := by rw [hw1]; exact (Below.refl _ _).alloc (Nat.le_refl _) _
  have HR1 := Lib.hid R1
  have HW1 := Lib.hid (HW.out.below hb1)
  have HW2 := Lib.hid (bsd (HW1.out.below ((Below.refl w1.heap.size w1).alloc (Nat.le_refl _) e0o)))
  have HW3 := Lib.hid (bsd ((HW1.out.below ((Below.refl w1.heap.size w1).alloc (Nat.le_refl _) e0o)).below ((Below.refl (w1.alloc e0o).heap.size (w1.alloc e0o)).alloc (Nat.le_refl _) z8o)))
  have HW4 := Lib.hid (bsd ((HW1.out.below ((Below.refl w1.heap.size w1).alloc (Nat.le_refl _) z8o)).below ((Below.refl (w1.alloc z8o).heap.size (w1.alloc z8o)).alloc (Nat.le_refl _) e0o)))
  have HR1d := Lib.hid (rowd HR1.out)
  have hs1 := hb1.size
  have hl1 := R1.lt
  clear hw1 R1
  go_region_held3 (fun w' => w'.cell? ⟨w.heap.size, 0, none⟩ = some (.int .u32 a) ∧ w'.cell? ⟨w.heap.size, 1, none⟩ = some (.int .u32 b) ∧ w'.cell? ⟨w.heap.size, 2, none⟩ = some (.int .u32 c) ∧ w'.cell? ⟨w.heap.size, 3, none⟩ = some (.int .u32 d) ∧ w'.cell? ⟨w.heap.size, 4, none⟩ = some (.int .u32 e) ∧ w'.cell? ⟨w.heap.size, 5, none⟩ = some (.int .u32 f) ∧ w'.cell? ⟨w.heap.size, 6, none⟩ = some (.int .u32 g) ∧ w'.cell? ⟨w.heap.size, 7, none⟩ = some (.int .u32 h)) (first | (with_reducible exact cells8_of_row HR1.out) | (with_reducible exact cells8_of_row HR1d.out) | (with_reducible exact cells8_of_row (rowd (Row.alloc HR1.out _))) | (with_reducible exact cells8_of_row (rowd (Row.alloc (Row.alloc HR1.out _) _))) | (with_reducible exact cells8_of_row HF2.out.row) | (with_reducible exact cells8_of_row (Row.alloc HF2.out.row _)) | (with_reducible exact cells8_of_row HR3.out) | (with_reducible exact cells8_of_row (Row.alloc HR3.out _)) | (with_reducible exact cells8_of_row (rowfar8 HR3.out hneX _ _ _ _ _ _ _ _)) | go_keep)
    (first
      | (refine step_appG Tryd.byteTypes (by rfl) (.tmp 9) (.tmp 10) (by rfl) w1.heap.size (.slice (some ⟨w1.heap.size, 0, none⟩) 0 0) 0 [] (by rfl) (by with_reducible exact own1d w1) a1 len1 cap1 l1 (by rfl) (by with_reducible exact HW2.out) (by omega) (by first | (simp; done) | (simp; omega)) ?_; intro A2 c2 w2 ho2 hb2 hg2; have HF2 := Lib.hid (app1 HR1.out hb1 ho2 hb2); have hs2 := HF2.out.bel.size; clear ho2 hb2 hg2)
      | (refine step_appG Tryd.byteTypes (by rfl) (.tmp 9) (.tmp 10) (by rfl) w1.heap.size (.slice (some ⟨w1.heap.size, 0, none⟩) 0 0) 0 [] (by rfl) (by with_reducible exact own3d w1) a1 len1 cap1 l1 (by rfl) (by with_reducible exact HW3.out) (by omega) (by first | (simp; done) | (simp; omega)) ?_; intro A2 c2 w2 ho2 hb2 hg2; have HFZ := app3 HR1.out hb1 ho2 hb2 hg2; have HF2 := Lib.hid HFZ.1; have hs2 := HF2.out.bel.size; have HZ2 := Lib.hid HFZ.2; have hneX : w.heap.size ≠ w1.heap.size + 1 := Nat.ne_of_lt (Nat.lt_succ_of_lt hl1); clear HFZ; clear ho2 hb2 hg2)
      | (refine step_appG Tryd.byteTypes (by rfl) (.tmp 9) (.tmp 10) (by rfl) w1.heap.size (.slice (some ⟨w1.heap.size + 1, 0, none⟩) 0 0) 0 [] (by rfl) (by with_reducible exact own4d w1) a1 len1 cap1 l1 (by rfl) (by with_reducible exact HW4.out) (by omega) (by first | (simp; done) | (simp; omega)) ?_; intro A2 c2 w2 ho2 hb2 hg2; have HFZ := app4 HR1.out hb1 ho2 hb2 hg2; have HF2 := Lib.hid HFZ.1; have hs2 := HF2.out.bel.size; have HZ2 := Lib.hid HFZ.2; have hneX : w.heap.size ≠ w1.heap.size := Nat.ne_of_lt hl1; clear HFZ; clear ho2 hb2 hg2)
      | (go_at_call 12; (refine (Block_noL a b c d e f g h _ _ _ _ hn).mono ?_; rintro e3 w3 ⟨rfl, hb3⟩; (with_reducible have hb3' : Below (w2.alloc z8o).heap.size (w2.alloc z8o) w3 := hb3); have HR3 := Lib.hid ((Row.alloc HF2.out.row z8o).below hb3 (Row.alloc HF2.out.row z8o).lt); have B3 := (HF2.out.bel.alloc HF2.out.bel.size z8o).trans (hb3.mono (HF2.out.bel.alloc HF2.out.bel.size z8o).size); have HZ3 := Lib.hid ((Row.new w2 29 z8).below hb3 (Row.new w2 29 z8).lt); have hneX : w.heap.size ≠ w2.heap.size := Nat.ne_of_lt HF2.out.row.lt; obtain ⟨⟨z0, z1, z2, z3, z4, z5, z6, z7⟩, f0, f1, f2, f3, f4, f5, f6, f7⟩ := zfacts HZ3.out))
      | (go_at_call 12; (refine (Block_noL a b c d e f g h _ _ _ _ hn).mono ?_; rintro e3 w3 ⟨rfl, hb3⟩; (with_reducible have hb3' : Below w2.heap.size w2 w3 := hb3); have HR3 := Lib.hid (HF2.out.row.below hb3 HF2.out.row.lt); have B3 := HF2.out.bel.trans (hb3.mono HF2.out.bel.size); have HZ3 := Lib.hid (HZ2.out.below hb3 HZ2.out.lt); obtain ⟨⟨z0, z1, z2, z3, z4, z5, z6, z7⟩, f0, f1, f2, f3, f4, f5, f6, f7⟩ := zfacts HZ3.out))
      | (go_at_call 12; (refine (Block_noL a b c d e f g h _ _ _ _ hn).mono ?_; rintro e3 w3 ⟨rfl, hb3⟩; (with_reducible have hb3' : Below w2.heap.size w2 w3 := hb3); have HR3 := Lib.hid (HF2.out.row.below hb3 HF2.out.row.lt); have B3 := HF2.out.bel.trans (hb3.mono HF2.out.bel.size); skip)))
  all_goals
    go_wp2_with (go_at_call 9; (first | (with_reducible refine (awake_at HT2.out (B3.alloc B3.size _)).mono ?_) | (with_reducible refine (awake_at HT2.out (below_setX8 B3 (by omega) _ _ _ _ _ _ _ _)).mono ?_)); rintro e4 w4 ⟨rfl, hb4⟩)
    go_ret
    exact ⟨rfl, hb4⟩
theorem tabd {b : Nat} {w : World} (h : Tab b w) : Tab b w.drew := h
theorem cells16 {w : World} {X G : Nat} {ra rb rc rd re rf rg rh a b c d e f g h : Int} (r : Row w X 29 #[.int .u32 ra, .int .u32 rb, .int .u32 rc, .int .u32 rd, .int .u32 re, .int .u32 rf, .int .u32 rg, .int .u32 rh]) (q : Row w G 29 #[.int .u32 a, .int .u32 b, .int .u32 c, .int .u32 d, .int .u32 e, .int .u32 f, .int .u32 g, .int .u32 h]) : w.cell? ⟨X, 0, none⟩ = some (.int .u32 ra) ∧ w.cell? ⟨X, 1, none⟩ = some (.int .u32 rb) ∧ w.cell? ⟨X, 2, none⟩ = some (.int .u32 rc) ∧ w.cell? ⟨X, 3, none⟩ = some (.int .u32 rd) ∧ w.cell? ⟨X, 4, none⟩ = some (.int .u32 re) ∧ w.cell? ⟨X, 5, none⟩ = some (.int .u32 rf) ∧ w.cell? ⟨X, 6, none⟩ = some (.int .u32 rg) ∧ w.cell? ⟨X, 7, none⟩ = some (.int .u32 rh) ∧ w.cell? ⟨G, 0, none⟩ = some (.int .u32 a) ∧ w.cell? ⟨G, 1, none⟩ = some (.int .u32 b) ∧ w.cell? ⟨G, 2, none⟩ = some (.int .u32 c) ∧ w.cell? ⟨G, 3, none⟩ = some (.int .u32 d) ∧ w.cell? ⟨G, 4, none⟩ = some (.int .u32 e) ∧ w.cell? ⟨G, 5, none⟩ = some (.int .u32 f) ∧ w.cell? ⟨G, 6, none⟩ = some (.int .u32 g) ∧ w.cell? ⟨G, 7, none⟩ = some (.int .u32 h) := by
  obtain ⟨r0, r1, r2, r3, r4, r5, r6, r7⟩ := cells8_of_row r
  exact ⟨r0, r1, r2, r3, r4, r5, r6, r7, cells8_of_row q⟩
theorem rowX8 {w : World} {X : Nat} (r : Row w X 29 z8) (a b c d e f g i : Value) :
    Row ((((((((w.setCell ⟨X, 0, none⟩ a).setCell ⟨X, 1, none⟩ b).setCell ⟨X, 2, none⟩ c).setCell ⟨X, 3, none⟩ d).setCell ⟨X, 4, none⟩ e).setCell ⟨X, 5, none⟩ f).setCell ⟨X, 6, none⟩ g).setCell ⟨X, 7, none⟩ i) X 29 #[a, b, c, d, e, f, g, i] := row_set8 r a b c d e f g i
set_option maxRecDepth 100000 in
set_option maxHeartbeats 2000000 in
theorem walk_ok (w : World) (a b c d e f g h : Int) (a1 : Option Addr) (cap1 : Nat) (l1 : List UInt8) (w0 : Bs w a1 64 l1) (s1 : cap1 ≤ 140737488351232) (s2 : 64 ≤ cap1) (hT1 : Tab 1 w) (hT2 : Tab 2 w) (hok : S8.ok ⟨a, b, c, d, e, f, g, h⟩) :
    Calls Tryd.prog 4 #[.agg #[.int .u32 a, .int .u32 b, .int .u32 c, .int .u32 d, .int .u32 e, .int .u32 f, .int .u32 g, .int .u32 h], .slice a1 64 cap1] w fun e w' => e = .returned (.bool true) ∧ Below w.heap.size w w' := by
  have HW := Lib.hid w0
  have HT1 := Lib.hid hT1
  have HT2 := Lib.hid hT2
  have HOK := Lib.hid hok
  have h2lt := hT2.1
  clear w0 hT1 hT2 hok
  go_enter Tryd.func4, Tryd.ntmps4
  go_wp2_with fail
  obtain ⟨w1, hw1⟩ : ∃ w1, w1 = w.alloc (.cells #[.int .u32 a, .int .u32 b, .int .u32 c, .int .u32 d, .int .u32 e, .int .u32 f, .int .u32 g, .int .u32 h] 29) := ⟨_, rfl⟩
  rw [← hw1]
  have R1 : Row w1 w.heap.size 29 #[.int .u32 a, .int .u32 b, .int .u32 c, .int .u32 d, .int .u32 e, .int .u32 f, .int .u32 g, .int .u32 h] := by rw [hw1]; exact Row.new w _ _
  have hb1 : Below w.heap.size w w1 := by rw [hw1]; exact (Below.refl _ _).alloc (Nat.le_refl _) _
  have HR1 := Lib.hid R1
  have HW1 := Lib.hid (HW.out.below hb1)
  have HW2 := Lib.hid (bsd (HW1.out.below ((Below.refl w1.heap.size w1).alloc (Nat.le_refl _) e0o)))
  have HW3 := Lib.hid (bsd ((HW1.out.below ((Below.refl w1.heap.size w1).alloc (Nat.le_refl _) e0o)).below ((Below.refl (w1.alloc e0o).heap.size (w1.alloc e0o)).alloc (Nat.le_refl _) z8o)))
  have HW4 := Lib.hid (bsd ((HW1.out.below ((Below.refl w1.heap.size w1).alloc (Nat.le_refl _) z8o)).below ((Below.refl (w1.alloc z8o).heap.size (w1.alloc z8o)).alloc (Nat.le_refl _) e0o)))
  have HR1d := Lib.hid (rowd HR1.out)
  have hs1 := hb1.size
  have hl1 := R1.lt
  clear hw1 R1
  go_region_held3 (fun w' => w'.cell? ⟨w.heap.size, 0, none⟩ = some (.int .u32 a) ∧ w'.cell? ⟨w.heap.size, 1, none⟩ = some (.int .u32 b) ∧ w'.cell? ⟨w.heap.size, 2, none⟩ = some (.int .u32 c) ∧ w'.cell? ⟨w.heap.size, 3, none⟩ = some (.int .u32 d) ∧ w'.cell? ⟨w.heap.size, 4, none⟩ = some (.int .u32 e) ∧ w'.cell? ⟨w.heap.size, 5, none⟩ = some (.int .u32 f) ∧ w'.cell? ⟨w.heap.size, 6, none⟩ = some (.int .u32 g) ∧ w'.cell? ⟨w.heap.size, 7, none⟩ = some (.int .u32 h)) (first | (with_reducible exact cells8_of_row HR1.out) | (with_reducible exact cells8_of_row HR1d.out) | (with_reducible exact cells8_of_row (rowd (Row.alloc HR1.out _))) | (with_reducible exact cells8_of_row (rowd (Row.alloc (Row.alloc HR1.out _) _))) | (with_reducible exact cells8_of_row HF2.out.row) | (with_reducible exact cells8_of_row (Row.alloc HF2.out.row _)) | (with_reducible exact cells8_of_row HR3.out) | (with_reducible exact cells8_of_row (Row.alloc HR3.out _)) | (with_reducible exact cells8_of_row (rowfar8 HR3.out hneX _ _ _ _ _ _ _ _)) | go_keep)
    (first
      | (refine step_appG Tryd.byteTypes (by rfl) (.tmp 9) (.tmp 10) (by rfl) w1.heap.size (.slice (some ⟨w1.heap.size, 0, none⟩) 0 0) 0 [] (by rfl) (by with_reducible exact own1d w1) a1 64 cap1 l1 (by rfl) (by with_reducible exact HW2.out) (by omega) (by first | (simp; done) | (simp; omega)) ?_; intro A2 c2 w2 ho2 hb2 hg2; have HF2 := Lib.hid (app1 HR1.out hb1 ho2 hb2); have hs2 := HF2.out.bel.size; clear ho2 hb2 hg2)
      | (refine step_appG Tryd.byteTypes (by rfl) (.tmp 9) (.tmp 10) (by rfl) w1.heap.size (.slice (some ⟨w1.heap.size, 0, none⟩) 0 0) 0 [] (by rfl) (by with_reducible exact own3d w1) a1 64 cap1 l1 (by rfl) (by with_reducible exact HW3.out) (by omega) (by first | (simp; done) | (simp; omega)) ?_; intro A2 c2 w2 ho2 hb2 hg2; have HFZ := app3 HR1.out hb1 ho2 hb2 hg2; have HF2 := Lib.hid HFZ.1; have hs2 := HF2.out.bel.size; have HZ2 := Lib.hid HFZ.2; have hneX : w.heap.size ≠ w1.heap.size + 1 := Nat.ne_of_lt (Nat.lt_succ_of_lt hl1); clear HFZ; clear ho2 hb2 hg2)
      | (refine step_appG Tryd.byteTypes (by rfl) (.tmp 9) (.tmp 10) (by rfl) w1.heap.size (.slice (some ⟨w1.heap.size + 1, 0, none⟩) 0 0) 0 [] (by rfl) (by with_reducible exact own4d w1) a1 64 cap1 l1 (by rfl) (by with_reducible exact HW4.out) (by omega) (by first | (simp; done) | (simp; omega)) ?_; intro A2 c2 w2 ho2 hb2 hg2; have HFZ := app4 HR1.out hb1 ho2 hb2 hg2; have HF2 := Lib.hid HFZ.1; have hs2 := HF2.out.bel.size; have HZ2 := Lib.hid HFZ.2; have hneX : w.heap.size ≠ w1.heap.size := Nat.ne_of_lt hl1; clear HFZ; clear ho2 hb2 hg2)
      | (go_at_call 12; (refine (Block_ex a b c d e f g h A2 c2 l1 (w2.alloc z8o) (HF2.out.bs.below ((Below.refl w2.heap.size w2).alloc (Nat.le_refl _) z8o)) HF2.out.cap (HT2.out.below (HF2.out.bel.alloc HF2.out.bel.size z8o)) HOK.out).mono ?_; rintro e3 w3 ⟨ra, rb, rc, rd, re, rf, rg, rh, HRR, rfl, hb3⟩; (with_reducible have hb3' : Below (w2.alloc z8o).heap.size (w2.alloc z8o) w3 := hb3); have HR3 := Lib.hid ((Row.alloc HF2.out.row z8o).below hb3 (Row.alloc HF2.out.row z8o).lt); have B3 := (HF2.out.bel.alloc HF2.out.bel.size z8o).trans (hb3.mono (HF2.out.bel.alloc HF2.out.bel.size z8o).size); have HZ3 := Lib.hid ((Row.new w2 29 z8).below hb3 (Row.new w2 29 z8).lt); have hneX : w.heap.size ≠ w2.heap.size := Nat.ne_of_lt HF2.out.row.lt; obtain ⟨⟨z0, z1, z2, z3, z4, z5, z6, z7⟩, f0, f1, f2, f3, f4, f5, f6, f7⟩ := zfacts HZ3.out))
      | (go_at_call 12; (refine (Block_ex a b c d e f g h A2 c2 l1 w2 HF2.out.bs HF2.out.cap (HT2.out.below HF2.out.bel) HOK.out).mono ?_; rintro e3 w3 ⟨ra, rb, rc, rd, re, rf, rg, rh, HRR, rfl, hb3⟩; (with_reducible have hb3' : Below w2.heap.size w2 w3 := hb3); have HR3 := Lib.hid (HF2.out.row.below hb3 HF2.out.row.lt); have B3 := HF2.out.bel.trans (hb3.mono HF2.out.bel.size); have HZ3 := Lib.hid (HZ2.out.below hb3 HZ2.out.lt); obtain ⟨⟨z0, z1, z2, z3, z4, z5, z6, z7⟩, f0, f1, f2, f3, f4, f5, f6, f7⟩ := zfacts HZ3.out))
      | (go_at_call 12; (refine (Block_ex a b c d e f g h A2 c2 l1 w2 HF2.out.bs HF2.out.cap (HT2.out.below HF2.out.bel) HOK.out).mono ?_; rintro e3 w3 ⟨ra, rb, rc, rd, re, rf, rg, rh, HRR, rfl, hb3⟩; (with_reducible have hb3' : Below w2.heap.size w2 w3 := hb3); have HR3 := Lib.hid (HF2.out.row.below hb3 HF2.out.row.lt); have B3 := HF2.out.bel.trans (hb3.mono HF2.out.bel.size); skip)))
  all_goals
    have heq := eq_wordsL ra rb rc rd re rf rg rh
    first
     | (obtain ⟨wf, hwf⟩ : ∃ wf, wf = w3.alloc (.cells #[.int .u32 ra, .int .u32 rb, .int .u32 rc, .int .u32 rd, .int .u32 re, .int .u32 rf, .int .u32 rg, .int .u32 rh] 29) := ⟨_, rfl⟩; rw [← hwf]; have RX : Row wf w3.heap.size 29 #[.int .u32 ra, .int .u32 rb, .int .u32 rc, .int .u32 rd, .int .u32 re, .int .u32 rf, .int .u32 rg, .int .u32 rh] := (by rw [hwf]; exact Row.new w3 29 _); have RG : Row wf w.heap.size 29 #[.int .u32 a, .int .u32 b, .int .u32 c, .int .u32 d, .int .u32 e, .int .u32 f, .int .u32 g, .int .u32 h] := (by rw [hwf]; exact Row.alloc HR3.out _); have BF : Below w.heap.size w wf := (by rw [hwf]; exact B3.alloc B3.size _); obtain ⟨X, hX⟩ : ∃ X, X = w3.heap.size := ⟨_, rfl⟩; rw [← hX] at RX ⊢)
     | (obtain ⟨wf, hwf⟩ : ∃ wf, wf = ((((((((w3.setCell ⟨w2.heap.size, 0, none⟩ (.int .u32 ra)).setCell ⟨w2.heap.size, 1, none⟩ (.int .u32 rb)).setCell ⟨w2.heap.size, 2, none⟩ (.int .u32 rc)).setCell ⟨w2.heap.size, 3, none⟩ (.int .u32 rd)).setCell ⟨w2.heap.size, 4, none⟩ (.int .u32 re)).setCell ⟨w2.heap.size, 5, none⟩ (.int .u32 rf)).setCell ⟨w2.heap.size, 6, none⟩ (.int .u32 rg)).setCell ⟨w2.heap.size, 7, none⟩ (.int .u32 rh)) := ⟨_, rfl⟩; rw [← hwf]; have RX : Row wf (w2.heap.size) 29 #[.int .u32 ra, .int .u32 rb, .int .u32 rc, .int .u32 rd, .int .u32 re, .int .u32 rf, .int .u32 rg, .int .u32 rh] := (by rw [hwf]; exact rowX8 HZ3.out _ _ _ _ _ _ _ _); have RG : Row wf w.heap.size 29 #[.int .u32 a, .int .u32 b, .int .u32 c, .int .u32 d, .int .u32 e, .int .u32 f, .int .u32 g, .int .u32 h] := (by rw [hwf]; exact rowfar8 HR3.out hneX _ _ _ _ _ _ _ _); have BF : Below w.heap.size w wf := (by rw [hwf]; exact below_setX8 B3 (by omega) _ _ _ _ _ _ _ _); obtain ⟨X, hX⟩ : ∃ X, X = w2.heap.size := ⟨_, rfl⟩; rw [← hX] at RX ⊢)
     | (obtain ⟨wf, hwf⟩ : ∃ wf, wf = ((((((((w3.setCell ⟨w1.heap.size + 1, 0, none⟩ (.int .u32 ra)).setCell ⟨w1.heap.size + 1, 1, none⟩ (.int .u32 rb)).setCell ⟨w1.heap.size + 1, 2, none⟩ (.int .u32 rc)).setCell ⟨w1.heap.size + 1, 3, none⟩ (.int .u32 rd)).setCell ⟨w1.heap.size + 1, 4, none⟩ (.int .u32 re)).setCell ⟨w1.heap.size + 1, 5, none⟩ (.int .u32 rf)).setCell ⟨w1.heap.size + 1, 6, none⟩ (.int .u32 rg)).setCell ⟨w1.heap.size + 1, 7, none⟩ (.int .u32 rh)) := ⟨_, rfl⟩; rw [← hwf]; have RX : Row wf (w1.heap.size + 1) 29 #[.int .u32 ra, .int .u32 rb, .int .u32 rc, .int .u32 rd, .int .u32 re, .int .u32 rf, .int .u32 rg, .int .u32 rh] := (by rw [hwf]; exact rowX8 HZ3.out _ _ _ _ _ _ _ _); have RG : Row wf w.heap.size 29 #[.int .u32 a, .int .u32 b, .int .u32 c, .int .u32 d, .int .u32 e, .int .u32 f, .int .u32 g, .int .u32 h] := (by rw [hwf]; exact rowfar8 HR3.out hneX _ _ _ _ _ _ _ _); have BF : Below w.heap.size w wf := (by rw [hwf]; exact below_setX8 B3 (by omega) _ _ _ _ _ _ _ _); obtain ⟨X, hX⟩ : ∃ X, X = w1.heap.size + 1 := ⟨_, rfl⟩; rw [← hX] at RX ⊢)
     | (obtain ⟨wf, hwf⟩ : ∃ wf, wf = ((((((((w3.setCell ⟨w1.heap.size, 0, none⟩ (.int .u32 ra)).setCell ⟨w1.heap.size, 1, none⟩ (.int .u32 rb)).setCell ⟨w1.heap.size, 2, none⟩ (.int .u32 rc)).setCell ⟨w1.heap.size, 3, none⟩ (.int .u32 rd)).setCell ⟨w1.heap.size, 4, none⟩ (.int .u32 re)).setCell ⟨w1.heap.size, 5, none⟩ (.int .u32 rf)).setCell ⟨w1.heap.size, 6, none⟩ (.int .u32 rg)).setCell ⟨w1.heap.size, 7, none⟩ (.int .u32 rh)) := ⟨_, rfl⟩; rw [← hwf]; have RX : Row wf (w1.heap.size) 29 #[.int .u32 ra, .int .u32 rb, .int .u32 rc, .int .u32 rd, .int .u32 re, .int .u32 rf, .int .u32 rg, .int .u32 rh] := (by rw [hwf]; exact rowX8 HZ3.out _ _ _ _ _ _ _ _); have RG : Row wf w.heap.size 29 #[.int .u32 a, .int .u32 b, .int .u32 c, .int .u32 d, .int .u32 e, .int .u32 f, .int .u32 g, .int .u32 h] := (by rw [hwf]; exact rowfar8 HR3.out hneX _ _ _ _ _ _ _ _); have BF : Below w.heap.size w wf := (by rw [hwf]; exact below_setX8 B3 (by omega) _ _ _ _ _ _ _ _); obtain ⟨X, hX⟩ : ∃ X, X = w1.heap.size := ⟨_, rfl⟩; rw [← hX] at RX ⊢)
    have HRX := Lib.hid RX
    have HRG := Lib.hid RG
    have RXd := Lib.hid (rowd RX)
    have RGd := Lib.hid (rowd RG)
    have HBd := Lib.hid (bsd (HW.out.below BF))
    have HTd := Lib.hid (tabd (HT1.out.below BF))
    have HBF := Lib.hid BF
    obtain ⟨x0, x1, x2, x3, x4, x5, x6, x7⟩ := cells8_of_row RX
    obtain ⟨y0, y1, y2, y3, y4, y5, y6, y7⟩ := cells8_of_row RG
    have hwfs := BF.size
    have HWf := Lib.hid hwf
    have HXe := Lib.hid hX
    clear RX RG BF hwf hX
    go_wp2_with fail
    go_region_held3 (fun w' => w'.cell? ⟨X, 0, none⟩ = some (.int .u32 ra) ∧ w'.cell? ⟨X, 1, none⟩ = some (.int .u32 rb) ∧ w'.cell? ⟨X, 2, none⟩ = some (.int .u32 rc) ∧ w'.cell? ⟨X, 3, none⟩ = some (.int .u32 rd) ∧ w'.cell? ⟨X, 4, none⟩ = some (.int .u32 re) ∧ w'.cell? ⟨X, 5, none⟩ = some (.int .u32 rf) ∧ w'.cell? ⟨X, 6, none⟩ = some (.int .u32 rg) ∧ w'.cell? ⟨X, 7, none⟩ = some (.int .u32 rh) ∧ w'.cell? ⟨w.heap.size, 0, none⟩ = some (.int .u32 a) ∧ w'.cell? ⟨w.heap.size, 1, none⟩ = some (.int .u32 b) ∧ w'.cell? ⟨w.heap.size, 2, none⟩ = some (.int .u32 c) ∧ w'.cell? ⟨w.heap.size, 3, none⟩ = some (.int .u32 d) ∧ w'.cell? ⟨w.heap.size, 4, none⟩ = some (.int .u32 e) ∧ w'.cell? ⟨w.heap.size, 5, none⟩ = some (.int .u32 f) ∧ w'.cell? ⟨w.heap.size, 6, none⟩ = some (.int .u32 g) ∧ w'.cell? ⟨w.heap.size, 7, none⟩ = some (.int .u32 h)) (first | (with_reducible exact cells16 HRX.out HRG.out) | (with_reducible exact cells16 RXd.out RGd.out) | (with_reducible exact cells16 RX6.out RG6.out) | (with_reducible exact cells16 RX7.out RG7.out) | go_keep)
      (first
        | (go_at_call 13; (refine (RefBlock_is a b c d e f g h ra rb rc rd re rf rg rh a1 cap1 l1 _ (by with_reducible exact HBd.out) (by with_reducible exact HTd.out) HOK.out HRR.out).mono ?_; rintro e6 w6 ⟨rfl, hb6⟩; have RX6 := Lib.hid (Row.below (w := wf.drew) HRX.out hb6 HRX.out.lt); have RG6 := Lib.hid (Row.below (w := wf.drew) HRG.out hb6 HRG.out.lt); have B6 : Below w.heap.size w w6 := HBF.out.drew.trans (hb6.mono hwfs)))
        | (go_at_call 9; (refine (awake_any w6 (HT2.out.below B6)).mono ?_; rintro e7 w7 ⟨rfl, hb7⟩; have RX7 := Lib.hid (RX6.out.below hb7 RX6.out.lt); have RG7 := Lib.hid (RG6.out.below hb7 RG6.out.lt); have B7 : Below w.heap.size w w7 := B6.trans (hb7.mono B6.size))))
    go_wp2_with fail
    go_ret
    exact ⟨rfl, B7⟩
theorem walk (w : World) (s0 : S8) (w0 : s0.ok) (a1 : Option Addr) (len1 cap1 : Nat) (l1 : List UInt8) (w1 : Bs w a1 len1 l1) (s1 : len1 ≤ cap1 ∧ cap1 ≤ 140737488351232) (hT : Tab 1 w ∧ Tab 2 w) :
    Calls Tryd.prog 4 #[v8 s0, .slice a1 len1 cap1] w fun e w' => e = .returned (.bool true) ∧ Below w.heap.size w w' := by
  obtain ⟨a, b, c, d, e, f, g, h⟩ := s0
  by_cases hn : len1 = 64
  · subst hn; exact walk_ok w a b c d e f g h a1 cap1 l1 w1 s1.2 s1.1 hT.1 hT.2 w0
  · exact walk_no w a b c d e f g h a1 len1 cap1 l1 w1 s1.2 s1.1 hT.1 hT.2 w0 hn

set_option maxRecDepth 100000 in
theorem lifted (os : Os) (started : os.Started) (H : Type) (enc : TypeId × Value → H) :
    ReturnsInHanded {} Tryd.checked os 4 .any (fun w args => (Rows.shaBlocksSpec.pre enc Tryd.prog Tryd.f4 Rows.shaBlocksRow.domain false w args ∧ laidMetH Tryd.prog lay2 w) ∧ sizedMet enc Tryd.prog Tryd.f4 (OpenSpec.ofChange Rows.shaBlocksSpec) false w args)
      (Rows.shaBlocksSpec.post enc Tryd.prog Tryd.f4 false true false false) := by
  refine returnsInHanded_of_change_and (C := Tryd.checked) (X := fun w _ => laidMetH Tryd.prog lay2 w) (fun _ _ _ hh h => h.of_heap hh) own started (by kernel_rfl) Tryd.func4
    (ChangeSpec.witness_shaped (enc := enc) (C := Tryd.checked) (os := os) (X := fun w _ => laidMetH Tryd.prog lay2 w) false (World.laidAll Tryd.prog os lay2) #[.agg #[.int .u32 0, .int .u32 0, .int .u32 0, .int .u32 0, .int .u32 0, .int .u32 0, .int .u32 0, .int .u32 0], .slice none 0 0] 8 rfl (World.shaped_of_ZipB (by kernel_rfl) (by kernel_rfl)) (by kernel_rfl) (by kernel_rfl) (by kernel_rfl) (met2 os _)) ?_
  intro W base args ds gs before hval0 hW hcnd hsz0 hL _
  have hval : ∀ (j : Nat) t v, Tryd.f4.params[j]? = some t → args[j]? = some v → Value.okWide Tryd.prog W .any base t v := hval0
  have hW' := hW
  obtain ⟨p, q, hA0, hV, rfl, hfz, hnd⟩ := hW
  have hA : DataW.TrodAll enc Tryd.prog W 0 (fun _ => true) true Tryd.f4.params.toList args.toList ds p := hA0
  have hsz : (DataW.weightsEach Tryd.prog (Tryd.f4.params.toList ++ Rows.shaBlocksSpec.plain.varTypes Tryd.prog) (ds ++ gs)).all (· ≤ reachBytes) = true := hsz0
  rw [Tryd.params4] at hA hval hsz
  obtain ⟨v0, vs0, d0, ds0, p0, q0, hargs, rfl, rfl, h0, r0⟩ := trodAll_cons hA
  obtain ⟨v1, vs1, d1, ds1, p1, q1, rfl, rfl, rfl, h1, r1⟩ := trodAll_cons r0
  obtain ⟨rfl, rfl, rfl⟩ := trodAll_nil r1
  obtain rfl : args = #[v0, v1] := by cases args; simp_all
  obtain ⟨rfl, rfl⟩ := trodVars_none hV
  have k0 := h0
  have lt0 : ∀ x ∈ p0, x.block < W.heap.size := by obtain ⟨m, hm⟩ := k0; exact DataW.trod_lt m _ _ _ hm
  obtain ⟨s0, w0, rfl⟩ : ∃ s : S8, s.ok ∧ v0 = v8 s := open_words8 (hval 0 29 v0 rfl rfl) h0
  obtain ⟨a1, len1, cap1, rfl⟩ := okWide_slice Tryd.underlying22 (hval 1 22 v1 rfl rfl)
  have k1 := h1
  have lt1 : ∀ x ∈ p1, x.block < W.heap.size := by obtain ⟨m, hm⟩ := k1; exact DataW.trod_lt m _ _ _ hm
  obtain ⟨l1, w1, s1⟩ : ∃ l, Bs W a1 len1 l ∧ len1 ≤ cap1 ∧ cap1 ≤ 140737488351232 := by
    obtain ⟨fuel, hf⟩ := h1
    rcases open_ints Tryd.underlying22 Tryd.underlying5 (by kernel_rfl) hf with ⟨hcs, _⟩ | ⟨x, l, c, zs, hcs, _, hl, hm, hz, hx, hcell, hwz⟩
    · simp [Value.cells] at hcs
      obtain ⟨rfl, rfl, rfl⟩ := hcs
      exact ⟨[], Bs.nil _ _, by omega, by omega⟩
    · simp [Value.cells] at hcs
      obtain ⟨rfl, rfl, rfl⟩ := hcs
      simp only [Prod.mk.injEq] at hx
      obtain ⟨rfl, _⟩ := hx
      have hb := sized_slice hsz (j := 1) (t := 22) (e := 5) rfl rfl Tryd.underlying22
      rw [show Tryd.prog.bytesOf 5 = 1 from by kernel_rfl] at hb
      simp only [lits, List.length_map, List.length_take, List.length_drop, reachBytes] at hb
      have hz' : zs.length = cap1 := by simpa using hz
      exact ⟨_, Bs.of_ints hl hz' hcell hwz, hl, by omega⟩
  have hTab := of_lay2 hL
  clear hA0 hval0
  refine (walk W s0 w0 a1 len1 cap1 l1 w1 s1 hTab).mono fun e W' ⟨he, bel⟩ => ?_
  subst he
  exact ⟨_, rfl, _, _, _, [], _, [], hW', trodAll_mk1 (shut_bool Tryd.underlying4 _), (trodAll_cons_mk (Below.trod laidOut (by kernel_rfl) (of_decide_eq_true (by kernel_rfl)) k0 bel lt0) (trodAll_cons_mk (Below.trod laidOut (by kernel_rfl) (of_decide_eq_true (by kernel_rfl)) k1 bel lt1) trodAll_mk0)), rfl, bel.frame _, fun h => by cases h⟩
theorem over : Rows.shaBlocksRow.holds Tryd.pinned (OpenSpec.ofChange Rows.shaBlocksSpec) :=
  OpenClaim.holds_of_wide 4 Tryd.f4 rfl rfl rfl rfl rfl rfl rfl ⟨rfl, rfl, rfl, rfl, rfl⟩ rfl rfl rfl rfl rfl (by kernel_rfl) Tryd.func4 (by kernel_rfl)
    (of_decide_eq_true (by kernel_rfl)) (by unfold Func.isWrapper; first | (rw [if_pos (by decide +kernel)]; kernel_rfl) | (rw [if_neg (by decide +kernel)]; exact ⟨rfl, rfl⟩))
    (fun os started H enc _ => lifted os started H enc)
theorem shaBlocks_holds : Rows.ShaBlocksCardSaid :=
  Claim7.holds_tied_plain_at .later [] [.data, .data] true (true, "cd5223bcd05b994fe2076e12c14aa4b5dcc109b39c990a01de11415a3af69244") false
    over (fun _ h => by cases h) (by kernel_rfl) (fun _ h => by cases h) shaBlocks_row_tie rfl ⟨rfl, rfl⟩ (by kernel_rfl) rfl
    (fun f fn hf hfn => by
      obtain rfl : f = 4 := Option.some.inj ((show Tryd.prog.funcNamed "jurat/juratlaw02.ShaBlocks" = some 4 by kernel_rfl).symm.trans hf) |>.symm
      obtain rfl : fn = Tryd.f4 := (Option.some.inj (Tryd.func4.symm.trans hfn)).symm
      exact ⟨by kernel_rfl, fun j t ht => by
        rw [Tryd.params4] at ht
        have hm : t ∈ [29, 22] := by simpa using Array.mem_of_getElem? ht
        have hall : ([29, 22].all fun u => !Tryd.prog.wantsStandIn u) = true := by kernel_rfl
        exact (show Tryd.prog.wantsStandIn t = false by simpa using List.all_eq_true.1 hall t hm)⟩)
    (by kernel_rfl)
#print axioms shaBlocks_holds
end Go.Proofs.YtbekdlnoikkkbaaDoor.shaBlocks
