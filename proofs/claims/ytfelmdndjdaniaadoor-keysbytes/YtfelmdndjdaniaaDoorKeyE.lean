/-
  The document's Same of two signatures that are the same.
-/
import Derived.Test.YtfelmdndjdaniaaDoorKeyD
namespace Go.Proofs.YtfelmdndjdaniaaDoor
open Go.RowKit
set_option maxRecDepth 100000 in
set_option maxHeartbeats 2000000 in
theorem kSame_yes (i : Int) (A A' B B' : Option Addr) (n c c' m d d' : Nat) (L M : List (List UInt8)) (w : World) (hA : Ds w A n L) (hA' : Ds w A' n L) (hB : Ds w B m M) (hB' : Ds w B' m M) (hn : n ≤ 1000000) (hm : m ≤ 1000000) :
    Calls Tryd.prog 24 #[.agg (sigC i A n c B m d), .agg (sigC i A' n c' B' m d')] w fun e w' => e = .returned (.bool true) ∧ Below w.heap.size w w' := by
  obtain ⟨w0, hw0⟩ : ∃ w0, (w.alloc (.cells (sigC i A n c B m d) 44)).alloc (.cells (sigC i A' n c' B' m d') 44) = w0 := ⟨_, rfl⟩
  have hb0 : Below w.heap.size w w0 := by rw [← hw0]; exact ((Below.refl w.heap.size w).alloc (Nat.le_refl _) _).alloc (by simp) _
  have hs0 : w.heap.size + 1 < w0.heap.size := by rw [← hw0]; simp
  have hr1 : Row w0 w.heap.size 44 (sigC i A n c B m d) := by rw [← hw0]; exact (Row.new w 44 _).alloc _
  have hr2 : Row w0 (w.heap.size + 1) 44 (sigC i A' n c' B' m d') := by rw [← hw0]; exact Row.new1 w _ 44 _
  have HC1 := Lib.hid (fun w hb => RSame_yes A A' n c c' L w (hA.below hb) (hA'.below hb) hn)
  have HC2 := Lib.hid (fun w hb => RSame_yes B B' m d d' M w (hB.below hb) (hB'.below hb) hm)
  have HR1 := Lib.hid hr1
  have HR2 := Lib.hid hr2
  have k0 : w0.cell? ⟨w.heap.size, 0, none⟩ = some (.int .i64 i) := hr1.cell 0
  have k1 : w0.cell? ⟨w.heap.size, 1, none⟩ = some (.slice A n c) := hr1.cell 1
  have j0 : w0.cell? ⟨w.heap.size + 1, 0, none⟩ = some (.int .i64 i) := hr2.cell 0
  have j1 : w0.cell? ⟨w.heap.size + 1, 1, none⟩ = some (.slice A' n c') := hr2.cell 1
  clear hr1 hr2 hA hA' hB hB'
  go_enter Tryd.func24, Tryd.ntmps24
  go_wp2_with (first
    | (go_at_call 46; have hz := HR11; clear hz; refine (HC2.out w1 b1).mono ?_; rintro e2 w2 ⟨rfl, m2, hw2⟩; have hb2 : Below w1.heap.size w1 w2 := (by rw [hw2]; exact below_drewN (Below.refl _ _) _); clear hw2)
    | (go_at_call 46; refine (HC1.out w0 hb0).mono ?_; rintro e1 w1 ⟨rfl, m1, hw1⟩; have hb1 : Below w0.heap.size w0 w1 := (by rw [hw1]; exact below_drewN (Below.refl _ _) _); have b1 := hb0.trans (hb1.mono hb0.size); have HR11 := Lib.hid (HR1.out.below hb1 (by omega)); have HR12 := Lib.hid (HR2.out.below hb1 hs0); have k2 : w1.cell? ⟨w.heap.size, 2, none⟩ = some (.slice B m d) := HR11.out.cell 2; have j2 : w1.cell? ⟨w.heap.size + 1, 2, none⟩ = some (.slice B' m d') := HR12.out.cell 2; clear hw1))
  go_ret
  exact ⟨rfl, b1.trans (hb2.mono b1.size)⟩
end Go.Proofs.YtfelmdndjdaniaaDoor
