/-
  What the document's own Leaf answers: the sum of a byte 0 and a leaf's bytes.
-/
import Derived.Test.YtbpbpdaohganaaaDoorNodeA
namespace Go.Proofs.YtbpbpdaohganaaaDoor
open Go.RowKit
set_option maxRecDepth 100000 in
set_option maxHeartbeats 400000 in
theorem RefLeaf_any (A : Option Addr) (n c : Nat) (l : List UInt8) (w : World) (hB : Bs w A n l) (hn : n ≤ 900000) (hF : First w) (hT : Tab 4 w) :
    Calls Tryd.prog 33 #[.slice A n c] w fun e w' => e = .returned (.agg (bcells (leafL l))) ∧ Below w.heap.size w w' := by
  have HS := Lib.hid (show (bcells (leafL l)).size = 32 by rw [bcells_size, leafL_length])
  have HSM := Lib.hid (fun A n c w hB hc hF hT hn => show Calls Tryd.prog 46 #[.slice A n c] w fun e w' => e = .returned (.agg (bcells (leafL l))) ∧ Below w.heap.size w w' from RefSum_any A n c (0 :: l) w hB hc hF hT hn)
  have hb0 := ((Below.refl w.heap.size w).alloc (Nat.le_refl _) (.cells lit32 46)).alloc (by simp) (.cells #[.int .u8 0] 5)
  have HZ0 := Lib.hid ((Row.new w 46 lit32).alloc (.cells #[.int .u8 0] 5))
  have HO0 := Lib.hid (show Bs ((w.alloc (.cells lit32 46)).alloc (.cells #[.int .u8 0] 5)) (some ⟨w.heap.size + 1, 0, none⟩) 1 [0] by
    have h := (one_of (w.alloc (.cells lit32 46)) 0 5).bs
    simp at h
    exact h)
  have HB := Lib.hid hB
  have HT := Lib.hid hT
  have HF := Lib.hid hF
  generalize leafL l = R at *
  clear hT hF hB
  go_enter Tryd.func33, Tryd.ntmps33
  go_wp2_with (first
    | (go_at_call 47; refine (RefJoin_any (some ⟨w.heap.size + 1, 0, none⟩) A 1 n 1 c [0] l _ HO0.out (HB.out.below hb0) (by omega)).mono ?_; rintro e1 w1 ⟨A1, n1, c1, rfl, hB1, hc1, hb1, -⟩; have HB1 := Lib.hid (show Bs w1 A1 n1 (0 :: l) from hB1); have hn1 : n1 ≤ 1000000 := (by have := HB1.out.1; rw [List.length_cons, HB.out.1] at this; omega); have hs1 := hb1.size; simp at hs1; have HZ1 := Lib.hid (HZ0.out.below hb1 (by simp <;> omega)); have hb1' := hb0.trans (hb1.mono (by simp <;> omega)); clear hB1)
    | (go_at_call 46; refine (HSM.out A1 n1 c1 w1 HB1.out hc1 (HF.out.below hb1') (HT.out.below hb1') hn1).mono ?_; rintro e5 w5 ⟨rfl, hb5⟩; have HZ5 := Lib.hid (HZ1.out.below hb5 (by omega)); have hb5' := hb1'.trans (hb5.mono hb1'.size))
    | (with_reducible refine wpList_store_row Tryd.agg25 rfl (.tmp 2) (.tmp 6) rfl _ _ rfl rfl 46 lit32 HZ5.out HS.out lit32_size (bcells_one _) ?_; intro w9 hr9 ho9; have HR9 := Lib.hid hr9; clear hr9))
  refine bodyPost_ret (results_row1 Tryd.agg25 Tryd.results33 rfl HR9.out HS.out) rfl ⟨rfl, ?_⟩
  exact hb5'.trans (ho9.below (by omega) hb5'.size)
end Go.Proofs.YtbpbpdaohganaaaDoor
