/-
  What proof.Leaf and proof.Node, and the document's own, answer: the sum of a byte and what stands behind it.
-/
import Derived.Test.YtbpbpdaohganaaaDoorDgs
namespace Go.Proofs.YtbpbpdaohganaaaDoor
open Go.RowKit
/-- the node of two digests, a leaf's digest, the root of none -/
def nodeL (a b : List UInt8) : List UInt8 := sumL (1 :: (a ++ b))
theorem nodeL_length (a b : List UInt8) : (nodeL a b).length = 32 := sumL_length _
def leafL (b : List UInt8) : List UInt8 := sumL (0 :: b)
theorem leafL_length (b : List UInt8) : (leafL b).length = 32 := sumL_length _
set_option maxRecDepth 100000 in
set_option maxHeartbeats 2000000 in
theorem Node_any (a b : List UInt8) (w : World) (ha : a.length = 32) (hb : b.length = 32) (hT : Tab 1 w) :
    Calls Tryd.prog 51 #[.agg (bcells a), .agg (bcells b)] w fun e w' => e = .returned (.agg (bcells (nodeL a b))) ∧ Below w.heap.size w w' := by
  have hcut := run_cut_all (P := Tryd.prog) Tryd.under23 Tryd.size5
  have h2 := hT.1
  have HS := Lib.hid (show (bcells (nodeL a b)).size = 32 by rw [bcells_size, nodeL_length])
  have HSM := Lib.hid (fun g w h hT => show Calls Tryd.prog 44 #[.pointer (some ⟨g, 0, none⟩)] w fun e w' => e = .returned (.agg (bcells (nodeL a b))) ∧ Below w.heap.size w w' from HSum_any g (1 :: (a ++ b)) w h hT (by rw [List.length_cons, List.length_append, ha, hb]; omega))
  have HL := Lib.hid ha
  have HLb := Lib.hid hb
  have hb0 := (((Below.refl w.heap.size w).alloc (Nat.le_refl _) (.cells (bcells a) 46)).alloc (by simp) (.cells (bcells b) 46)).alloc (by simp <;> omega) (.cells lit32 46)
  have HA0 := Lib.hid (((Row.new w 46 (bcells a)).alloc (.cells (bcells b) 46)).alloc (.cells lit32 46))
  have HB0 := Lib.hid ((Row.new1 w (.cells (bcells a) 46) 46 (bcells b)).alloc (.cells lit32 46))
  have HZ0 := Lib.hid (Row.new2 w (.cells (bcells a) 46) (.cells (bcells b) 46) 46 lit32)
  have HT := Lib.hid hT
  generalize nodeL a b = R at *
  clear hT ha hb
  go_enter Tryd.func51, Tryd.ntmps51
  go_wp2_with (first
    | (go_at_call 42; refine (New_any _).mono ?_; rintro e1 w1 ⟨g, rfl, hg, hh1, hb1⟩; have HH1 := Lib.hid hh1; have hs1 := hb1.size; have hlt1 := hh1.lt; simp at hs1 hg; have hb1' := hb0.trans (hb1.mono (by simp <;> omega)); have HA1 := Lib.hid (HA0.out.below hb1 (by simp <;> omega)); have HB1 := Lib.hid (HB0.out.below hb1 (by simp <;> omega)); have HZ1 := Lib.hid (HZ0.out.below hb1 (by simp <;> omega)); have HTw1 := Lib.hid (HT.out.below hb1'); clear hh1)
    | (go_at_call 43; have hz := HH3; clear hz; refine (Write_any g (([] ++ [1]) ++ a) _ 32 32 b w3 HH3.out (HB3.out.bsB HLb.out) (.inr ⟨_, _, rfl, by omega⟩) (Nat.le_refl _) HTw3.out (by omega) (by rw [List.length_append, HL.out]; simp)).mono ?_; rintro e4 w4 ⟨rfl, hh4, ho4⟩; have HH4 := Lib.hid (show HashAt w4 g (1 :: (a ++ b)) by simpa using hh4); have hs4 := ho4.size; have HZ4 := Lib.hid (HZ3.out.only ho4 (by omega)); have HTw4 := Lib.hid (HTw3.out.only ho4 (by omega)); have hb4' := hb3'.trans (ho4.below (B := w.heap.size) (by omega) hb3'.size); clear hh4)
    | (go_at_call 43; have hz := HH2; clear hz; refine (Write_any g ([] ++ [1]) _ 32 32 a w2 HH2.out (HA2.out.bsB HL.out) (.inr ⟨_, _, rfl, by omega⟩) (Nat.le_refl _) HTw2.out (by omega) (by simp <;> omega)).mono ?_; rintro e3 w3 ⟨rfl, hh3, ho3⟩; have HH3 := Lib.hid hh3; have hs3 := ho3.size; have HB3 := Lib.hid (HB2.out.only ho3 (by omega)); have HZ3 := Lib.hid (HZ2.out.only ho3 (by omega)); have HTw3 := Lib.hid (HTw2.out.only ho3 (by omega)); have hb3' := hb2'.trans (ho3.below (B := w.heap.size) (by omega) hb2'.size); clear hh3)
    | (go_at_call 43; refine (Write_any g [] _ 1 1 [1] (w1.alloc (.cells #[.int .u8 1] 5)) (HH1.out.alloc _) (one_of w1 1 5).bs (.inr ⟨_, _, rfl, by omega⟩) (Nat.le_refl _) (HTw1.out.below ((Below.refl _ _).alloc (Nat.le_refl _) _)) (by omega) (by simp <;> omega)).mono ?_; rintro e2 w2 ⟨rfl, hh2, ho2⟩; have HH2 := Lib.hid hh2; have hs2 := ho2.size; simp at hs2; have HA2 := Lib.hid ((HA1.out.alloc (.cells #[.int .u8 1] 5)).only ho2 (by omega)); have HB2 := Lib.hid ((HB1.out.alloc (.cells #[.int .u8 1] 5)).only ho2 (by omega)); have HZ2 := Lib.hid ((HZ1.out.alloc (.cells #[.int .u8 1] 5)).only ho2 (by omega)); have HTw2 := Lib.hid ((HTw1.out.below ((Below.refl _ _).alloc (Nat.le_refl _) (.cells #[.int .u8 1] 5))).only ho2 (by omega)); have hb2' := (hb1'.alloc hb1'.size (.cells #[.int .u8 1] 5)).trans (ho2.below (B := w.heap.size) (by omega) (by simp <;> omega)); clear hh2)
    | (go_at_call 44; refine (HSM.out g w4 HH4.out HTw4.out).mono ?_; rintro e5 w5 ⟨rfl, hb5⟩; have HZ5 := Lib.hid (HZ4.out.below hb5 (by omega)); have hb5' := hb4'.trans (hb5.mono hb4'.size))
    | (with_reducible refine wpList_store_row Tryd.agg25 rfl (.tmp 4) (.tmp 17) rfl _ _ rfl rfl 46 lit32 HZ5.out HS.out lit32_size (bcells_one _) ?_; intro w9 hr9 ho9; have HR9 := Lib.hid hr9; clear hr9))
  refine bodyPost_ret (results_row1 Tryd.agg25 Tryd.results51 rfl HR9.out HS.out) rfl ⟨rfl, ?_⟩
  exact hb5'.trans (ho9.below (by omega) hb5'.size)
set_option maxRecDepth 100000 in
set_option maxHeartbeats 2000000 in
theorem RefNode_any (a b : List UInt8) (w : World) (ha : a.length = 32) (hb : b.length = 32) (hF : First w) (hT : Tab 4 w) :
    Calls Tryd.prog 53 #[.agg (bcells a), .agg (bcells b)] w fun e w' => e = .returned (.agg (bcells (nodeL a b))) ∧ Below w.heap.size w w' := by
  have HS := Lib.hid (show (bcells (nodeL a b)).size = 32 by rw [bcells_size, nodeL_length])
  have HSM := Lib.hid (fun A n c w hB hc hF hT hn => show Calls Tryd.prog 46 #[.slice A n c] w fun e w' => e = .returned (.agg (bcells (nodeL a b))) ∧ Below w.heap.size w w' from RefSum_any A n c (1 :: (a ++ b)) w hB hc hF hT hn)
  have HDA := Lib.hid (fun w => DBytes_any a w ha)
  have HDB := Lib.hid (fun w => DBytes_any b w hb)
  have HL := Lib.hid ha
  have HLb := Lib.hid hb
  have HSa := Lib.hid (show (bcells a).size = 32 by rw [bcells_size, ha])
  have HSb := Lib.hid (show (bcells b).size = 32 by rw [bcells_size, hb])
  have hb0 := ((((Below.refl w.heap.size w).alloc (Nat.le_refl _) (.cells (bcells a) 46)).alloc (by simp) (.cells (bcells b) 46)).alloc (by simp <;> omega) (.cells lit32 46)).alloc (by simp <;> omega) (.cells #[.int .u8 1] 5)
  have HA0 := Lib.hid ((((Row.new w 46 (bcells a)).alloc (.cells (bcells b) 46)).alloc (.cells lit32 46)).alloc (.cells #[.int .u8 1] 5))
  have HB0 := Lib.hid (((Row.new1 w (.cells (bcells a) 46) 46 (bcells b)).alloc (.cells lit32 46)).alloc (.cells #[.int .u8 1] 5))
  have HZ0 := Lib.hid ((Row.new2 w (.cells (bcells a) 46) (.cells (bcells b) 46) 46 lit32).alloc (.cells #[.int .u8 1] 5))
  have HO0 := Lib.hid (show Own ((((w.alloc (.cells (bcells a) 46)).alloc (.cells (bcells b) 46)).alloc (.cells lit32 46)).alloc (.cells #[.int .u8 1] 5)) (w.heap.size + 1 + 1 + 1) 5 (.slice (some ⟨w.heap.size + 1 + 1 + 1, 0, none⟩) 1 1) 1 [1] by
    have h := one_of (((w.alloc (.cells (bcells a) 46)).alloc (.cells (bcells b) 46)).alloc (.cells lit32 46)) 1 5
    simp at h
    exact h)
  have HT := Lib.hid hT
  have HF := Lib.hid hF
  generalize nodeL a b = R at *
  clear hT hF ha hb
  go_enter Tryd.func53, Tryd.ntmps53
  go_wp2_with (first
    | (with_reducible refine wpList_load_row Tryd.agg25 rfl (.tmp 2) rfl _ rfl 46 _ HA0.out HSa.out ?_)
    | (with_reducible refine wpList_load_row Tryd.agg25 rfl (.tmp 3) rfl _ rfl 46 _ HB2.out HSb.out ?_)
    | (go_at_call_of 68 (Value.agg (bcells a)); refine (HDA.out _).mono ?_; rintro e1 w1 ⟨A1, n1, c1, rfl, hB1, hc1, hb1, -⟩; have HBs1 := Lib.hid hB1; have HN1 := Lib.hid (show n1 = 32 from hB1.1.symm.trans HL.out); have hn1 : n1 ≤ 32 := (by rw [HN1.out]; exact Nat.le_refl _); have hs1 := hb1.size; simp at hs1; have HB1 := Lib.hid (HB0.out.below hb1 (by simp <;> omega)); have HZ1 := Lib.hid (HZ0.out.below hb1 (by simp <;> omega)); have HO1 := Lib.hid (HO0.out.below hb1); have hb1' := hb0.trans (hb1.mono (by simp <;> omega)); clear hB1)
    | (at_builtin; refine wpList_app Tryd.byteTypes rfl (.tmp 7) (.tmp 9) rfl (w.heap.size + 1 + 1 + 1) _ 1 [1] rfl HO1.out A1 n1 c1 a rfl HBs1.out (by omega) (by omega) ?_; intro A2 c2 w2 ho2 hb2 _; have HO2 := Lib.hid ho2; have hs2 := hb2.size; have HB2 := Lib.hid (HB1.out.below hb2 (by omega)); have HZ2 := Lib.hid (HZ1.out.below hb2 (by omega)); have hb2' := hb1'.trans (hb2.mono (by omega)); clear ho2)
    | (go_at_call_of 68 (Value.agg (bcells b)); refine (HDB.out _).mono ?_; rintro e3 w3 ⟨A3, n3, c3, rfl, hB3, hc3, hb3, -⟩; have HBs3 := Lib.hid hB3; have HN3 := Lib.hid (show n3 = 32 from hB3.1.symm.trans HLb.out); have hn3 : n3 ≤ 32 := (by rw [HN3.out]; exact Nat.le_refl _); have hs3 := hb3.size; have HZ3 := Lib.hid (HZ2.out.below hb3 (by omega)); have HO3 := Lib.hid (HO2.out.below hb3); have hb3' := hb2'.trans (hb3.mono (by omega)); clear hB3)
    | (at_builtin; refine wpList_app Tryd.byteTypes rfl (.tmp 11) (.tmp 13) rfl (w.heap.size + 1 + 1 + 1) _ (1 + n1) ([1] ++ a) rfl HO3.out A3 n3 c3 b rfl HBs3.out (by omega) (by omega) ?_; intro A4 c4 w4 ho4 hb4 _; have HO4 := Lib.hid ho4; have hs4 := hb4.size; have HZ4 := Lib.hid (HZ3.out.below hb4 (by omega)); have hb4' := hb3'.trans (hb4.mono (by omega)); obtain ⟨A4q, c4q, hf1, hf2⟩ := ho4.form; injection hf1 with hfa hfb hfc; subst hfa hfc; clear ho4 hfb)
    | (go_at_call 46; refine (HSM.out A4 _ _ w4 (by have h := HO4.out.bs; simpa using h) hf2 (HF.out.below hb4') (HT.out.below hb4') (by omega)).mono ?_; rintro e5 w5 ⟨rfl, hb5⟩; have HZ5 := Lib.hid (HZ4.out.below hb5 (by omega)); have hb5' := hb4'.trans (hb5.mono hb4'.size))
    | (with_reducible refine wpList_store_row Tryd.agg25 rfl (.tmp 4) (.tmp 16) rfl _ _ rfl rfl 46 lit32 HZ5.out HS.out lit32_size (bcells_one _) ?_; intro w9 hr9 ho9; have HR9 := Lib.hid hr9; clear hr9))
  refine bodyPost_ret (results_row1 Tryd.agg25 Tryd.results53 rfl HR9.out HS.out) rfl ⟨rfl, ?_⟩
  exact hb5'.trans (ho9.below (by omega) hb5'.size)
set_option maxRecDepth 100000 in
set_option maxHeartbeats 2000000 in
theorem Leaf_any (A : Option Addr) (n c : Nat) (l : List UInt8) (w : World) (hB : Bs w A n l) (hnc : n ≤ c) (hn : n ≤ 1000000) (hT : Tab 1 w) :
    Calls Tryd.prog 28 #[.slice A n c] w fun e w' => e = .returned (.agg (bcells (leafL l))) ∧ Below w.heap.size w w' := by
  have h2 := hT.1
  have HS := Lib.hid (show (bcells (leafL l)).size = 32 by rw [bcells_size, leafL_length])
  have HSM := Lib.hid (fun g w h hT => show Calls Tryd.prog 44 #[.pointer (some ⟨g, 0, none⟩)] w fun e w' => e = .returned (.agg (bcells (leafL l))) ∧ Below w.heap.size w w' from HSum_any g (0 :: l) w h hT (by rw [List.length_cons, hB.1]; omega))
  have HB := Lib.hid hB
  have hb0 := (Below.refl w.heap.size w).alloc (Nat.le_refl _) (.cells lit32 46)
  have HZ0 := Lib.hid (Row.new w 46 lit32)
  have HT := Lib.hid hT
  generalize leafL l = R at *
  clear hT hB
  go_enter Tryd.func28, Tryd.ntmps28
  go_wp2_with (first
    | (go_at_call 42; refine (New_any _).mono ?_; rintro e1 w1 ⟨g, rfl, hg, hh1, hb1⟩; have HH1 := Lib.hid hh1; have hs1 := hb1.size; have hlt1 := hh1.lt; simp at hs1 hg; have hb1' := hb0.trans (hb1.mono (by simp <;> omega)); have HZ1 := Lib.hid (HZ0.out.below hb1 (by simp <;> omega)); have HTw1 := Lib.hid (HT.out.below hb1'); clear hh1)
    | (go_at_call 43; have hz := HH2; clear hz; have HBw := Lib.hid (HB.out.below hb2'); refine (Write_any g ([] ++ [0]) A n c l w2 HH2.out HBw.out (HB.out.apart hg0) hnc HTw2.out (by omega) (by simp <;> omega)).mono ?_; rintro e3 w3 ⟨rfl, hh3, ho3⟩; have HH3 := Lib.hid (show HashAt w3 g (0 :: l) by simpa using hh3); have hs3 := ho3.size; have HZ3 := Lib.hid (HZ2.out.only ho3 (by omega)); have HTw3 := Lib.hid (HTw2.out.only ho3 (by omega)); have hb3' := hb2'.trans (ho3.below (B := w.heap.size) (by omega) hb2'.size); clear hh3)
    | (go_at_call 43; refine (Write_any g [] _ 1 1 [0] (w1.alloc (.cells #[.int .u8 0] 5)) (HH1.out.alloc _) (one_of w1 0 5).bs (.inr ⟨_, _, rfl, by omega⟩) (Nat.le_refl _) (HTw1.out.below ((Below.refl _ _).alloc (Nat.le_refl _) _)) (by omega) (by simp <;> omega)).mono ?_; rintro e2 w2 ⟨rfl, hh2, ho2⟩; have HH2 := Lib.hid hh2; have hs2 := ho2.size; simp at hs2; have hg0 : w.heap.size ≤ g := (by omega); have HZ2 := Lib.hid ((HZ1.out.alloc (.cells #[.int .u8 0] 5)).only ho2 (by omega)); have HTw2 := Lib.hid ((HTw1.out.below ((Below.refl _ _).alloc (Nat.le_refl _) (.cells #[.int .u8 0] 5))).only ho2 (by omega)); have hb2' := (hb1'.alloc hb1'.size (.cells #[.int .u8 0] 5)).trans (ho2.below (B := w.heap.size) (by omega) (by simp <;> omega)); clear hh2)
    | (go_at_call 44; refine (HSM.out g w3 HH3.out HTw3.out).mono ?_; rintro e5 w5 ⟨rfl, hb5⟩; have HZ5 := Lib.hid (HZ3.out.below hb5 (by omega)); have hb5' := hb3'.trans (hb5.mono hb3'.size))
    | (with_reducible refine wpList_store_row Tryd.agg25 rfl (.tmp 2) (.tmp 12) rfl _ _ rfl rfl 46 lit32 HZ5.out HS.out lit32_size (bcells_one _) ?_; intro w9 hr9 ho9; have HR9 := Lib.hid hr9; clear hr9))
  refine bodyPost_ret (results_row1 Tryd.agg25 Tryd.results28 rfl HR9.out HS.out) rfl ⟨rfl, ?_⟩
  exact hb5'.trans (ho9.below (by omega) hb5'.size)
end Go.Proofs.YtbpbpdaohganaaaDoor
