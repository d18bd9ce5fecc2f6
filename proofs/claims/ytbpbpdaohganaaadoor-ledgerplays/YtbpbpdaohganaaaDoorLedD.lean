/-
  What the program's ledger tells: a head, a leaf, the proof of a place, of a beginning.
-/
import Derived.Test.YtbpbpdaohganaaaDoorLedC
namespace Go.Proofs.YtbpbpdaohganaaaDoor
open Go.RowKit
set_option maxRecDepth 100000 in
set_option maxHeartbeats 400000 in
theorem Head_ok (g n k : Nat) (F : Nat → Prop) (L : List (List UInt8)) (w : World) (h : Led w g F n L) (hk : k ≤ n) (hn : k ≤ 1024) (hT : Tab 1 w) : Calls Tryd.prog 18 #[.pointer (some ⟨g, 0, none⟩), .int .i64 (k : Int)] w (HeadR w k (rootL ((L.map leafL).take k)) 0) := by
  have HBg := Lib.hid (fun w h => begin_ok g n k F L w h hk)
  have HRt := Lib.hid (fun A w hD hT => root_ok A k k ((L.map leafL).take k) w hn (Nat.le_refl _) hD hT)
  have hDg : Digs (L.map leafL) := fun d hd => by simp only [List.mem_map] at hd; obtain ⟨l, _, rfl⟩ := hd; exact leafL_length l
  have HRL := Lib.hid (rootL_length ((L.map leafL).take k) (hDg.take k))
  have HL := Lib.hid h
  have HT := Lib.hid hT
  clear h hT hk hn hDg
  generalize (L.map leafL).take k = D at *
  generalize rootL D = R at *
  have HS := Lib.hid (headC_size (k : Int) R HRL.out)
  go_enter Tryd.func18, Tryd.ntmps18
  go_wp2_with (first
    | (with_reducible refine wpList_allocH rfl rfl ?_; intro gh w1 hgh hrh hbh; have HRh := Lib.hid hrh; have HL1 := Lib.hid (HL.out.below hbh); have HT1 := Lib.hid (HT.out.below hbh); have hgl := hrh.lt; have hge : w.heap.size ≤ gh := (by omega); clear hgh hrh)
    | (go_at_call 34; refine (HBg.out _ HL1.out).mono ?_; rintro e2 w2 ⟨A2, rfl, hd2, rfl⟩; have HD2 := Lib.hid hd2; clear hd2)
    | (go_at_call 35; refine (HRt.out _ _ HD2.out HT1.out).mono ?_; rintro e3 w3 ⟨rfl, hb3⟩; have HR3 := Lib.hid (HRh.out.below hb3 hgl); have b3 := hbh.trans (hb3.mono hbh.size))
    | (with_reducible refine wpList_buildH rfl (.tmp 18) (.tmp 20) rfl (k : Int) R HRL.out rfl rfl ?_)
    | (with_reducible refine wpList_store_row Tryd.aggHead rfl (.tmp 4) (.tmp 21) rfl _ (headC (k : Int) R) rfl rfl 48 head0 HR3.out HS.out head0_size (headC_one _ _) ?_; intro w9 hr9 ho9; have HR9 := Lib.hid hr9; clear hr9))
  exact bodyPost_ret (results_row2 Tryd.aggHead Tryd.results18 rfl rfl HR9.out HS.out) rfl ⟨rfl, b3.trans (ho9.below hge b3.size)⟩
set_option maxRecDepth 100000 in
set_option maxHeartbeats 400000 in
theorem Head_no (g n : Nat) (z : Int) (F : Nat → Prop) (L : List (List UInt8)) (w : World) (h : Led w g F n L) (hz : z < 0 ∨ (n : Int) < z) : Calls Tryd.prog 18 #[.pointer (some ⟨g, 0, none⟩), .int .i64 z] w (HeadR w 0 zero32 1) := by
  have HBg := Lib.hid (fun w h => begin_no g n z F L w h hz)
  have HL := Lib.hid h
  have HS := Lib.hid head0_size
  have H1 := Lib.hid (show head0.all (·.oneCell') = true from headC_one _ _)
  clear h hz
  go_enter Tryd.func18, Tryd.ntmps18
  go_wp2_with (first
    | (with_reducible refine wpList_allocH rfl rfl ?_; intro gh w1 hgh hrh hbh; have HRh := Lib.hid hrh; have HL1 := Lib.hid (HL.out.below hbh); have hge : w.heap.size ≤ gh := (by omega); clear hgh hrh)
    | (go_at_call 34; refine (HBg.out _ HL1.out).mono ?_; rintro e2 w2 ⟨rfl, rfl⟩)
    | (with_reducible refine wpList_buildH0 rfl rfl ?_)
    | (with_reducible refine wpList_store_row Tryd.aggHead rfl (.tmp 4) (.tmp 16) rfl _ head0 rfl rfl 48 head0 HRh.out HS.out HS.out H1.out ?_; intro w9 hr9 ho9; have HR9 := Lib.hid hr9; clear hr9))
  exact bodyPost_ret (results_row2 Tryd.aggHead Tryd.results18 rfl rfl HR9.out HS.out) rfl ⟨rfl, hbh.trans (ho9.below hge hbh.size)⟩
set_option maxRecDepth 100000 in
set_option maxHeartbeats 400000 in
theorem Head_nil (z : Int) (w : World) : Calls Tryd.prog 18 #[.pointer none, .int .i64 z] w (HeadR w 0 zero32 2) := by
  have HBg := Lib.hid (fun w => begin_nil z w)
  have HS := Lib.hid head0_size
  have H1 := Lib.hid (show head0.all (·.oneCell') = true from headC_one _ _)
  go_enter Tryd.func18, Tryd.ntmps18
  go_wp2_with (first
    | (with_reducible refine wpList_allocH rfl rfl ?_; intro gh w1 hgh hrh hbh; have HRh := Lib.hid hrh; have hge : w.heap.size ≤ gh := (by omega); clear hgh hrh)
    | (go_at_call 34; refine (HBg.out _).mono ?_; rintro e2 w2 ⟨rfl, rfl⟩)
    | (with_reducible refine wpList_buildH0 rfl rfl ?_)
    | (with_reducible refine wpList_store_row Tryd.aggHead rfl (.tmp 4) (.tmp 16) rfl _ head0 rfl rfl 48 head0 HRh.out HS.out HS.out H1.out ?_; intro w9 hr9 ho9; have HR9 := Lib.hid hr9; clear hr9))
  exact bodyPost_ret (results_row2 Tryd.aggHead Tryd.results18 rfl rfl HR9.out HS.out) rfl ⟨rfl, hbh.trans (ho9.below hge hbh.size)⟩
set_option maxRecDepth 100000 in
set_option maxHeartbeats 400000 in
theorem LInclude_ok (g n k : Nat) (i : Int) (F : Nat → Prop) (L : List (List UInt8)) (w : World) (h : Led w g F n L) (hk : k ≤ n) (hn : k ≤ 1024) (hT : Tab 1 w) : Calls Tryd.prog 20 #[.pointer (some ⟨g, 0, none⟩), .int .i64 i, .int .i64 (k : Int)] w (NewD w (incI ((L.map leafL).take k) i) (errI k i)) := by
  have HBg := Lib.hid (fun w h => begin_ok g n k F L w h hk)
  have HRt := Lib.hid (fun A w hD hT => Include_any A k k i ((L.map leafL).take k) w hn (Nat.le_refl _) hD hT)
  have HL := Lib.hid h
  have HT := Lib.hid hT
  clear h hT hk hn
  generalize (L.map leafL).take k = D at *
  generalize incI D i = R at *
  generalize errI k i = E at *
  go_enter Tryd.func20, Tryd.ntmps20
  go_wp2_with (first
    | (go_at_call 34; refine (HBg.out _ HL.out).mono ?_; rintro e2 w2 ⟨A2, rfl, hd2, rfl⟩; have HD2 := Lib.hid hd2; clear hd2)
    | (go_at_call 37; refine (HRt.out _ _ HD2.out HT.out).mono ?_; rintro e3 w3 ⟨A3, c3, rfl, hc3, ho3, hb3⟩; have HO3 := Lib.hid ho3; clear ho3))
  go_ret2
  exact ⟨A3, c3, rfl, hc3, HO3.out, hb3⟩
set_option maxRecDepth 100000 in
set_option maxHeartbeats 400000 in
theorem LInclude_no (g n : Nat) (i z : Int) (F : Nat → Prop) (L : List (List UInt8)) (w : World) (h : Led w g F n L) (hz : z < 0 ∨ (n : Int) < z) : Calls Tryd.prog 20 #[.pointer (some ⟨g, 0, none⟩), .int .i64 i, .int .i64 z] w (NewD w [] 1) := by
  have HBg := Lib.hid (fun w h => begin_no g n z F L w h hz)
  have HL := Lib.hid h
  clear h hz
  go_enter Tryd.func20, Tryd.ntmps20
  go_wp2_with (go_at_call 34; refine (HBg.out _ HL.out).mono ?_; rintro e2 w2 ⟨rfl, rfl⟩)
  go_ret2
  exact NewD.nil _ 1
set_option maxRecDepth 100000 in
set_option maxHeartbeats 400000 in
theorem LInclude_nil (i z : Int) (w : World) : Calls Tryd.prog 20 #[.pointer none, .int .i64 i, .int .i64 z] w (NewD w [] 2) := by
  have HBg := Lib.hid (fun w => begin_nil z w)
  go_enter Tryd.func20, Tryd.ntmps20
  go_wp2_with (go_at_call 34; refine (HBg.out _).mono ?_; rintro e2 w2 ⟨rfl, rfl⟩)
  go_ret2
  exact NewD.nil _ 2
set_option maxRecDepth 100000 in
set_option maxHeartbeats 400000 in
theorem LConsist_ok (g n k : Nat) (i : Int) (F : Nat → Prop) (L : List (List UInt8)) (w : World) (h : Led w g F n L) (hk : k ≤ n) (hn : k ≤ 1024) (hT : Tab 1 w) : Calls Tryd.prog 23 #[.pointer (some ⟨g, 0, none⟩), .int .i64 i, .int .i64 (k : Int)] w (NewD w (conI ((L.map leafL).take k) i) (errC k i)) := by
  have HBg := Lib.hid (fun w h => begin_ok g n k F L w h hk)
  have HRt := Lib.hid (fun A w hD hT => Consist_any A k k i ((L.map leafL).take k) w hn (Nat.le_refl _) hD hT)
  have HL := Lib.hid h
  have HT := Lib.hid hT
  clear h hT hk hn
  generalize (L.map leafL).take k = D at *
  generalize conI D i = R at *
  generalize errC k i = E at *
  go_enter Tryd.func23, Tryd.ntmps23
  go_wp2_with (first
    | (go_at_call 34; refine (HBg.out _ HL.out).mono ?_; rintro e2 w2 ⟨A2, rfl, hd2, rfl⟩; have HD2 := Lib.hid hd2; clear hd2)
    | (go_at_call 39; refine (HRt.out _ _ HD2.out HT.out).mono ?_; rintro e3 w3 ⟨A3, c3, rfl, hc3, ho3, hb3⟩; have HO3 := Lib.hid ho3; clear ho3))
  go_ret2
  exact ⟨A3, c3, rfl, hc3, HO3.out, hb3⟩
set_option maxRecDepth 100000 in
set_option maxHeartbeats 400000 in
theorem LConsist_no (g n : Nat) (i z : Int) (F : Nat → Prop) (L : List (List UInt8)) (w : World) (h : Led w g F n L) (hz : z < 0 ∨ (n : Int) < z) : Calls Tryd.prog 23 #[.pointer (some ⟨g, 0, none⟩), .int .i64 i, .int .i64 z] w (NewD w [] 1) := by
  have HBg := Lib.hid (fun w h => begin_no g n z F L w h hz)
  have HL := Lib.hid h
  clear h hz
  go_enter Tryd.func23, Tryd.ntmps23
  go_wp2_with (go_at_call 34; refine (HBg.out _ HL.out).mono ?_; rintro e2 w2 ⟨rfl, rfl⟩)
  go_ret2
  exact NewD.nil _ 1
set_option maxRecDepth 100000 in
set_option maxHeartbeats 400000 in
theorem LConsist_nil (i z : Int) (w : World) : Calls Tryd.prog 23 #[.pointer none, .int .i64 i, .int .i64 z] w (NewD w [] 2) := by
  have HBg := Lib.hid (fun w => begin_nil z w)
  go_enter Tryd.func23, Tryd.ntmps23
  go_wp2_with (go_at_call 34; refine (HBg.out _).mono ?_; rintro e2 w2 ⟨rfl, rfl⟩)
  go_ret2
  exact NewD.nil _ 2
/-- what the k-th leaf is answered as: a copy in new memory -/
def LeafR (w : World) (l : List UInt8) (E : Int) (e : Ending) (w' : World) : Prop := ∃ A c, e = .returned (.tuple #[.slice A l.length c, .int .i64 E]) ∧ l.length ≤ c ∧ Own w' w.heap.size 5 (.slice A l.length c) l.length l ∧ Below w.heap.size w w'
set_option maxRecDepth 100000 in
set_option maxHeartbeats 400000 in
theorem LLeaf_ok (g n k : Nat) (l : List UInt8) (F : Nat → Prop) (L : List (List UInt8)) (w : World) (h : Led w g F n L) (hk : L[k]? = some l) (hl : l.length ≤ 1000000) : Calls Tryd.prog 15 #[.pointer (some ⟨g, 0, none⟩), .int .i64 (k : Int)] w (LeafR w l 0) := by
  have hkn : k < n := by rw [← h.length]; exact (List.getElem?_eq_some_iff.1 hk).1
  obtain ⟨Ad, cd, Al, cl, hc0, hc1, _, _, ht⟩ := h.cell
  obtain ⟨b, A', c', l', rfl, hb, _, hl', hcb, hnc, hB⟩ := ht.get hkn
  obtain rfl : l = l' := by rw [hk] at hl'; injection hl'
  have HC := Lib.hid (fun w hc => count_any g n cd Ad w hc)
  have HK := Lib.hid (fun w hB => Clone_any A' l.length c' l w hB hl)
  have HB := Lib.hid hB
  have HX := Lib.hid hc0
  obtain ⟨m, hm⟩ : ∃ m, l.length = m := ⟨_, rfl⟩
  have i0 : ¬ (k : Int) < 0 := by omega
  have i1 : ¬ (n : Int) ≤ (k : Int) := by omega
  unfold LeafR
  rw [hm] at HK HB hcb ⊢
  have e0 : (⟨b, 0 + k, none⟩ : Addr) = ⟨b, k, none⟩ := by rw [Nat.zero_add]
  clear h hk hl hl' hB hb hnc hm ht hc0
  go_enter Tryd.func15, Tryd.ntmps15
  go_wp2_with (first
    | (go_at_call 30; refine (HC.out _ HX.out).mono ?_; rintro e1 w1 ⟨rfl, rfl⟩)
    | (go_at_call 31; refine (HK.out _ HB.out).mono ?_; rintro e2 w2 ⟨A2, c2, rfl, hc2, ho2, hb2⟩; have HO2 := Lib.hid ho2; clear ho2))
  go_ret2
  exact ⟨A2, c2, rfl, hc2, HO2.out, hb2⟩
set_option maxRecDepth 100000 in
set_option maxHeartbeats 400000 in
theorem LLeaf_no (g n : Nat) (z : Int) (F : Nat → Prop) (L : List (List UInt8)) (w : World) (h : Led w g F n L) (hz : z < 0 ∨ (n : Int) ≤ z) : Calls Tryd.prog 15 #[.pointer (some ⟨g, 0, none⟩), .int .i64 z] w (LeafR w [] 1) := by
  obtain ⟨Ad, cd, Al, cl, hc0, _⟩ := h.cell
  have HC := Lib.hid (fun w hc => count_any g n cd Ad w hc)
  have HX := Lib.hid hc0
  by_cases h0 : z < 0
  · clear h hz hc0
    go_enter Tryd.func15, Tryd.ntmps15
    go_wp2
    go_ret2
    exact ⟨none, 0, rfl, Nat.le_refl _, Own.nil _ _ _, Below.refl _ _⟩
  · have h1 : (n : Int) ≤ z := by omega
    clear h hz hc0
    go_enter Tryd.func15, Tryd.ntmps15
    go_wp2_with (go_at_call 30; refine (HC.out _ HX.out).mono ?_; rintro e1 w1 ⟨rfl, rfl⟩)
    go_ret2
    exact ⟨none, 0, rfl, Nat.le_refl _, Own.nil _ _ _, Below.refl _ _⟩
set_option maxRecDepth 100000 in
set_option maxHeartbeats 400000 in
theorem LLeaf_nil (z : Int) (w : World) : Calls Tryd.prog 15 #[.pointer none, .int .i64 z] w (LeafR w [] 2) := by
  go_enter Tryd.func15, Tryd.ntmps15
  go_wp2
  go_ret2
  exact ⟨none, 0, rfl, Nat.le_refl _, Own.nil _ _ _, Below.refl _ _⟩
end Go.Proofs.YtbpbpdaohganaaaDoor
