/-
  What the document's ledger tells: a leaf, a head, the proof of a place, of a beginning.
-/
import Derived.Test.YtbpbpdaohganaaaDoorLedK
namespace Go.Proofs.YtbpbpdaohganaaaDoor
open Go.RowKit
set_option maxRecDepth 100000 in
set_option maxHeartbeats 400000 in
theorem MApp_full (g m c : Nat) (A : Option Addr) (F : Nat → Prop) (L : List (List UInt8)) (w : World) (h : LedM w g F 4096 L) (hm : m ≤ 4096) : Calls Tryd.prog 14 #[.pointer (some ⟨g, 0, none⟩), .slice A m c] w fun e w' => e = .returned (.tuple #[.int .i64 0, .int .i64 90]) ∧ w = w' := by
  obtain ⟨Ad, cd, Al, cl, hc, _⟩ := h.cell
  have i1 : ¬ (4096 : Int) < (m : Int) := by omega
  clear h hm
  go_enter Tryd.func14, Tryd.ntmps14
  go_wp2
  go_ret2
  exact ⟨rfl, rfl⟩
/-- a leaf as the document's ledger has it -/
def LeafM (w : World) (m : Nat) (l : List UInt8) (e : Ending) (w' : World) : Prop := ∃ A c, e = .returned (.tuple #[.slice A m c, .int .i64 0]) ∧ Bs w A m l ∧ w = w'
set_option maxRecDepth 100000 in
set_option maxHeartbeats 400000 in
theorem MLeaf_ok (g n k : Nat) (l : List UInt8) (F : Nat → Prop) (L : List (List UInt8)) (w : World) (h : LedM w g F n L) (hk : L[k]? = some l) : Calls Tryd.prog 16 #[.pointer (some ⟨g, 0, none⟩), .int .i64 (k : Int)] w (LeafM w l.length l) := by
  have hkn : k < n := by rw [← h.length]; exact (List.getElem?_eq_some_iff.1 hk).1
  obtain ⟨Ad, cd, Al, cl, hc0, hc1, _, _, ht⟩ := h.cell
  obtain ⟨b, A', c', l', rfl, hb, _, hl', hcb, hnc, hB⟩ := ht.get hkn
  obtain rfl : l = l' := by rw [hk] at hl'; injection hl'
  have HB := Lib.hid hB
  obtain ⟨m, hm⟩ : ∃ m, l.length = m := ⟨_, rfl⟩
  have i0 : ¬ (k : Int) < 0 := by omega
  have i1 : ¬ (n : Int) ≤ (k : Int) := by omega
  rw [hm] at HB hcb ⊢
  have e0 : (⟨b, 0 + k, none⟩ : Addr) = ⟨b, k, none⟩ := by rw [Nat.zero_add]
  clear h hk hl' hB hb hnc hm ht hc1
  go_enter Tryd.func16, Tryd.ntmps16
  go_wp2
  go_ret2
  exact ⟨A', c', rfl, HB.out, rfl⟩
set_option maxRecDepth 100000 in
set_option maxHeartbeats 400000 in
theorem MLeaf_no (g n : Nat) (z : Int) (F : Nat → Prop) (L : List (List UInt8)) (w : World) (h : LedM w g F n L) (hz : z < 0 ∨ (n : Int) ≤ z) : Calls Tryd.prog 16 #[.pointer (some ⟨g, 0, none⟩), .int .i64 z] w fun e w' => e = .returned (.tuple #[.slice none 0 0, .int .i64 1]) ∧ w = w' := by
  obtain ⟨Ad, cd, Al, cl, hc0, _⟩ := h.cell
  by_cases h0 : z < 0
  · clear h hz
    go_enter Tryd.func16, Tryd.ntmps16
    go_wp2
    go_ret2
    exact ⟨rfl, rfl⟩
  · have h1 : (n : Int) ≤ z := by omega
    clear h hz
    go_enter Tryd.func16, Tryd.ntmps16
    go_wp2
    go_ret2
    exact ⟨rfl, rfl⟩
set_option maxRecDepth 100000 in
set_option maxHeartbeats 400000 in
theorem MHead_ok (g n k : Nat) (F : Nat → Prop) (L : List (List UInt8)) (w : World) (h : LedM w g F n L) (hk : k ≤ n) (hn : n ≤ 1024) (hF : First w) (hT : Tab 4 w) : Calls Tryd.prog 19 #[.pointer (some ⟨g, 0, none⟩), .int .i64 (k : Int)] w (HeadR w k (rootL ((L.map leafL).take k)) 0) := by
  obtain ⟨Ad, cd, Al, cl, hc0, hc1, hnc, hD, _⟩ := h.cell
  have HRt := Lib.hid (fun A c w hc hD hF hT => Refroot_ok A k c ((L.map leafL).take k) w (by omega) hc hD hF hT)
  have hDg : Digs (L.map leafL) := fun d hd => by simp only [List.mem_map] at hd; obtain ⟨l, _, rfl⟩ := hd; exact leafL_length l
  have HRL := Lib.hid (rootL_length ((L.map leafL).take k) (hDg.take k))
  have HX0 := Lib.hid hc0
  have HX1 := Lib.hid hc1
  have HD := Lib.hid hD
  have HNC := Lib.hid hnc
  have HKN := Lib.hid hk
  have HFi := Lib.hid hF
  have HT := Lib.hid hT
  have i0 : ¬ (k : Int) < 0 := by omega
  have i1 : ¬ (n : Int) < (k : Int) := by omega
  have hgl := h.1
  have hg := h.2.1 g hgl
  clear h hT hF hk hn hDg hc0 hc1 hnc hD hgl
  generalize hq : (L.map leafL).take k = D at *
  have HQ := Lib.hid hq
  clear hq
  generalize rootL D = R at *
  have HS := Lib.hid (headC_size (k : Int) R HRL.out)
  go_enter Tryd.func19, Tryd.ntmps19
  go_wp2_with (first
    | (with_reducible refine wpList_allocH rfl rfl ?_; intro gh w1 hgh hrh hbh; have HRh := Lib.hid hrh; have hgl := hrh.lt; have hge : w.heap.size ≤ gh := (by omega); have k0 := (hbh.cell (p := ⟨g, 0, none⟩) hg).trans HX0.out; have k1 := (hbh.cell (p := ⟨g, 1, none⟩) hg).trans HX1.out; clear hgh hrh)
    | (with_reducible refine wpList_headD rfl (.tmp 22) (.tmp 23) rfl Ad n cd k _ rfl rfl rfl HKN.out HNC.out ?_; intro A2 h2 h3; have HD2 := Lib.hid (h2 w1 _ (HD.out.below hbh)); have HC2 := Lib.hid (Nat.le_trans HKN.out HNC.out); clear h2 h3)
    | (go_at_call 36; refine (HRt.out A2 cd w1 HC2.out (by rw [← HQ.out]; exact HD2.out) (HFi.out.below hbh) (HT.out.below hbh)).mono ?_; rintro e3 w3 ⟨rfl, hb3⟩; have HR3 := Lib.hid (HRh.out.below hb3 hgl); have b3 := hbh.trans (hb3.mono hbh.size))
    | (with_reducible refine wpList_buildH rfl (.tmp 18) (.tmp 25) rfl (k : Int) R HRL.out rfl rfl ?_)
    | (with_reducible refine wpList_store_row Tryd.aggHead rfl (.tmp 4) (.tmp 26) rfl _ (headC (k : Int) R) rfl rfl 48 head0 HR3.out HS.out head0_size (headC_one _ _) ?_; intro w9 hr9 ho9; have HR9 := Lib.hid hr9; clear hr9))
  exact bodyPost_ret (results_row2 Tryd.aggHead Tryd.results19 rfl rfl HR9.out HS.out) rfl ⟨rfl, b3.trans (ho9.below hge b3.size)⟩
set_option maxRecDepth 100000 in
set_option maxHeartbeats 400000 in
theorem MHead_no (g n : Nat) (z : Int) (F : Nat → Prop) (L : List (List UInt8)) (w : World) (h : LedM w g F n L) (hz : z < 0 ∨ (n : Int) < z) : Calls Tryd.prog 19 #[.pointer (some ⟨g, 0, none⟩), .int .i64 z] w (HeadR w 0 zero32 1) := by
  obtain ⟨Ad, cd, Al, cl, hc0, _⟩ := h.cell
  have HS := Lib.hid head0_size
  have H1 := Lib.hid (show head0.all (·.oneCell') = true from headC_one _ _)
  have hg := h.2.1 g h.1
  have HX0 := Lib.hid hc0
  have hz2 : (z < 0) ∨ ¬ (z < 0) ∧ (n : Int) < z := by omega
  clear h hc0 hz
  rcases hz2 with h0 | ⟨h0, h1⟩
  all_goals
    go_enter Tryd.func19, Tryd.ntmps19
    go_wp2_with (first
      | (with_reducible refine wpList_allocH rfl rfl ?_; intro gh w1 hgh hrh hbh; have HRh := Lib.hid hrh; have hge : w.heap.size ≤ gh := (by omega); have k0 := (hbh.cell (p := ⟨g, 0, none⟩) hg).trans HX0.out; clear hgh hrh)
      | (with_reducible refine wpList_buildH0 rfl rfl ?_)
      | (with_reducible refine wpList_store_row Tryd.aggHead rfl (.tmp 4) (.tmp 17) rfl _ head0 rfl rfl 48 head0 HRh.out HS.out HS.out H1.out ?_; intro w9 hr9 ho9; have HR9 := Lib.hid hr9; clear hr9))
    exact bodyPost_ret (results_row2 Tryd.aggHead Tryd.results19 rfl rfl HR9.out HS.out) rfl ⟨rfl, hbh.trans (ho9.below hge hbh.size)⟩
set_option maxRecDepth 100000 in
set_option maxHeartbeats 400000 in
theorem MInclude_ok (g n k : Nat) (i : Int) (F : Nat → Prop) (L : List (List UInt8)) (w : World) (h : LedM w g F n L) (hk : k ≤ n) (hn : n ≤ 1024) (hF : First w) (hT : Tab 4 w) : Calls Tryd.prog 21 #[.pointer (some ⟨g, 0, none⟩), .int .i64 i, .int .i64 (k : Int)] w (NewD w (incI ((L.map leafL).take k) i) (errI k i)) := by
  obtain ⟨Ad, cd, Al, cl, hc0, hc1, hnc, hD, _⟩ := h.cell
  have HRt := Lib.hid (fun A c w hc hD hF hT => RefInclude_any A k c i ((L.map leafL).take k) w (by omega) hc hD hF hT)
  have HD := Lib.hid hD
  have HNC := Lib.hid hnc
  have HKN := Lib.hid hk
  have HFi := Lib.hid hF
  have HT := Lib.hid hT
  have i0 : ¬ (k : Int) < 0 := by omega
  have i1 : ¬ (n : Int) < (k : Int) := by omega
  clear h hT hF hk hn hnc hD
  generalize hq : (L.map leafL).take k = D at *
  have HQ := Lib.hid hq
  clear hq
  generalize incI D i = R at *
  generalize errI k i = E at *
  go_enter Tryd.func21, Tryd.ntmps21
  go_wp2_with (first
    | (with_reducible refine wpList_headD rfl (.tmp 22) (.tmp 23) rfl Ad n cd k _ rfl rfl rfl HKN.out HNC.out ?_; intro A2 h2 h3; have HD2 := Lib.hid (h2 w _ HD.out); have HC2 := Lib.hid (Nat.le_trans HKN.out HNC.out); clear h2 h3)
    | (go_at_call 38; refine (HRt.out A2 cd w HC2.out (by rw [← HQ.out]; exact HD2.out) HFi.out HT.out).mono ?_; rintro e3 w3 ⟨A3, c3, rfl, hc3, ho3, hb3⟩; have HO3 := Lib.hid ho3; clear ho3))
  go_ret2
  exact ⟨A3, c3, rfl, hc3, HO3.out, hb3⟩
set_option maxRecDepth 100000 in
set_option maxHeartbeats 400000 in
theorem MInclude_no (g n : Nat) (i z : Int) (F : Nat → Prop) (L : List (List UInt8)) (w : World) (h : LedM w g F n L) (hz : z < 0 ∨ (n : Int) < z) : Calls Tryd.prog 21 #[.pointer (some ⟨g, 0, none⟩), .int .i64 i, .int .i64 z] w (NewD w [] 1) := by
  obtain ⟨Ad, cd, Al, cl, hc0, _⟩ := h.cell
  have hz2 : (z < 0) ∨ ¬ (z < 0) ∧ (n : Int) < z := by omega
  clear h hz
  rcases hz2 with h0 | ⟨h0, h1⟩
  all_goals
    go_enter Tryd.func21, Tryd.ntmps21
    go_wp2
    go_ret2
    exact NewD.nil _ 1
set_option maxRecDepth 100000 in
set_option maxHeartbeats 400000 in
theorem MConsist_ok (g n k : Nat) (i : Int) (F : Nat → Prop) (L : List (List UInt8)) (w : World) (h : LedM w g F n L) (hk : k ≤ n) (hn : n ≤ 1024) (hF : First w) (hT : Tab 4 w) : Calls Tryd.prog 24 #[.pointer (some ⟨g, 0, none⟩), .int .i64 i, .int .i64 (k : Int)] w (NewD w (conI ((L.map leafL).take k) i) (errC k i)) := by
  obtain ⟨Ad, cd, Al, cl, hc0, hc1, hnc, hD, _⟩ := h.cell
  have HRt := Lib.hid (fun A c w hc hD hF hT => RefConsist_any A k c i ((L.map leafL).take k) w (by omega) hc hD hF hT)
  have HD := Lib.hid hD
  have HNC := Lib.hid hnc
  have HKN := Lib.hid hk
  have HFi := Lib.hid hF
  have HT := Lib.hid hT
  have i0 : ¬ (k : Int) < 0 := by omega
  have i1 : ¬ (n : Int) < (k : Int) := by omega
  clear h hT hF hk hn hnc hD
  generalize hq : (L.map leafL).take k = D at *
  have HQ := Lib.hid hq
  clear hq
  generalize conI D i = R at *
  generalize errC k i = E at *
  go_enter Tryd.func24, Tryd.ntmps24
  go_wp2_with (first
    | (with_reducible refine wpList_headD rfl (.tmp 22) (.tmp 23) rfl Ad n cd k _ rfl rfl rfl HKN.out HNC.out ?_; intro A2 h2 h3; have HD2 := Lib.hid (h2 w _ HD.out); have HC2 := Lib.hid (Nat.le_trans HKN.out HNC.out); clear h2 h3)
    | (go_at_call 40; refine (HRt.out A2 cd w HC2.out (by rw [← HQ.out]; exact HD2.out) HFi.out HT.out).mono ?_; rintro e3 w3 ⟨A3, c3, rfl, hc3, ho3, hb3⟩; have HO3 := Lib.hid ho3; clear ho3))
  go_ret2
  exact ⟨A3, c3, rfl, hc3, HO3.out, hb3⟩
set_option maxRecDepth 100000 in
set_option maxHeartbeats 400000 in
theorem MConsist_no (g n : Nat) (i z : Int) (F : Nat → Prop) (L : List (List UInt8)) (w : World) (h : LedM w g F n L) (hz : z < 0 ∨ (n : Int) < z) : Calls Tryd.prog 24 #[.pointer (some ⟨g, 0, none⟩), .int .i64 i, .int .i64 z] w (NewD w [] 1) := by
  obtain ⟨Ad, cd, Al, cl, hc0, _⟩ := h.cell
  have hz2 : (z < 0) ∨ ¬ (z < 0) ∧ (n : Int) < z := by omega
  clear h hz
  rcases hz2 with h0 | ⟨h0, h1⟩
  all_goals
    go_enter Tryd.func24, Tryd.ntmps24
    go_wp2
    go_ret2
    exact NewD.nil _ 1
end Go.Proofs.YtbpbpdaohganaaaDoor
