/-
  What the program's ledger answers without growing: New, Size, the number of digests, a beginning of them, and what a copy of bytes is.
-/
import Derived.Test.YtbpbpdaohganaaaDoorLedA
import Derived.Test.YtbpbpdaohganaaaDoorMakeA
namespace Go.Proofs.YtbpbpdaohganaaaDoor
open Go.RowKit
set_option maxRecDepth 100000 in
theorem count_any (g n c : Nat) (A : Option Addr) (w : World) (hc : w.cell? ⟨g, 0, none⟩ = some (.slice A n c)) : Calls Tryd.prog 30 #[.pointer (some ⟨g, 0, none⟩)] w fun e w' => e = .returned (.int .i64 (n : Int)) ∧ w = w' := by
  go_enter Tryd.func30, Tryd.ntmps30
  go_wp2
  go_ret
  exact ⟨rfl, rfl⟩
set_option maxRecDepth 100000 in
theorem LNew_any (w : World) : Calls Tryd.prog 11 #[] w fun e w' => ∃ g, e = .returned (.pointer (some ⟨g, 0, none⟩)) ∧ w.heap.size ≤ g ∧ Led w' g (· = g) 0 [] ∧ Below w.heap.size w w' := by
  go_enter Tryd.func11, Tryd.ntmps11
  go_wp2
  go_ret
  refine ⟨_, rfl, Nat.le_refl _, ⟨rfl, fun b hb => ?_, none, 0, none, 0, Row.new w 74 _, Dgst.nil _ _, Texts.nil _ _⟩, (Below.refl _ _).alloc (Nat.le_refl _) _⟩
  subst hb; simp
theorem Led.cell {w : World} {g n : Nat} {F : Nat → Prop} {L : List (List UInt8)} (h : Led w g F n L) : ∃ Ad cd Al cl, w.cell? ⟨g, 0, none⟩ = some (.slice Ad n cd) ∧ w.cell? ⟨g, 1, none⟩ = some (.slice Al n cl) ∧ n ≤ cd ∧ Ds w Ad n (L.map leafL) ∧ Texts w F (.slice Al n cl) n L := by
  obtain ⟨h1, h2, Ad, cd, Al, cl, h3, h4, h5⟩ := h
  obtain ⟨A', c', e, hc⟩ := h4.1.form
  injection e with q1 q2 q3
  subst q1 q3
  exact ⟨Ad, cd, Al, cl, h3.cell 0, h3.cell 1, hc, h4.1.ds, h5⟩
set_option maxRecDepth 100000 in
theorem Size_any (g n : Nat) (F : Nat → Prop) (L : List (List UInt8)) (w : World) (h : Led w g F n L) : Calls Tryd.prog 25 #[.pointer (some ⟨g, 0, none⟩)] w fun e w' => e = .returned (.int .i64 (n : Int)) ∧ w = w' := by
  obtain ⟨Ad, cd, Al, cl, hc, _⟩ := h.cell
  have HC := Lib.hid (fun w hc => count_any g n cd Ad w hc)
  have HX := Lib.hid hc
  clear h hc
  go_enter Tryd.func25, Tryd.ntmps25
  go_wp2_with (go_at_call 30; refine (HC.out _ HX.out).mono ?_; rintro e1 w1 ⟨rfl, rfl⟩)
  go_ret
  exact ⟨rfl, rfl⟩
set_option maxRecDepth 100000 in
theorem Size_nil (w : World) : Calls Tryd.prog 25 #[.pointer none] w fun e w' => e = .returned (.int .i64 0) ∧ w = w' := by
  go_enter Tryd.func25, Tryd.ntmps25
  go_wp2
  go_ret
  exact ⟨rfl, rfl⟩
theorem eqlNilB (n c : Nat) (w : World) : (binOp .eql 31 (.slice none n c) (.slice none 0 0)).run Tryd.prog w = .ok (.bool true) w := by kernel_rfl
theorem eqlSomeB (a : Addr) (n c : Nat) (w : World) : (binOp .eql 31 (.slice (some a) n c) (.slice none 0 0)).run Tryd.prog w = .ok (.bool false) w := by kernel_rfl
set_option maxRecDepth 100000 in
/-- bytes.Clone -/
theorem Clone_any (A : Option Addr) (n c : Nat) (l : List UInt8) (w : World) (hB : Bs w A n l) (hn : n ≤ 1000000) : Calls Tryd.prog 31 #[.slice A n c] w fun e w' => ∃ A' c', e = .returned (.slice A' n c') ∧ n ≤ c' ∧ Own w' w.heap.size 5 (.slice A' n c') n l ∧ Below w.heap.size w w' := by
  rcases A with _ | a
  · obtain rfl : n = 0 := by
      rcases Nat.eq_zero_or_pos n with h | h
      · exact h
      · obtain ⟨b, off, x, e, _⟩ := hB.get h; cases e
    obtain rfl : l = [] := hB.empty rfl
    clear hB
    have hE := fun w => eqlNilB 0 c w
    go_enter Tryd.func31, Tryd.ntmps31
    go_wp2
    go_ret
    exact ⟨none, 0, rfl, Nat.le_refl _, Own.nil _ _ _, Below.refl _ _⟩
  · have HB := Lib.hid hB
    clear hB
    have hE := fun w => eqlSomeB a n c w
    go_enter Tryd.func31, Tryd.ntmps31
    go_wp2_with (at_builtin; refine wpList_app Tryd.byteTypes rfl (.tmp 5) (.tmp 6) rfl w.heap.size (.slice (some ⟨w.heap.size, 0, none⟩) 0 0) 0 [] rfl ((Row.new w 5 #[]).own (l := []) (Nat.le_refl _) rfl rfl (by omega) (fun j x h => by simp at h)) (some a) n c l rfl (HB.out.below ((Below.refl _ _).alloc (Nat.le_refl _) _)) (by omega) (by simp) ?_; intro A3 c3 w3 ho3 hb3 hg3)
    go_ret
    rw [Nat.zero_add, List.nil_append] at ho3
    obtain ⟨A', c', e, hc⟩ := ho3.form
    injection e with q1 q2 q3
    subst q1 q3
    exact ⟨_, _, rfl, hc, ho3, ((Below.refl _ _).alloc (Nat.le_refl _) _).trans hb3⟩
/-- x[:k:k] of a slice of digests -/
theorem cutD_max (A : Option Addr) (n c k : Nat) (hk : k ≤ n) (hnc : n ≤ c) :
    ∃ A', (∀ w, (Instr.sliceAt 28 (.slice A n c) none (some (.int .i64 (k : Int))) (some (.int .i64 (k : Int)))).run Tryd.prog w = .ok (.slice A' k k) w) ∧ (∀ w L, Ds w A n L → Ds w A' k (L.take k)) := by
  refine ⟨if k = 0 then A else A.map (·.add (0 * 32)), fun w => ?_, fun w L hb => ?_⟩
  · have h2 : (k : Int) ≤ c := by omega
    simp [Instr.sliceAt, Instr.slice, run_underlying Tryd.under24, Instr.sliceBounds, run_sliceBound, h2]
  · by_cases hc : k = 0
    · rw [if_pos hc]; exact hb.take hk
    · rw [if_neg hc]
      obtain ⟨b, off, d, rfl, _⟩ := hb.get (k := 0) (by omega)
      rw [Option.map_some, Addr.add_mid, Nat.zero_mul, Nat.add_zero]
      exact hb.take hk
theorem wpList_maxD {ops : Array Oper} {rest : List Oper} {o : Oper} {a : Act} {w : World} {Q : Exit → Act → World → Prop} (hgd : o.guard = none) (x y z : Operand) (ho : o.op = .slice 28 x none (some y) (some z))
    (A : Option Addr) (n c k : Nat) (hx : a.eval x = .slice A n c) (hy : a.eval y = .int .i64 (k : Int)) (hz : a.eval z = .int .i64 (k : Int)) (hk : k ≤ n) (hnc : n ≤ c)
    (h : ∀ A', (∀ w L, Ds w A n L → Ds w A' k (L.take k)) → wpList Tryd.prog ops Q rest (a.put o.dst (.slice A' k k)) w) : wpList Tryd.prog ops Q (o :: rest) a w := by
  obtain ⟨A', hrun, h1⟩ := cutD_max A n c k hk hnc
  refine wpList_plain hgd fun K hK => ?_
  unfold Oper.wp execOp
  simp [ho, hx, hy, hz, hrun, Result.andThen]
  exact hK _ _ (h A' h1)
set_option maxRecDepth 100000 in
theorem first_any (g n c k : Nat) (A : Option Addr) (L : List (List UInt8)) (w : World) (hc : w.cell? ⟨g, 0, none⟩ = some (.slice A n c)) (hk : k ≤ n) (hnc : n ≤ c) (hD : Ds w A n L) : Calls Tryd.prog 48 #[.pointer (some ⟨g, 0, none⟩), .int .i64 (k : Int)] w fun e w' => ∃ A', e = .returned (.slice A' k k) ∧ Ds w A' k (L.take k) ∧ w = w' := by
  have HD := Lib.hid hD
  have HK := Lib.hid hk
  have HN := Lib.hid hnc
  clear hD hk hnc
  go_enter Tryd.func48, Tryd.ntmps48
  go_wp2_with (with_reducible refine wpList_maxD rfl (.tmp 8) (.tmp 9) (.tmp 10) rfl A n c k rfl rfl rfl HK.out HN.out ?_; intro A2 h2)
  go_ret
  exact ⟨A2, rfl, h2 _ _ HD.out, rfl⟩
set_option maxRecDepth 100000 in
theorem begin_ok (g n k : Nat) (F : Nat → Prop) (L : List (List UInt8)) (w : World) (h : Led w g F n L) (hk : k ≤ n) : Calls Tryd.prog 34 #[.pointer (some ⟨g, 0, none⟩), .int .i64 (k : Int)] w fun e w' => ∃ A', e = .returned (.tuple #[.slice A' k k, .int .i64 0]) ∧ Ds w A' k ((L.map leafL).take k) ∧ w = w' := by
  obtain ⟨Ad, cd, Al, cl, hc, _, hnc, hD, _⟩ := h.cell
  have HC := Lib.hid (fun w hc => count_any g n cd Ad w hc)
  have HF := Lib.hid (fun w hc hD => first_any g n cd k Ad (L.map leafL) w hc hk hnc hD)
  have HX := Lib.hid hc
  have HD := Lib.hid hD
  have i1 : ¬ (n : Int) < (k : Int) := by omega
  have i0 : ¬ (k : Int) < 0 := by omega
  clear h hc hD hk hnc
  generalize L.map leafL = D at *
  go_enter Tryd.func34, Tryd.ntmps34
  go_wp2_with (first
    | (go_at_call 30; refine (HC.out _ HX.out).mono ?_; rintro e1 w1 ⟨rfl, rfl⟩)
    | (go_at_call 48; refine (HF.out _ HX.out HD.out).mono ?_; rintro e2 w2 ⟨A2, rfl, hd2, rfl⟩))
  go_ret2
  exact ⟨A2, rfl, hd2, rfl⟩
set_option maxRecDepth 100000 in
theorem begin_no (g n : Nat) (z : Int) (F : Nat → Prop) (L : List (List UInt8)) (w : World) (h : Led w g F n L) (hz : z < 0 ∨ (n : Int) < z) : Calls Tryd.prog 34 #[.pointer (some ⟨g, 0, none⟩), .int .i64 z] w fun e w' => e = .returned (.tuple #[.slice none 0 0, .int .i64 1]) ∧ w = w' := by
  obtain ⟨Ad, cd, Al, cl, hc, _⟩ := h.cell
  have HC := Lib.hid (fun w hc => count_any g n cd Ad w hc)
  have HX := Lib.hid hc
  by_cases h0 : z < 0
  · clear h hc hz
    go_enter Tryd.func34, Tryd.ntmps34
    go_wp2
    go_ret2
    exact ⟨rfl, rfl⟩
  · have h1 : (n : Int) < z := by omega
    clear h hc hz
    go_enter Tryd.func34, Tryd.ntmps34
    go_wp2_with (go_at_call 30; refine (HC.out _ HX.out).mono ?_; rintro e1 w1 ⟨rfl, rfl⟩)
    go_ret2
    exact ⟨rfl, rfl⟩
set_option maxRecDepth 100000 in
theorem begin_nil (z : Int) (w : World) : Calls Tryd.prog 34 #[.pointer none, .int .i64 z] w fun e w' => e = .returned (.tuple #[.slice none 0 0, .int .i64 2]) ∧ w = w' := by
  go_enter Tryd.func34, Tryd.ntmps34
  go_wp2
  go_ret2
  exact ⟨rfl, rfl⟩
end Go.Proofs.YtbpbpdaohganaaaDoor
