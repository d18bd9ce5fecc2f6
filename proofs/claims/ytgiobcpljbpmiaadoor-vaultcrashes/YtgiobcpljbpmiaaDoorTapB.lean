/-
  A file's place in a tape, a new tape; a step, all steps made sure, and what a file has, of a tape.
-/
import Derived.Test.YtgiobcpljbpmiaaDoorTapA
namespace Go.Proofs.YtgiobcpljbpmiaaDoor
open Go.RowKit
theorem Tryd.size63 (w : World) : (sizeOf 63).run Tryd.prog w = .ok 3 w := by
  obtain ⟨i, hi, hs⟩ : ∃ i, Tryd.prog.info? 63 = some i ∧ i.size = 3 := by
    have h : (Tryd.prog.info? 63).map (·.size) = some 3 := by kernel_rfl
    cases hq : Tryd.prog.info? 63 with
    | none => simp [hq] at h
    | some i => simp [hq] at h; exact ⟨i, rfl, h⟩
  simp [sizeOf, typeInfo, hi, hs]
theorem run_indexF (g i : Nat) (z : Int) (hz : z = i) (hi : i < 4) (w : World) : (Instr.indexAt 64 (.pointer (some ⟨g, 0, none⟩)) (.int .i64 z)).run Tryd.prog w = .ok (.pointer (some ⟨g, 3 * i, none⟩)) w := by
  subst hz
  have h1 : (0 : Int) ≤ (i : Int) ∧ (i : Int) < 4 := by omega
  simp [Instr.indexAt, Instr.sureAddr, asIntOf, run_underlying Tryd.underlying64, h1, Addr.add_mid, hi, Nat.mul_comm]
theorem wpList_indexF {ops : Array Oper} {rest : List Oper} {o : Oper} {a : Act} {w : World} {Q : Exit → Act → World → Prop} (hgd : o.guard = none) (x1 x2 : Operand) (ho : o.op = .indexAddr 64 x1 x2) (g i : Nat) (z : Int)
    (hx : a.eval x1 = .pointer (some ⟨g, 0, none⟩)) (hy : a.eval x2 = .int .i64 z) (hz : z = i) (hi : i < 4)
    (h : wpList Tryd.prog ops Q rest (a.put o.dst (.pointer (some ⟨g, 3 * i, none⟩))) w) : wpList Tryd.prog ops Q (o :: rest) a w :=
  wpList_plain hgd fun _ hK => by
    unfold Oper.wp execOp
    simp only [ho, hx, hy, Sem.run_bind, run_indexF g i z hz hi, Result.andThen_ok]
    exact hK _ _ h
set_option maxRecDepth 100000 in
theorem file_ok (g i : Nat) (hi : i < 4) (w : World) : Calls Tryd.prog 42 #[.pointer (some ⟨g, 0, none⟩), .int .i64 (i : Int)] w fun e w' => e = .returned (.tuple #[.pointer (some ⟨g, 3 * i, none⟩), .int .i64 0]) ∧ w = w' := by
  have h0 : ¬ (i : Int) < 0 := by omega
  have h4 : ¬ (4 : Int) ≤ (i : Int) := by omega
  go_enter Tryd.func42, Tryd.ntmps42
  go_wp2_with (with_reducible refine wpList_indexF rfl (.tmp 17) (.tmp 15) rfl g i _ rfl rfl rfl hi ?_)
  go_ret2
  exact ⟨rfl, rfl⟩
set_option maxRecDepth 100000 in
theorem file_no (g : Nat) (z : Int) (hz : ¬ isF z) (w : World) : Calls Tryd.prog 42 #[.pointer (some ⟨g, 0, none⟩), .int .i64 z] w fun e w' => e = .returned (.tuple #[.pointer none, .int .i64 1]) ∧ w = w' := by
  by_cases h0 : z < 0
  · clear hz
    go_enter Tryd.func42, Tryd.ntmps42
    go_wp2
    go_ret2
    exact ⟨rfl, rfl⟩
  · have h4 : (4 : Int) ≤ z := by unfold isF at hz; omega
    clear hz
    go_enter Tryd.func42, Tryd.ntmps42
    go_wp2
    go_ret2
    exact ⟨rfl, rfl⟩
set_option maxRecDepth 100000 in
theorem file_nil (z : Int) (w : World) : Calls Tryd.prog 42 #[.pointer none, .int .i64 z] w fun e w' => e = .returned (.tuple #[.pointer none, .int .i64 2]) ∧ w = w' := by
  go_enter Tryd.func42, Tryd.ntmps42
  go_wp2
  go_ret2
  exact ⟨rfl, rfl⟩
abbrev tap0 : Array Value := #[.slice none 0 0, .slice none 0 0, .int .i64 0, .slice none 0 0, .slice none 0 0, .int .i64 0, .slice none 0 0, .slice none 0 0, .int .i64 0, .slice none 0 0, .slice none 0 0, .int .i64 0, .int .i64 (-1), .bool false]
theorem tap0_tap {w : World} {g : Nat} (h : Row w g 66 tap0) : Tap w g (fun _ _ => False) Tp.new :=
  ⟨fun i b q => q.elim, fun i b q => q.elim, fun i j b q => q.elim, by decide, tap0, h, rfl, rfl, rfl, fun i hi => by
    have h3 : tap0[3 * i]? = some (.slice none 0 0) ∧ tap0[3 * i + 1]? = some (.slice none 0 0) ∧ tap0[3 * i + 2]? = some (.int .i64 0) := by
      rcases i with _ | _ | _ | _ | i
      · exact ⟨rfl, rfl, rfl⟩
      · exact ⟨rfl, rfl, rfl⟩
      · exact ⟨rfl, rfl, rfl⟩
      · exact ⟨rfl, rfl, rfl⟩
      · omega
    exact ⟨none, 0, 0, none, 0, 0, h3.1, h3.2.1, h3.2.2, Own.nil _ _ _, OwnS.nil _ _, (fun b (q : none = some b) => by cases q), (fun b (q : none = some b) => by cases q)⟩⟩
set_option maxRecDepth 100000 in
theorem TNew_any (w : World) : Calls Tryd.prog 12 #[] w fun e w' => ∃ g, e = .returned (.pointer (some ⟨g, 0, none⟩)) ∧ w.heap.size ≤ g ∧ Tap w' g (fun _ _ => False) Tp.new ∧ Below w.heap.size w w' := by
  go_enter Tryd.func12, Tryd.ntmps12
  go_wp2
  go_ret
  exact ⟨_, rfl, Nat.le_refl _, tap0_tap (Row.new w 66 tap0), (Below.refl _ _).alloc (Nat.le_refl _) _⟩
/-- the cells of the head, and of a file's length -/
theorem Tap.cell {w : World} {g : Nat} {F : Nat → Nat → Prop} {S : Tp} (h : Tap w g F S) : w.cell? ⟨g, 12, none⟩ = some (.int .i64 S.fuse) ∧ w.cell? ⟨g, 13, none⟩ = some (.bool S.down) := by
  obtain ⟨cs, hr, _, h12, h13, _⟩ := h.row
  exact ⟨(hr.cell 12).trans h12, (hr.cell 13).trans h13⟩
theorem Tap.size {w : World} {g i : Nat} {F : Nat → Nat → Prop} {S : Tp} (h : Tap w g F S) (hi : i < 4) : w.cell? ⟨g, 3 * i + 2, none⟩ = some (.int .i64 ((S.f i).now.length : Int)) := by
  obtain ⟨cs, hr, _, _, _, h4⟩ := h.row
  obtain ⟨A1, n1, c1, A2, m, c2, _, _, h3, _⟩ := h4 i hi
  exact (hr.cell _).trans h3
theorem Tap.steps {w : World} {g i : Nat} {F : Nat → Nat → Prop} {S : Tp} (h : Tap w g F S) (hi : i < 4) : ∃ A c, w.cell? ⟨g, 3 * i + 1, none⟩ = some (.slice A (S.f i).opn.length c) := by
  obtain ⟨cs, hr, _, _, _, h4⟩ := h.row
  obtain ⟨A1, n1, c1, A2, m, c2, _, h2, _, _, h5, _⟩ := h4 i hi
  refine ⟨A2, c2, ?_⟩
  rw [h5.length]
  exact (hr.cell _).trans h2
theorem set2 {cs : Array Value} {a b : Nat} {u v : Value} (k : Nat) (h1 : k ≠ a) (h2 : k ≠ b) : ((cs.setIfInBounds a u).setIfInBounds b v)[k]? = cs[k]? := by
  rw [Array.getElem?_setIfInBounds, if_neg (fun e => h2 e.symm), Array.getElem?_setIfInBounds, if_neg (fun e => h1 e.symm)]
/-- a step is made in the i-th file -/
theorem add_tap {S : Tp} (g i K : Nat) (F : Nat → Nat → Prop) (x : Stp) (z : Int) (w : World) (h : Tap w g F S) (hi : i < 4) (hok : S.ok K) (hK : K ≤ 100000000) (hz : z = (((S.add i x).f i).now.length : Int)) :
    Calls Tryd.prog 44 #[.pointer (some ⟨g, 3 * i, none⟩), .agg (stpC x).toArray, .int .i64 z] w fun e w' => e = .returned (.tuple #[]) ∧ Grow w g F (S.add i x) w' := by
  obtain ⟨cs, hr, hs, h12, h13, h4⟩ := h.row
  obtain ⟨A1, n1, c1, A2, m, c2, h1, h2, h3, hO, hS, hF1, hF2⟩ := h4 i hi
  have hm := (hok i).2
  rw [hS.length] at hm
  refine (add_ok g (3 * i) m c2 A2 z cs (S.f i).opn x w hr (by omega) h2 hS (by omega)).mono ?_
  rintro e w' ⟨rfl, A', c', hr', hS', hb', hoff⟩
  refine ⟨rfl, h.put hr hr' (by rw [Array.size_setIfInBounds, Array.size_setIfInBounds]; exact hs) ?_ ?_ h.fz hi ?_ (hoff.mono (fun b q => q.imp id (fun q => hF2 b q))) ⟨A1, n1, c1, A', m + 1, c', ?_, ?_, ?_, ?_, ?_, fun b q => .inl (hF1 b q), fun b q => (hb' b q).imp (hF2 b) id⟩⟩
  · rw [set2 12 (by omega) (by omega)]; exact h12
  · rw [set2 13 (by omega) (by omega)]; exact h13
  · intro j hj hji k hk
    exact set2 _ (by omega) (by omega)
  · rw [set2 _ (by omega) (by omega)]; exact h1
  · rw [Array.getElem?_setIfInBounds, if_neg (by omega), Array.getElem?_setIfInBounds, if_pos rfl, if_pos (by omega)]
  · rw [Array.getElem?_setIfInBounds, if_pos rfl, if_pos (by rw [Array.size_setIfInBounds]; omega), hz]
    unfold Tp.add
    simp only [upd_same]
  · exact hO.keep (fun b q => hoff.block b (hO.lt b q).2 (fun q2 => by
      rcases q2 with q2 | q2
      · exact h.off i b (hF1 b q) q2
      · exact ownsRow_apart hO hS (by decide) q q2))
  · exact hS'
/-- all steps of the i-th file are made sure -/
theorem settle_tap {S : Tp} (g i K : Nat) (F : Nat → Nat → Prop) (w : World) (h : Tap w g F S) (hi : i < 4) (hok : S.ok K) (hK : K ≤ 100000000) :
    Calls Tryd.prog 72 #[.pointer (some ⟨g, 3 * i, none⟩)] w fun e w' => e = .returned (.tuple #[]) ∧ Grow w g F (S.settle i) w' := by
  obtain ⟨cs, hr, hs, h12, h13, h4⟩ := h.row
  obtain ⟨A1, n1, c1, A2, m, c2, h1, h2, h3, hO, hS, hF1, hF2⟩ := h4 i hi
  have hm := (hok i).2
  rw [hS.length] at hm
  refine (settle_any g (3 * i) n1 c1 m c2 A1 A2 _ _ cs w hr (by omega) h1 h2 hO hS (hok i).1 (by omega)).mono ?_
  rintro e w' ⟨rfl, A', n', c', hr', hO', hS', hb', hoff⟩
  refine ⟨rfl, h.put hr hr' (by rw [Array.size_setIfInBounds, Array.size_setIfInBounds]; exact hs) ?_ ?_ h.fz hi ?_ (hoff.mono (fun b q => q.imp id (fun q => q.elim (hF1 b) (hF2 b)))) ⟨A', n', c', A2, 0, c2, ?_, ?_, ?_, hO', hS', fun b q => (hb' b q).imp (hF1 b) id, fun b q => .inl (hF2 b (ob_len q))⟩⟩
  · rw [set2 12 (by omega) (by omega)]; exact h12
  · rw [set2 13 (by omega) (by omega)]; exact h13
  · intro j hj hji k hk
    exact set2 _ (by omega) (by omega)
  · rw [Array.getElem?_setIfInBounds, if_neg (by omega), Array.getElem?_setIfInBounds, if_pos rfl, if_pos (by omega)]
  · rw [Array.getElem?_setIfInBounds, if_pos rfl, if_pos (by rw [Array.size_setIfInBounds]; omega)]
  · rw [set2 _ (by omega) (by omega)]; exact h3
/-- what the i-th file has behind its first k open steps -/
theorem after_tap {S : Tp} (g i k K : Nat) (F : Nat → Nat → Prop) (w : World) (h : Tap w g F S) (hi : i < 4) (hok : S.ok K) (hK : K ≤ 100000000) (hk : k ≤ (S.f i).opn.length) :
    Calls Tryd.prog 36 #[.pointer (some ⟨g, 3 * i, none⟩), .int .i64 (k : Int)] w fun e w' => ∃ A' n' c', e = .returned (.slice A' n' c') ∧ Own w' w.heap.size 5 (.slice A' n' c') n' ((S.f i).after k) ∧ Below w.heap.size w w' := by
  obtain ⟨cs, hr, hs, h12, h13, h4⟩ := h.row
  obtain ⟨A1, n1, c1, A2, m, c2, h1, h2, h3, hO, hS, hF1, hF2⟩ := h4 i hi
  have hm := (hok i).2
  rw [hS.length] at hm hk
  exact after_ok g (3 * i) n1 c1 m c2 k A1 A2 _ _ cs w hr h1 h2 hO hS (hok i).1 hk (by omega)
end Go.Proofs.YtgiobcpljbpmiaaDoor
