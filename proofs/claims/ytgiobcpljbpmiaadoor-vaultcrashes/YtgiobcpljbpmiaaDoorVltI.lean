/-
  A vault's Save.
-/
import Derived.Test.YtgiobcpljbpmiaaDoorVltH
namespace Go.Proofs.YtgiobcpljbpmiaaDoor
open Go.RowKit
theorem andThen_assoc (p : Tp × Int) (f h : Tp → Tp × Int) : andThen (andThen p f) h = andThen p (fun X => andThen (f X) h) := by
  by_cases h0 : p.2 = 0
  · rw [andThen_ok h0, andThen_ok h0]
  · rw [andThen_no h0, andThen_no h0, andThen_no h0]
def saveL (q : Nat) (t : List UInt8) : List (Tp → Tp × Int) := [fun X => X.cutT (slotNo (q + 1) : Int) 0, fun X => X.append (slotNo (q + 1) : Int) (vFr (q + 1, t)), fun X => X.syncT (slotNo (q + 1) : Int), fun X => X.cutT 0 0, fun X => X.syncT 0]
theorem saveV_seq (S : Tp) (q : Nat) (t : List UInt8) : seqT (saveL q t) S = S.saveV q t := by
  have e : ∀ X : Tp, andThen (X.syncT 0) (seqT []) = X.syncT 0 := fun X => andThen_last _
  unfold saveL
  simp only [seqT, Tp.saveV, Tp.slotV, Tp.cutV, andThen_assoc]
  have e2 : ∀ X : Tp, andThen (X.syncT 0) (fun S => (S, (0 : Int))) = X.syncT 0 := fun X => andThen_last _
  simp only [e2]
  rfl
theorem run_buildF5 (f1 f2 f3 f4 f5 : Value) (h1 : isFn f1) (h2 : isFn f2) (h3 : isFn f3) (h4 : isFn f4) (h5 : isFn f5) (w : World) : (Instr.buildSlice 91 5 #[(0, f1), (1, f2), (2, f3), (3, f4), (4, f5)]).run Tryd.prog w = .ok (.slice (some ⟨w.heap.size, 0, none⟩) 5 5) (w.alloc (.cells #[f1, f2, f3, f4, f5] 73)) := by
  obtain ⟨i, hi, hz, hsize, hby⟩ := info_parts info73
  refine run_buildSlice w 91 73 5 _ _ i _ Tryd.underlying91 hi hz (by rw [hsize]; decide) (by rw [hsize]; decide) ?_
  rw [hsize]
  obtain ⟨a1, b1, c1, rfl⟩ := h1
  obtain ⟨a2, b2, c2, rfl⟩ := h2
  obtain ⟨a3, b3, c3, rfl⟩ := h3
  obtain ⟨a4, b4, c4, rfl⟩ := h4
  obtain ⟨a5, b5, c5, rfl⟩ := h5
  have hf := Great.fill_whole (s := 1) (by omega) [.func a1 b1 c1, .func a2 b2 c2, .func a3 b3 c3, .func a4 b4 c4, .func a5 b5 c5] ((Array.range (5 * 1)).map (Value.nilFunc.cells[· % Value.nilFunc.cells.size]!))
    (fun v hv => by simp at hv; rcases hv with rfl | rfl | rfl | rfl | rfl <;> rfl) (by simp)
  exact hf
theorem wp_buildF5 {o : Oper} {a : Act} {w : World} {K : Act → World → Prop} {Q : Exit → Act → World → Prop} (x1 x2 x3 x4 x5 : Operand) (ho : o.op = .buildSlice 91 5 #[(0, x1), (1, x2), (2, x3), (3, x4), (4, x5)]) (f1 f2 f3 f4 f5 : Value) (e1 : a.eval x1 = f1) (e2 : a.eval x2 = f2) (e3 : a.eval x3 = f3) (e4 : a.eval x4 = f4) (e5 : a.eval x5 = f5)
    (h1 : isFn f1) (h2 : isFn f2) (h3 : isFn f3) (h4 : isFn f4) (h5 : isFn f5) (h : K (a.put o.dst (.slice (some ⟨w.heap.size, 0, none⟩) 5 5)) (w.alloc (.cells #[f1, f2, f3, f4, f5] 73))) : o.wp Tryd.prog a w K Q := by
  unfold Oper.wp execOp
  simp only [ho, List.map_toArray, List.map_cons, List.map_nil, e1, e2, e3, e4, e5, Sem.run_bind, run_buildF5 f1 f2 f3 f4 f5 h1 h2 h3 h4 h5, Result.andThen_ok]
  exact h
theorem Clo.fn {w : World} {B N v : Nat} {z : Int} {f : Value} (h : Clo w B N v z f) : isFn f := by
  obtain ⟨b1, b2, e, _⟩ := h
  exact ⟨_, _, _, e⟩
theorem CloP.fn {w : World} {B v q : Nat} {z : Int} {t : List UInt8} {f : Value} (h : CloP w B v z q t f) : isFn f := by
  obtain ⟨b1, b2, b3, A, n, c, e, _⟩ := h
  exact ⟨_, _, _, e⟩
set_option maxRecDepth 100000 in
theorem yields_add {ops : Array Oper} {S : World → Prop} {o : Oper} {a : Act} (hw : Region.wanted o (yielded ops a.tmps) = true) (x y : Operand) (ho : o.op = .binOp .add 3 x y 3) (p q r : Int)
    (hx : a.eval x = .int .i64 p) (hy : a.eval y = .int .i64 q) (hr : p + q = r) (h1 : -9223372036854775808 ≤ p + q) (h2 : p + q < 9223372036854775808) : YieldsIf Tryd.prog ops S o (.int .i64 r) a :=
  .inl ⟨hw, fun w _ => by
    subst hr
    have e : IntKind.i64.wrap (p + q) = p + q := by rw [IntKind.wrap_i64]; omega
    unfold execOp
    simp only [ho, hx, hy]
    go_simp⟩
theorem Ran.off {w1 w' : World} {v g : Nat} {F : Nat → Nat → Prop} {r : Tp × Int} {e : Ending} (h : Ran w1 v g F r e w') : Off (fun b => Foot g F b ∨ b = v) w1 w' := by
  by_cases hc : r.2 = 100
  · exact (h.2.2.2 hc).2
  · exact (h.2.2.1 hc).mono (fun _ q => .inl q)
/-- the five steps of Save are run -/
theorem runSave {S : Tp} (v g B q : Nat) (t : List UInt8) (f1 f2 f3 f4 f5 : Value) (cs : Array Value) (F : Nat → Nat → Prop) (w : World) (h1 : Clo w B 58 v (slotNo (q + 1) : Int) f1) (h2 : CloP w B v (slotNo (q + 1) : Int) (q + 1) t f2) (h3' : Clo w B 54 v (slotNo (q + 1) : Int) f3) (h4 : Clo w B 58 v 0 f4) (h5' : Clo w B 54 v 0 f5) (hV : okV (q + 1, t)) (hB : ∀ b, Foot g F b → b < B) (hBw : B ≤ w.heap.size) (h3 : Row w v 70 cs) (h5 : cs.size = 5) (h0 : cs[0]? = some (.pointer (some ⟨g, 0, none⟩))) (hv : ¬ Foot g F v) (hTb : Tab 2 w) (hF2 : ¬ Foot g F 2) (h : Tap w g F S) (hok : S.ok 0) :
    Calls Tryd.prog 32 #[.pointer (some ⟨v, 0, none⟩), .slice (some ⟨w.heap.size, 0, none⟩) 5 5] (w.alloc (.cells #[f1, f2, f3, f4, f5] 73)) (Ran (w.alloc (.cells #[f1, f2, f3, f4, f5] 73)) v g F (S.saveV q t)) := by
  have hb : Below w.heap.size w (w.alloc (.cells #[f1, f2, f3, f4, f5] 73)) := (Below.refl _ _).alloc (Nat.le_refl _) _
  have hN := Row.new w 73 #[f1, f2, f3, f4, f5]
  rw [← saveV_seq]
  refine runT_any v g w.heap.size 5 (fun k => if k = 0 then f1 else if k = 1 then f2 else if k = 2 then f3 else if k = 3 then f4 else f5) (saveL q t) F _ cs (by simp [saveL]) (h3.below hb h3.lt) h5 hv (h.below hb) hok hN.lt (fun q => by have := hB _ q; omega) (fun k hk => ?_) (fun k φ hk => ?_)
  · match k, hk with
    | 0, _ => exact hN.cell 0
    | 1, _ => exact hN.cell 1
    | 2, _ => exact hN.cell 2
    | 3, _ => exact hN.cell 3
    | 4, _ => exact hN.cell 4
  · match k, hk with
    | 0, hk => simp [saveL] at hk; subst hk; exact StepOf.empty (h1.below hb) hB (h3.below hb h3.lt) h0 hv
    | 1, hk => simp [saveL] at hk; subst hk; exact StepOf.put (h2.below hb) hV hB (h3.below hb h3.lt) h0 hv (hTb.below hb) hF2
    | 2, hk => simp [saveL] at hk; subst hk; exact StepOf.sync (h3'.below hb) hB (h3.below hb h3.lt) h0 hv
    | 3, hk => simp [saveL] at hk; subst hk; exact StepOf.empty (h4.below hb) hB (h3.below hb h3.lt) h0 hv
    | 4, hk => simp [saveL] at hk; subst hk; exact StepOf.sync (h5'.below hb) hB (h3.below hb h3.lt) h0 hv
/-- what a Save leaves -/
def SavedE (w : World) (v g : Nat) (H : Nat → Prop) (F : Nat → Nat → Prop) (V : Vs) (t : List UInt8) (r : Tp × Int) (e : Ending) (w' : World) : Prop :=
  e = .returned (.int .i64 r.2) ∧ Off (fun b => H b ∨ Foot g F b) w w' ∧ ∃ F', Within w F F' ∧ Tap w' g F' r.1 ∧
    ((r.2 = 0 ∧ ∃ H' : Nat → Prop, (∀ b, H' b → H b ∨ w.heap.size ≤ b) ∧ Vlt w' v g H' (V.save t) ∧ ∀ b, H' b → ¬ Foot g F' b) ∨ (r.2 = 100 ∧ Row w' v 70 vDown))
/-- the snapshot is written into the vault, and there are no records -/
theorem Vlt.saved {w w' : World} {v g q n c : Nat} {H : Nat → Prop} {V : Vs} {A : Option Addr} {t : List UInt8} (h : Vlt w v g H V) (ho : Own w 0 5 (.slice A n c) n t) (hn : ∀ b, (Value.slice A n c).ownBlock = some b → b ≠ v ∧ b < w.heap.size)
    (hr : w' = ((w.setCell ⟨v, 1, none⟩ (.int .i64 (q : Int))).setCell ⟨v, 2, none⟩ (.slice A n c)).setCell ⟨v, 3, none⟩ (.slice none 0 0)) : Vlt w' v g (fun b => H b ∨ (Value.slice A n c).ownBlock = some b) ⟨q, t, []⟩ := by
  subst hr
  obtain ⟨h1, h2, A', n', c', rv, hr, ho', hf, ht⟩ := h
  have hk : ∀ b, b ≠ v → (((w.setCell ⟨v, 1, none⟩ (.int .i64 (q : Int))).setCell ⟨v, 2, none⟩ (.slice A n c)).setCell ⟨v, 3, none⟩ (.slice none 0 0)).heap[b]? = w.heap[b]? := fun b hb => by
    rw [Below.heap_setCell _ ⟨v, 3, none⟩ _ b hb, Below.heap_setCell _ ⟨v, 2, none⟩ _ b hb, Below.heap_setCell _ ⟨v, 1, none⟩ _ b hb]
  refine ⟨.inl h1, fun b qb => ?_, A, n, c, .slice none 0 0, ((hr.set 1 _).set 2 _).set 3 _, ownsRow_keep ho fun b _ hb hb2 => (hk b (hn b hb).1).trans hb2, fun b hb => .inr hb, Texts.nil _ _⟩
  have hs : (((w.setCell ⟨v, 1, none⟩ (.int .i64 (q : Int))).setCell ⟨v, 2, none⟩ (.slice A n c)).setCell ⟨v, 3, none⟩ (.slice none 0 0)).heap.size = w.heap.size := by simp [World.setCell]
  rw [hs]
  rcases qb with qb | qb
  · exact h2 b qb
  · exact (hn b qb).2
set_option maxRecDepth 100000 in
set_option maxHeartbeats 8000000 in
theorem Save_any {S : Tp} (v g n c : Nat) (A : Option Addr) (t : List UInt8) (H : Nat → Prop) (V : Vs) (F : Nat → Nat → Prop) (w : World) (hV : Vlt w v g H V) (h : Tap w g F S) (hok : S.ok 0) (hsep : ∀ b, H b → ¬ Foot g F b) (hTb : Tab 2 w) (hF2 : ¬ Foot g F 2) (hB : Bs w A n t) (hn : n ≤ 262080) (hg : V.gen < 1099511627776)
    (hcase : (S.saveV V.gen t).2 = 0 ∨ (S.saveV V.gen t).2 = 100) :
    Calls Tryd.prog 22 #[.pointer (some ⟨v, 0, none⟩), .slice A n c] w (SavedE w v g H F V t (S.saveV V.gen t)) := by
  obtain ⟨H1, H2, A0, n0, c0, rv, hr, ho, hf, ht⟩ := id hV
  have hok2 : okV (V.gen + 1, t) := okV_of (V.gen + 1) t hg (by rw [hB.1]; exact hn)
  have HRf := Lib.hid (refuses_no v _ A n c w hr rfl hn)
  have HCl := Lib.hid (fun w hB => Clone_any A n c t w hB (by omega))
  have HB := Lib.hid (fun wq (hb : Below w.heap.size w wq) => hB.below hb)
  have HRow := Lib.hid hr
  have HV := Lib.hid hV
  have HSep := Lib.hid hsep
  have hFv : ¬ Foot g F v := hsep v H1
  have HT := Lib.hid h
  have HRun := Lib.hid (fun f1 f2 f3 f4 f5 wq (hb : Below w.heap.size w wq) (a1 : Clo wq w.heap.size 58 v (slotNo (V.gen + 1) : Int) f1) (a2 : CloP wq w.heap.size v (slotNo (V.gen + 1) : Int) (V.gen + 1) t f2) (a3 : Clo wq w.heap.size 54 v (slotNo (V.gen + 1) : Int) f3) (a4 : Clo wq w.heap.size 58 v 0 f4) (a5 : Clo wq w.heap.size 54 v 0 f5) => runSave (S := S) v g w.heap.size V.gen t f1 f2 f3 f4 f5 _ F wq a1 a2 a3 a4 a5 hok2 (fun b q => h.foot q) hb.size (hr.below hb hr.lt) rfl rfl hFv (hTb.below hb) hF2 (h.below hb) hok)
  have HH2 := Lib.hid H2
  have HTL := Lib.hid hB.1
  have hvl := hr.lt
  have HFv := Lib.hid hFv
  have k1 : Hid (∀ wq, Below w.heap.size w wq → Row wq v 70 #[.pointer (some ⟨g, 0, none⟩), .int .i64 (V.gen : Int), .slice A0 n0 c0, rv, .bool false]) := Lib.hid (fun wq hb => hr.below hb hr.lt)
  have c1 : w.cell? ⟨v, 1, none⟩ = some (.int .i64 (V.gen : Int)) := hr.cell 1
  have dg : ((V.gen : Int) == 1099511627776) = false := by simp; omega
  have HSl := Lib.hid (fun w => slotOf_any (V.gen + 1) w)
  have HPl := Lib.hid (show (V.gen : Int) + 1 = ((V.gen + 1 : Nat) : Int) by omega)
  have HG1 := Lib.hid (show (-9223372036854775808 : Int) ≤ (V.gen : Int) + 1 by omega)
  have HG2 := Lib.hid (show (V.gen : Int) + 1 < 9223372036854775808 by omega)
  generalize S.saveV V.gen t = r at *
  obtain ⟨m, hm⟩ : ∃ m, t.length = m := ⟨_, rfl⟩
  obtain rfl : m = n := by rw [← hm]; exact hB.1
  obtain ⟨G, hG⟩ : ∃ G, V.gen + 1 = G := ⟨_, rfl⟩
  have HGe := Lib.hid hG
  rw [hG] at HRun HSl HPl
  unfold S4NewSlice at HCl
  rw [hm] at HCl
  clear hV hr ho hf ht h hok hsep hTb hF2 hB hn hg hok2 H1 H2 hm hG hFv
  rcases hcase with hc | hc
  · skip
    go_enter Tryd.func22, Tryd.ntmps22
    go_wp2_with (go_at_call 37; refine HRf.out.mono ?_; rintro e1 w1 ⟨rfl, rfl⟩)
    have Z0 : Below w.heap.size w w.drew := (Below.refl w.heap.size w).drew
    refine wp_region_noPanic ?_
    refine wp_region_held_drew (S := fun w' => Row w' v 70 #[.pointer (some ⟨g, 0, none⟩), .int .i64 (V.gen : Int), .slice A0 n0 c0, rv, .bool false]) (by kernel_rfl) (k1.out _ Z0) (fun hHeld => ?_)
    refine takeD (i := 0) (some 21) (.pointer (some ⟨v, 0, none⟩)) rfl rfl (by kernel_rfl) (by kernel_rfl) (by kernel_rfl) (fun _ _ _ h => h) (Or.inl ⟨by rfl, fun _ _ => rfl⟩) hHeld ?_
    simp only [Act.put, List.setIfInBounds_toArray, List.set_cons_zero, List.set_cons_succ]
    refine takeD (i := 1) (some 22) (.pointer (some ⟨v, 0, none⟩)) rfl rfl (by kernel_rfl) (by kernel_rfl) (by kernel_rfl) (fun _ _ _ h => h) (yields_nil (by rfl) (.tmp 21) rfl _ rfl) hHeld ?_
    simp only [Act.put, List.setIfInBounds_toArray, List.set_cons_zero, List.set_cons_succ]
    refine takeD (i := 2) (some 23) (.pointer (some ⟨v, 1, none⟩)) rfl rfl (by kernel_rfl) (by kernel_rfl) (by kernel_rfl) (fun _ _ _ h => h) (yields_fldV (by rfl) 70 (.tmp 22) 1 rfl (d := 1) (by decide) (v) 0 _ rfl rfl) hHeld ?_
    simp only [Act.put, List.setIfInBounds_toArray, List.set_cons_zero, List.set_cons_succ]
    refine takeD (i := 3) (some 24) (.pointer (some ⟨v, 1, none⟩)) rfl rfl (by kernel_rfl) (by kernel_rfl) (by kernel_rfl) (fun _ _ _ h => h) (yields_fldV (by rfl) 68 (.tmp 23) 0 rfl (d := 0) (by decide) (v) 1 _ rfl rfl) hHeld ?_
    simp only [Act.put, List.setIfInBounds_toArray, List.set_cons_zero, List.set_cons_succ]
    refine takeD (i := 4) (some 25) (.int .i64 (V.gen : Int)) rfl rfl (by kernel_rfl) (by kernel_rfl) (by kernel_rfl) (fun _ _ _ h => h) (yieldsC (by rfl) 3 (.tmp 24) rfl (by decide) (v) (1) _ rfl (fun _ h => h.cell 1)) hHeld ?_
    simp only [Act.put, List.setIfInBounds_toArray, List.set_cons_zero, List.set_cons_succ]
    refine takeD (i := 5) (some 26) (.int .i64 (G : Int)) rfl rfl (by kernel_rfl) (by kernel_rfl) (by kernel_rfl) (fun _ _ _ h => h) (yields_add (by rfl) (.tmp 25) (.const (.int .i64 1)) rfl _ 1 _ rfl rfl HPl.out HG1.out HG2.out) hHeld ?_
    simp only [Act.put, List.setIfInBounds_toArray, List.set_cons_zero, List.set_cons_succ]
    refine takeD (i := 6) (some 27) (.slice A m c) rfl rfl (by kernel_rfl) (by kernel_rfl) (by kernel_rfl) (fun _ _ _ h => h) (Or.inl ⟨by rfl, fun _ _ => rfl⟩) hHeld ?_
    simp only [Act.put, List.setIfInBounds_toArray, List.set_cons_zero, List.set_cons_succ]
    refine wpAnyH_ready (rs := [7, 9]) (by kernel_rfl) (by decide) ?_
    refine AllReadyH.cons rfl (fun K' hK => ?_) (AllReadyH.cons rfl (fun K' hK => ?_) AllReadyH.nil)
    · skip
      go_simp
      refine (HCl.out w.drew (HB.out _ Z0)).mono ?_
      rintro e3 w3 ⟨A3, c3, rfl, hc3, hb3, ho3⟩
      have B3 : Below w.heap.size w w3 := Z0.trans (hb3.mono Z0.size)
      have HO3 := Lib.hid (show Own w3 w.heap.size 5 (.slice A3 m c3) m t from ho3.mono Z0.size)
      clear ho3 hc3 hb3
      refine hK.out _ _ (k1.out _ B3) (fun hHeld1 => ?_)
      clear hK
      refine takeD (i := 8) (some 29) (.agg #[.int .i64 (G : Int), .slice A3 m c3]) rfl rfl (by kernel_rfl) (by kernel_rfl) (by kernel_rfl) (fun _ _ _ h => h) (yields_build68 (by rfl) _ _ rfl _ _ _ _ rfl rfl) hHeld1 ?_
      simp only [Act.put, List.setIfInBounds_toArray, List.set_cons_zero, List.set_cons_succ]
      refine wpAnyH_ready (rs := [9]) (by kernel_rfl) (by decide) ?_
      refine AllReadyH.cons rfl (fun K' hK => ?_) AllReadyH.nil
      refine step_of rfl (wp_alloc68 rfl ?_)
      have HRn := Lib.hid (Row.new w3 68 #[.int .i64 0, .slice none 0 0])
      have H6 : Hid (w.heap.size ≤ w3.heap.size) := Lib.hid B3.size
      have B5 : Below w.heap.size w (w3.alloc (.cells #[.int .i64 0, .slice none 0 0] 68)) := B3.alloc B3.size _
      have HOn := Lib.hid (HO3.out.below ((Below.refl w3.heap.size w3).alloc (Nat.le_refl _) (.cells #[.int .i64 0, .slice none 0 0] 68)))
      obtain ⟨h6, hh6⟩ : ∃ h6, w3.heap.size = h6 := ⟨_, rfl⟩
      obtain ⟨w5, hw5⟩ : ∃ w5, w3.alloc (.cells #[.int .i64 0, .slice none 0 0] 68) = w5 := ⟨_, rfl⟩
      rw [hh6, hw5] at HRn
      rw [hw5] at B5
      rw [hh6] at H6
      rw [hw5] at HOn
      rw [hh6, hw5]
      clear hh6 hw5
      refine hK.out _ _ (k1.out _ B5) (fun hHeld2 => ?_)
      clear hK
      (try simp only [List.getElem_toArray, List.getElem_cons_succ, List.getElem_cons_zero, Act.put, List.setIfInBounds_toArray, List.set_cons_zero, List.set_cons_succ])
      refine wpAnyH_ready (rs := [10]) (by kernel_rfl) (by decide) ?_
      refine AllReadyH.cons rfl (fun K' hK => ?_) AllReadyH.nil
      refine step_store_row Tryd.agg68 rfl (.tmp 6) (.tmp 29) rfl h6 #[.int .i64 (G : Int), .slice A3 m c3] rfl rfl 68 #[.int .i64 0, .slice none 0 0] HRn.out (size2 _ _ _ _) (size2 _ _ _ _) (one2 _ _ _ _) ?_
      intro w7 hr7 ho7
      have HR7 := Lib.hid hr7
      have B7 : Below w.heap.size w w7 := B5.trans (ho7.below H6.out B5.size)
      have HO7 : Hid (Own w7 w.heap.size 5 (.slice A3 m c3) m t) := Lib.hid (Own.onlyA HOn.out ho7 (fun b hb => by have q1 := HRn.out; exact Own.row_ne HOn.out q1 b hb))
      clear hr7 ho7
      refine hK.out _ _ (k1.out _ B7) (fun hHeld3 => ?_)
      clear hK
      (try simp only [Act.put, List.setIfInBounds_toArray])
      refine wpAnyH_done (by kernel_rfl) ?_ _
      refine NoPanic.normal ?_
      have dr : (r.2 == 0) = true := by rw [hc]; rfl
      have q60 : w7.cell? ⟨h6, 0, none⟩ = some (.int .i64 (G : Int)) := HR7.out.cell 0
      have q61 : w7.cell? ⟨h6, 1, none⟩ = some (.slice A3 m c3) := HR7.out.cell 1
      go_wp2_with (go_at_call 40; refine (HSl.out w7).mono ?_; rintro e8 w8 ⟨rfl, rfl⟩)
      have hh6 := H6.out
      have Z7 : Below w7.heap.size w7 w7.drew := (Below.refl w7.heap.size w7).drew
      have KP : Hid (∀ wq, Below w7.heap.size w7 wq → Row wq h6 68 #[.int .i64 (G : Int), .slice A3 m c3]) := Lib.hid (fun wq hb => HR7.out.below hb HR7.out.lt)
      refine wp_region_noPanic ?_
      refine wp_region_held_drew (S := fun w' => Row w' h6 68 #[.int .i64 (G : Int), .slice A3 m c3]) (by kernel_rfl) (KP.out _ Z7) (fun hHeld => ?_)
      refine takeD (i := 0) (some 33) (.pointer (some ⟨v, 0, none⟩)) rfl rfl (by kernel_rfl) (by kernel_rfl) (by kernel_rfl) (fun _ _ _ h => h) (Or.inl ⟨by rfl, fun _ _ => rfl⟩) hHeld ?_
      simp only [Act.put, List.setIfInBounds_toArray, List.set_cons_zero, List.set_cons_succ]
      refine takeD (i := 1) (some 34) (.pointer (some ⟨v, 0, none⟩)) rfl rfl (by kernel_rfl) (by kernel_rfl) (by kernel_rfl) (fun _ _ _ h => h) (Or.inl ⟨by rfl, fun _ _ => rfl⟩) hHeld ?_
      simp only [Act.put, List.setIfInBounds_toArray, List.set_cons_zero, List.set_cons_succ]
      refine takeD (i := 2) (some 35) (.int .i64 (slotNo G : Int)) rfl rfl (by kernel_rfl) (by kernel_rfl) (by kernel_rfl) (fun _ _ _ h => h) (Or.inl ⟨by rfl, fun _ _ => rfl⟩) hHeld ?_
      simp only [Act.put, List.setIfInBounds_toArray, List.set_cons_zero, List.set_cons_succ]
      refine takeD (i := 4) (some 37) (.pointer (some ⟨v, 0, none⟩)) rfl rfl (by kernel_rfl) (by kernel_rfl) (by kernel_rfl) (fun _ _ _ h => h) (Or.inl ⟨by rfl, fun _ _ => rfl⟩) hHeld ?_
      simp only [Act.put, List.setIfInBounds_toArray, List.set_cons_zero, List.set_cons_succ]
      refine takeD (i := 5) (some 38) (.int .i64 (slotNo G : Int)) rfl rfl (by kernel_rfl) (by kernel_rfl) (by kernel_rfl) (fun _ _ _ h => h) (Or.inl ⟨by rfl, fun _ _ => rfl⟩) hHeld ?_
      simp only [Act.put, List.setIfInBounds_toArray, List.set_cons_zero, List.set_cons_succ]
      refine takeD (i := 6) (some 39) (.agg #[.int .i64 (G : Int), .slice A3 m c3]) rfl rfl (by kernel_rfl) (by kernel_rfl) (by kernel_rfl) (fun _ _ _ h => h) (yields_load68 (by rfl) (.tmp 6) rfl (h6) (0) _ _ rfl (fun _ h => h.range2)) hHeld ?_
      simp only [Act.put, List.setIfInBounds_toArray, List.set_cons_zero, List.set_cons_succ]
      refine takeD (i := 8) (some 41) (.pointer (some ⟨v, 0, none⟩)) rfl rfl (by kernel_rfl) (by kernel_rfl) (by kernel_rfl) (fun _ _ _ h => h) (Or.inl ⟨by rfl, fun _ _ => rfl⟩) hHeld ?_
      simp only [Act.put, List.setIfInBounds_toArray, List.set_cons_zero, List.set_cons_succ]
      refine takeD (i := 9) (some 42) (.int .i64 (slotNo G : Int)) rfl rfl (by kernel_rfl) (by kernel_rfl) (by kernel_rfl) (fun _ _ _ h => h) (Or.inl ⟨by rfl, fun _ _ => rfl⟩) hHeld ?_
      simp only [Act.put, List.setIfInBounds_toArray, List.set_cons_zero, List.set_cons_succ]
      refine takeD (i := 11) (some 44) (.pointer (some ⟨v, 0, none⟩)) rfl rfl (by kernel_rfl) (by kernel_rfl) (by kernel_rfl) (fun _ _ _ h => h) (Or.inl ⟨by rfl, fun _ _ => rfl⟩) hHeld ?_
      simp only [Act.put, List.setIfInBounds_toArray, List.set_cons_zero, List.set_cons_succ]
      refine takeD (i := 13) (some 46) (.pointer (some ⟨v, 0, none⟩)) rfl rfl (by kernel_rfl) (by kernel_rfl) (by kernel_rfl) (fun _ _ _ h => h) (Or.inl ⟨by rfl, fun _ _ => rfl⟩) hHeld ?_
      simp only [Act.put, List.setIfInBounds_toArray, List.set_cons_zero, List.set_cons_succ]
      refine wpAnyH_ready (rs := [3]) (by kernel_rfl) (by decide) ?_
      refine AllReadyH.cons rfl (fun K' hK => ?_) AllReadyH.nil
      go_simp
      refine (empty_any v (slotNo G : Int) w7.drew).mono ?_
      rintro ef1 u1 ⟨f1, rfl, hff1, hbf1⟩
      have C1 : Below w7.heap.size w7 u1 := Z7.trans (hbf1.mono Z7.size)
      have HFf1C1 := Lib.hid (hff1.mono (Nat.le_trans B7.size Z7.size))
      clear hff1 hbf1
      refine hK.out _ _ (KP.out _ C1) (fun hHeld1 => ?_)
      clear hK
      refine wpAnyH_ready (rs := [7]) (by kernel_rfl) (by decide) ?_
      refine AllReadyH.cons rfl (fun K' hK => ?_) AllReadyH.nil
      go_simp
      refine (put_any v G w.heap.size m c3 (slotNo G : Int) A3 t u1 (HO7.out.below C1) (Nat.le_trans B7.size C1.size)).mono ?_
      rintro ef2 u2 ⟨f2, rfl, hff2, hbf2⟩
      have C2 : Below w7.heap.size w7 u2 := C1.trans (hbf2.mono C1.size)
      have HFf1C2 := Lib.hid (HFf1C1.out.below hbf2)
      have HFf2C2 := Lib.hid (hff2)
      clear hff2 hbf2
      refine hK.out _ _ (KP.out _ C2) (fun hHeld2 => ?_)
      clear hK
      refine wpAnyH_ready (rs := [10]) (by kernel_rfl) (by decide) ?_
      refine AllReadyH.cons rfl (fun K' hK => ?_) AllReadyH.nil
      go_simp
      refine (sync_any v (slotNo G : Int) u2).mono ?_
      rintro ef3 u3 ⟨f3, rfl, hff3, hbf3⟩
      have C3 : Below w7.heap.size w7 u3 := C2.trans (hbf3.mono C2.size)
      have HFf1C3 := Lib.hid (HFf1C2.out.below hbf3)
      have HFf2C3 := Lib.hid (HFf2C2.out.below hbf3)
      have HFf3C3 := Lib.hid (hff3.mono (Nat.le_trans B7.size C2.size))
      clear hff3 hbf3
      refine hK.out _ _ (KP.out _ C3) (fun hHeld3 => ?_)
      clear hK
      refine wpAnyH_ready (rs := [12]) (by kernel_rfl) (by decide) ?_
      refine AllReadyH.cons rfl (fun K' hK => ?_) AllReadyH.nil
      go_simp
      refine (empty_any v 0 u3).mono ?_
      rintro ef4 u4 ⟨f4, rfl, hff4, hbf4⟩
      have C4 : Below w7.heap.size w7 u4 := C3.trans (hbf4.mono C3.size)
      have HFf1C4 := Lib.hid (HFf1C3.out.below hbf4)
      have HFf2C4 := Lib.hid (HFf2C3.out.below hbf4)
      have HFf3C4 := Lib.hid (HFf3C3.out.below hbf4)
      have HFf4C4 := Lib.hid (hff4.mono (Nat.le_trans B7.size C3.size))
      clear hff4 hbf4
      refine hK.out _ _ (KP.out _ C4) (fun hHeld4 => ?_)
      clear hK
      refine wpAnyH_ready (rs := [14]) (by kernel_rfl) (by decide) ?_
      refine AllReadyH.cons rfl (fun K' hK => ?_) AllReadyH.nil
      go_simp
      refine (sync_any v 0 u4).mono ?_
      rintro ef5 u5 ⟨f5, rfl, hff5, hbf5⟩
      have C5 : Below w7.heap.size w7 u5 := C4.trans (hbf5.mono C4.size)
      have HFf1C5 := Lib.hid (HFf1C4.out.below hbf5)
      have HFf2C5 := Lib.hid (HFf2C4.out.below hbf5)
      have HFf3C5 := Lib.hid (HFf3C4.out.below hbf5)
      have HFf4C5 := Lib.hid (HFf4C4.out.below hbf5)
      have HFf5C5 := Lib.hid (hff5.mono (Nat.le_trans B7.size C4.size))
      clear hff5 hbf5
      refine hK.out _ _ (KP.out _ C5) (fun hHeld5 => ?_)
      clear hK
      refine wpAnyH_ready (rs := [15]) (by kernel_rfl) (by decide) ?_
      refine AllReadyH.cons rfl (fun K' hK => ?_) AllReadyH.nil
      refine step_of rfl (wp_buildF5 (.tmp 36) (.tmp 40) (.tmp 43) (.tmp 45) (.tmp 47) rfl f1 f2 f3 f4 f5 rfl rfl rfl rfl rfl HFf1C5.out.fn HFf2C5.out.fn HFf3C5.out.fn HFf4C5.out.fn HFf5C5.out.fn ?_)
      have C6 : Below w7.heap.size w7 (u5.alloc (.cells #[f1, f2, f3, f4, f5] 73)) := C5.alloc C5.size _
      refine hK.out _ _ (KP.out _ C6) (fun hHeld6 => ?_)
      clear hK
      (try simp only [List.getElem_toArray, List.getElem_cons_succ, List.getElem_cons_zero, Act.put, List.setIfInBounds_toArray, List.set_cons_zero, List.set_cons_succ])
      refine wpAnyH_ready (rs := [16]) (by kernel_rfl) (by decide) ?_
      refine AllReadyH.cons rfl (fun K' hK => ?_) AllReadyH.nil
      go_simp
      refine (HRun.out f1 f2 f3 f4 f5 u5 (B7.trans (C5.mono B7.size)) HFf1C5.out HFf2C5.out HFf3C5.out HFf4C5.out HFf5C5.out).mono ?_
      rintro e10 w10 hran
      have HOA := Lib.hid hran.off
      obtain ⟨rfl, hw10, hoff10, hdn10⟩ := hran
      have HW10 := Lib.hid hw10
      have HO10 := Lib.hid hoff10
      have HD10 := Lib.hid hdn10
      have KZ10 := Lib.hid (show Row w10 h6 68 #[.int .i64 (G : Int), .slice A3 m c3] from (KP.out _ C6).off HOA.out (fun q => by rcases q with q | q; have := HT.out.foot q; omega; omega))
      clear hw10 hoff10 hdn10
      refine hK.out _ _ KZ10.out (fun hHeld7 => ?_)
      clear hK
      refine takeD (i := 17) (some 8) (.int .i64 r.2) rfl rfl (by kernel_rfl) (by kernel_rfl) (by kernel_rfl) (fun _ _ _ h => h) (Or.inl ⟨by rfl, fun _ _ => rfl⟩) hHeld7 ?_
      simp only [Act.put, List.setIfInBounds_toArray, List.set_cons_zero, List.set_cons_succ]
      (try simp only [Act.put, List.setIfInBounds_toArray])
      refine wpAnyH_done (by kernel_rfl) ?_ _
      refine NoPanic.normal ?_
      have B1 : Below w.heap.size w (u5.alloc (.cells #[f1, f2, f3, f4, f5] 73)) := B7.trans (C6.mono B7.size)
      have hO := HO10.out (by rw [hc]; omega)
      have BB : Off (Foot g F) w w10 := (Off.of_below B1).trans hO (fun x q => .inl q)
      have hfr : ∀ b, w.heap.size ≤ b → ¬ Foot g F b := fun b q q2 => by have := HT.out.foot q2; omega
      have hb1 : Below w7.heap.size w7 (u5.alloc (.cells #[f1, f2, f3, f4, f5] 73)) := C6
      have HOz : Hid (Own w10 w.heap.size 5 (.slice A3 m c3) m t) := Lib.hid (ownsRow_keep (HO7.out.below hb1) (fun b cs hb hb2 => (hO.block b (Array.getElem?_eq_some_iff.1 hb2).1 (hfr b (HO7.out.lt b hb).1)).trans hb2))
      have hlt7 : ∀ b, (Value.slice A3 m c3).ownBlock = some b → w.heap.size ≤ b ∧ b < w7.heap.size := fun b q => HO7.out.lt b q
      have hs10 : w7.heap.size ≤ w10.heap.size := Nat.le_trans hb1.size hO.size
      have hVw := HV.out.off BB HSep.out
      have hT3 := hVw.saved (q := G) (t := t) (A := A3) (n := m) (c := c3) (w' := _) (HOz.out.mono (Nat.zero_le _)) (fun b hb => by have := hlt7 b hb; exact ⟨by omega, by omega⟩) rfl
      have HT3 := Lib.hid hT3
      obtain ⟨G1, G2, A1, n1, c1', rv1, hrv, hov, hfv, htv⟩ := hVw
      have x1 : w10.cell? ⟨v, 1, none⟩ = some (.int .i64 (V.gen : Int)) := hrv.cell 1
      have x2 : w10.cell? ⟨v, 2, none⟩ = some (.slice A1 n1 c1') := hrv.cell 2
      have x3 : w10.cell? ⟨v, 3, none⟩ = some rv1 := hrv.cell 3
      have y1 := hrv.frozen 1
      have y2 := hrv.frozen 2
      have y3 := hrv.frozen 3
      have x4 : w10.cell? ⟨h6, 0, none⟩ = some (.int .i64 (G : Int)) := KZ10.out.cell 0
      have x5 : w10.cell? ⟨h6, 1, none⟩ = some (.slice A3 m c3) := KZ10.out.cell 1
      have HBB := Lib.hid BB
      have Hl7 := Lib.hid hlt7
      clear hrv hov hfv htv G1 G2 BB hO hfr hlt7 hT3
      go_wp2_with fail
      go_ret
      obtain ⟨F', hw', hT'⟩ := HW10.out
      have hoff3 : Off (· = v) w10 (((w10.setCell ⟨v, 1, none⟩ (.int .i64 (G : Int))).setCell ⟨v, 2, none⟩ (.slice A3 m c3)).setCell ⟨v, 3, none⟩ (.slice none 0 0)) := ((Off.setCell (F := fun x => x = v) _ v 1 _ rfl).trans (Off.setCell (F := fun x => x = v) _ v 2 _ rfl) (fun x h => .inl h)).trans (Off.setCell (F := fun x => x = v) _ v 3 _ rfl) (fun x h => .inl h)
      have hsep' : ∀ b, (H b ∨ (Value.slice A3 m c3).ownBlock = some b) → ¬ Foot g F' b := fun b q q2 => by
        rcases Foot.within hw' q2 with q2 | q2
        · rcases q with q | q
          · exact HSep.out b q q2
          · have := HT.out.foot q2; have := (Hl7.out b q).1; omega
        · rcases q with q | q
          · have := HH2.out b q; have := B1.size; omega
          · have := (Hl7.out b q).2; have := C6.size; omega
      refine ⟨by rw [hc]; rfl, (HBB.out.mono (fun _ q => Or.inr q)).trans hoff3 (fun x q => .inl (.inl (by subst q; exact HV.out.1))), F', hw'.first B1.size, hT'.outside hoff3 (fun b q q2 => by subst q2; exact hsep' b (.inl HV.out.1) q), .inl ⟨hc, _, fun b q => ?_, by rw [show V.save t = ⟨G, t, []⟩ by unfold Vs.save; rw [HGe.out]]; exact HT3.out, hsep'⟩⟩
      rcases q with q | q
      · exact .inl q
      · exact .inr (Hl7.out b q).1
    · skip
      refine step_of rfl (wp_alloc68 rfl ?_)
      have HRn := Lib.hid (Row.new w.drew 68 #[.int .i64 0, .slice none 0 0])
      have H6 : Hid (w.heap.size ≤ w.drew.heap.size) := Lib.hid Z0.size
      have B5 : Below w.heap.size w (w.drew.alloc (.cells #[.int .i64 0, .slice none 0 0] 68)) := Z0.alloc Z0.size _
      obtain ⟨h6, hh6⟩ : ∃ h6, w.drew.heap.size = h6 := ⟨_, rfl⟩
      obtain ⟨w5, hw5⟩ : ∃ w5, w.drew.alloc (.cells #[.int .i64 0, .slice none 0 0] 68) = w5 := ⟨_, rfl⟩
      rw [hh6, hw5] at HRn
      rw [hw5] at B5
      rw [hh6] at H6
      rw [hh6, hw5]
      clear hh6 hw5
      refine hK.out _ _ (k1.out _ B5) (fun hHeld1 => ?_)
      clear hK
      (try simp only [List.getElem_toArray, List.getElem_cons_succ, List.getElem_cons_zero, Act.put, List.setIfInBounds_toArray, List.set_cons_zero, List.set_cons_succ])
      refine wpAnyH_ready (rs := [7]) (by kernel_rfl) (by decide) ?_
      refine AllReadyH.cons rfl (fun K' hK => ?_) AllReadyH.nil
      go_simp
      refine (HCl.out w5 (HB.out _ B5)).mono ?_
      rintro e3 w3 ⟨A3, c3, rfl, hc3, hb3, ho3⟩
      have B3 : Below w.heap.size w w3 := B5.trans (hb3.mono B5.size)
      have HO3 := Lib.hid (show Own w3 w.heap.size 5 (.slice A3 m c3) m t from ho3.mono B5.size)
      have HRa := Lib.hid (HRn.out.below hb3 HRn.out.lt)
      clear ho3 hc3 hb3
      refine hK.out _ _ (k1.out _ B3) (fun hHeld2 => ?_)
      clear hK
      refine takeD (i := 8) (some 29) (.agg #[.int .i64 (G : Int), .slice A3 m c3]) rfl rfl (by kernel_rfl) (by kernel_rfl) (by kernel_rfl) (fun _ _ _ h => h) (yields_build68 (by rfl) _ _ rfl _ _ _ _ rfl rfl) hHeld2 ?_
      simp only [Act.put, List.setIfInBounds_toArray, List.set_cons_zero, List.set_cons_succ]
      refine wpAnyH_ready (rs := [10]) (by kernel_rfl) (by decide) ?_
      refine AllReadyH.cons rfl (fun K' hK => ?_) AllReadyH.nil
      refine step_store_row Tryd.agg68 rfl (.tmp 6) (.tmp 29) rfl h6 #[.int .i64 (G : Int), .slice A3 m c3] rfl rfl 68 #[.int .i64 0, .slice none 0 0] HRa.out (size2 _ _ _ _) (size2 _ _ _ _) (one2 _ _ _ _) ?_
      intro w7 hr7 ho7
      have HR7 := Lib.hid hr7
      have B7 : Below w.heap.size w w7 := B3.trans (ho7.below H6.out B3.size)
      have HO7 : Hid (Own w7 w.heap.size 5 (.slice A3 m c3) m t) := Lib.hid (Own.onlyA HO3.out ho7 (fun b hb => by have q1 := HRa.out; exact Own.row_ne HO3.out q1 b hb))
      clear hr7 ho7
      refine hK.out _ _ (k1.out _ B7) (fun hHeld3 => ?_)
      clear hK
      (try simp only [Act.put, List.setIfInBounds_toArray])
      refine wpAnyH_done (by kernel_rfl) ?_ _
      refine NoPanic.normal ?_
      have dr : (r.2 == 0) = true := by rw [hc]; rfl
      have q60 : w7.cell? ⟨h6, 0, none⟩ = some (.int .i64 (G : Int)) := HR7.out.cell 0
      have q61 : w7.cell? ⟨h6, 1, none⟩ = some (.slice A3 m c3) := HR7.out.cell 1
      go_wp2_with (go_at_call 40; refine (HSl.out w7).mono ?_; rintro e8 w8 ⟨rfl, rfl⟩)
      have hh6 := H6.out
      have Z7 : Below w7.heap.size w7 w7.drew := (Below.refl w7.heap.size w7).drew
      have KP : Hid (∀ wq, Below w7.heap.size w7 wq → Row wq h6 68 #[.int .i64 (G : Int), .slice A3 m c3]) := Lib.hid (fun wq hb => HR7.out.below hb HR7.out.lt)
      refine wp_region_noPanic ?_
      refine wp_region_held_drew (S := fun w' => Row w' h6 68 #[.int .i64 (G : Int), .slice A3 m c3]) (by kernel_rfl) (KP.out _ Z7) (fun hHeld => ?_)
      refine takeD (i := 0) (some 33) (.pointer (some ⟨v, 0, none⟩)) rfl rfl (by kernel_rfl) (by kernel_rfl) (by kernel_rfl) (fun _ _ _ h => h) (Or.inl ⟨by rfl, fun _ _ => rfl⟩) hHeld ?_
      simp only [Act.put, List.setIfInBounds_toArray, List.set_cons_zero, List.set_cons_succ]
      refine takeD (i := 1) (some 34) (.pointer (some ⟨v, 0, none⟩)) rfl rfl (by kernel_rfl) (by kernel_rfl) (by kernel_rfl) (fun _ _ _ h => h) (Or.inl ⟨by rfl, fun _ _ => rfl⟩) hHeld ?_
      simp only [Act.put, List.setIfInBounds_toArray, List.set_cons_zero, List.set_cons_succ]
      refine takeD (i := 2) (some 35) (.int .i64 (slotNo G : Int)) rfl rfl (by kernel_rfl) (by kernel_rfl) (by kernel_rfl) (fun _ _ _ h => h) (Or.inl ⟨by rfl, fun _ _ => rfl⟩) hHeld ?_
      simp only [Act.put, List.setIfInBounds_toArray, List.set_cons_zero, List.set_cons_succ]
      refine takeD (i := 4) (some 37) (.pointer (some ⟨v, 0, none⟩)) rfl rfl (by kernel_rfl) (by kernel_rfl) (by kernel_rfl) (fun _ _ _ h => h) (Or.inl ⟨by rfl, fun _ _ => rfl⟩) hHeld ?_
      simp only [Act.put, List.setIfInBounds_toArray, List.set_cons_zero, List.set_cons_succ]
      refine takeD (i := 5) (some 38) (.int .i64 (slotNo G : Int)) rfl rfl (by kernel_rfl) (by kernel_rfl) (by kernel_rfl) (fun _ _ _ h => h) (Or.inl ⟨by rfl, fun _ _ => rfl⟩) hHeld ?_
      simp only [Act.put, List.setIfInBounds_toArray, List.set_cons_zero, List.set_cons_succ]
      refine takeD (i := 6) (some 39) (.agg #[.int .i64 (G : Int), .slice A3 m c3]) rfl rfl (by kernel_rfl) (by kernel_rfl) (by kernel_rfl) (fun _ _ _ h => h) (yields_load68 (by rfl) (.tmp 6) rfl (h6) (0) _ _ rfl (fun _ h => h.range2)) hHeld ?_
      simp only [Act.put, List.setIfInBounds_toArray, List.set_cons_zero, List.set_cons_succ]
      refine takeD (i := 8) (some 41) (.pointer (some ⟨v, 0, none⟩)) rfl rfl (by kernel_rfl) (by kernel_rfl) (by kernel_rfl) (fun _ _ _ h => h) (Or.inl ⟨by rfl, fun _ _ => rfl⟩) hHeld ?_
      simp only [Act.put, List.setIfInBounds_toArray, List.set_cons_zero, List.set_cons_succ]
      refine takeD (i := 9) (some 42) (.int .i64 (slotNo G : Int)) rfl rfl (by kernel_rfl) (by kernel_rfl) (by kernel_rfl) (fun _ _ _ h => h) (Or.inl ⟨by rfl, fun _ _ => rfl⟩) hHeld ?_
      simp only [Act.put, List.setIfInBounds_toArray, List.set_cons_zero, List.set_cons_succ]
      refine takeD (i := 11) (some 44) (.pointer (some ⟨v, 0, none⟩)) rfl rfl (by kernel_rfl) (by kernel_rfl) (by kernel_rfl) (fun _ _ _ h => h) (Or.inl ⟨by rfl, fun _ _ => rfl⟩) hHeld ?_
      simp only [Act.put, List.setIfInBounds_toArray, List.set_cons_zero, List.set_cons_succ]
      refine takeD (i := 13) (some 46) (.pointer (some ⟨v, 0, none⟩)) rfl rfl (by kernel_rfl) (by kernel_rfl) (by kernel_rfl) (fun _ _ _ h => h) (Or.inl ⟨by rfl, fun _ _ => rfl⟩) hHeld ?_
      simp only [Act.put, List.setIfInBounds_toArray, List.set_cons_zero, List.set_cons_succ]
      refine wpAnyH_ready (rs := [3]) (by kernel_rfl) (by decide) ?_
      refine AllReadyH.cons rfl (fun K' hK => ?_) AllReadyH.nil
      go_simp
      refine (empty_any v (slotNo G : Int) w7.drew).mono ?_
      rintro ef1 u1 ⟨f1, rfl, hff1, hbf1⟩
      have C1 : Below w7.heap.size w7 u1 := Z7.trans (hbf1.mono Z7.size)
      have HFf1C1 := Lib.hid (hff1.mono (Nat.le_trans B7.size Z7.size))
      clear hff1 hbf1
      refine hK.out _ _ (KP.out _ C1) (fun hHeld1 => ?_)
      clear hK
      refine wpAnyH_ready (rs := [7]) (by kernel_rfl) (by decide) ?_
      refine AllReadyH.cons rfl (fun K' hK => ?_) AllReadyH.nil
      go_simp
      refine (put_any v G w.heap.size m c3 (slotNo G : Int) A3 t u1 (HO7.out.below C1) (Nat.le_trans B7.size C1.size)).mono ?_
      rintro ef2 u2 ⟨f2, rfl, hff2, hbf2⟩
      have C2 : Below w7.heap.size w7 u2 := C1.trans (hbf2.mono C1.size)
      have HFf1C2 := Lib.hid (HFf1C1.out.below hbf2)
      have HFf2C2 := Lib.hid (hff2)
      clear hff2 hbf2
      refine hK.out _ _ (KP.out _ C2) (fun hHeld2 => ?_)
      clear hK
      refine wpAnyH_ready (rs := [10]) (by kernel_rfl) (by decide) ?_
      refine AllReadyH.cons rfl (fun K' hK => ?_) AllReadyH.nil
      go_simp
      refine (sync_any v (slotNo G : Int) u2).mono ?_
      rintro ef3 u3 ⟨f3, rfl, hff3, hbf3⟩
      have C3 : Below w7.heap.size w7 u3 := C2.trans (hbf3.mono C2.size)
      have HFf1C3 := Lib.hid (HFf1C2.out.below hbf3)
      have HFf2C3 := Lib.hid (HFf2C2.out.below hbf3)
      have HFf3C3 := Lib.hid (hff3.mono (Nat.le_trans B7.size C2.size))
      clear hff3 hbf3
      refine hK.out _ _ (KP.out _ C3) (fun hHeld3 => ?_)
      clear hK
      refine wpAnyH_ready (rs := [12]) (by kernel_rfl) (by decide) ?_
      refine AllReadyH.cons rfl (fun K' hK => ?_) AllReadyH.nil
      go_simp
      refine (empty_any v 0 u3).mono ?_
      rintro ef4 u4 ⟨f4, rfl, hff4, hbf4⟩
      have C4 : Below w7.heap.size w7 u4 := C3.trans (hbf4.mono C3.size)
      have HFf1C4 := Lib.hid (HFf1C3.out.below hbf4)
      have HFf2C4 := Lib.hid (HFf2C3.out.below hbf4)
      have HFf3C4 := Lib.hid (HFf3C3.out.below hbf4)
      have HFf4C4 := Lib.hid (hff4.mono (Nat.le_trans B7.size C3.size))
      clear hff4 hbf4
      refine hK.out _ _ (KP.out _ C4) (fun hHeld4 => ?_)
      clear hK
      refine wpAnyH_ready (rs := [14]) (by kernel_rfl) (by decide) ?_
      refine AllReadyH.cons rfl (fun K' hK => ?_) AllReadyH.nil
      go_simp
      refine (sync_any v 0 u4).mono ?_
      rintro ef5 u5 ⟨f5, rfl, hff5, hbf5⟩
      have C5 : Below w7.heap.size w7 u5 := C4.trans (hbf5.mono C4.size)
      have HFf1C5 := Lib.hid (HFf1C4.out.below hbf5)
      have HFf2C5 := Lib.hid (HFf2C4.out.below hbf5)
      have HFf3C5 := Lib.hid (HFf3C4.out.below hbf5)
      have HFf4C5 := Lib.hid (HFf4C4.out.below hbf5)
      have HFf5C5 := Lib.hid (hff5.mono (Nat.le_trans B7.size C4.size))
      clear hff5 hbf5
      refine hK.out _ _ (KP.out _ C5) (fun hHeld5 => ?_)
      clear hK
      refine wpAnyH_ready (rs := [15]) (by kernel_rfl) (by decide) ?_
      refine AllReadyH.cons rfl (fun K' hK => ?_) AllReadyH.nil
      refine step_of rfl (wp_buildF5 (.tmp 36) (.tmp 40) (.tmp 43) (.tmp 45) (.tmp 47) rfl f1 f2 f3 f4 f5 rfl rfl rfl rfl rfl HFf1C5.out.fn HFf2C5.out.fn HFf3C5.out.fn HFf4C5.out.fn HFf5C5.out.fn ?_)
      have C6 : Below w7.heap.size w7 (u5.alloc (.cells #[f1, f2, f3, f4, f5] 73)) := C5.alloc C5.size _
      refine hK.out _ _ (KP.out _ C6) (fun hHeld6 => ?_)
      clear hK
      (try simp only [List.getElem_toArray, List.getElem_cons_succ, List.getElem_cons_zero, Act.put, List.setIfInBounds_toArray, List.set_cons_zero, List.set_cons_succ])
      refine wpAnyH_ready (rs := [16]) (by kernel_rfl) (by decide) ?_
      refine AllReadyH.cons rfl (fun K' hK => ?_) AllReadyH.nil
      go_simp
      refine (HRun.out f1 f2 f3 f4 f5 u5 (B7.trans (C5.mono B7.size)) HFf1C5.out HFf2C5.out HFf3C5.out HFf4C5.out HFf5C5.out).mono ?_
      rintro e10 w10 hran
      have HOA := Lib.hid hran.off
      obtain ⟨rfl, hw10, hoff10, hdn10⟩ := hran
      have HW10 := Lib.hid hw10
      have HO10 := Lib.hid hoff10
      have HD10 := Lib.hid hdn10
      have KZ10 := Lib.hid (show Row w10 h6 68 #[.int .i64 (G : Int), .slice A3 m c3] from (KP.out _ C6).off HOA.out (fun q => by rcases q with q | q; have := HT.out.foot q; omega; omega))
      clear hw10 hoff10 hdn10
      refine hK.out _ _ KZ10.out (fun hHeld7 => ?_)
      clear hK
      refine takeD (i := 17) (some 8) (.int .i64 r.2) rfl rfl (by kernel_rfl) (by kernel_rfl) (by kernel_rfl) (fun _ _ _ h => h) (Or.inl ⟨by rfl, fun _ _ => rfl⟩) hHeld7 ?_
      simp only [Act.put, List.setIfInBounds_toArray, List.set_cons_zero, List.set_cons_succ]
      (try simp only [Act.put, List.setIfInBounds_toArray])
      refine wpAnyH_done (by kernel_rfl) ?_ _
      refine NoPanic.normal ?_
      have B1 : Below w.heap.size w (u5.alloc (.cells #[f1, f2, f3, f4, f5] 73)) := B7.trans (C6.mono B7.size)
      have hO := HO10.out (by rw [hc]; omega)
      have BB : Off (Foot g F) w w10 := (Off.of_below B1).trans hO (fun x q => .inl q)
      have hfr : ∀ b, w.heap.size ≤ b → ¬ Foot g F b := fun b q q2 => by have := HT.out.foot q2; omega
      have hb1 : Below w7.heap.size w7 (u5.alloc (.cells #[f1, f2, f3, f4, f5] 73)) := C6
      have HOz : Hid (Own w10 w.heap.size 5 (.slice A3 m c3) m t) := Lib.hid (ownsRow_keep (HO7.out.below hb1) (fun b cs hb hb2 => (hO.block b (Array.getElem?_eq_some_iff.1 hb2).1 (hfr b (HO7.out.lt b hb).1)).trans hb2))
      have hlt7 : ∀ b, (Value.slice A3 m c3).ownBlock = some b → w.heap.size ≤ b ∧ b < w7.heap.size := fun b q => HO7.out.lt b q
      have hs10 : w7.heap.size ≤ w10.heap.size := Nat.le_trans hb1.size hO.size
      have hVw := HV.out.off BB HSep.out
      have hT3 := hVw.saved (q := G) (t := t) (A := A3) (n := m) (c := c3) (w' := _) (HOz.out.mono (Nat.zero_le _)) (fun b hb => by have := hlt7 b hb; exact ⟨by omega, by omega⟩) rfl
      have HT3 := Lib.hid hT3
      obtain ⟨G1, G2, A1, n1, c1', rv1, hrv, hov, hfv, htv⟩ := hVw
      have x1 : w10.cell? ⟨v, 1, none⟩ = some (.int .i64 (V.gen : Int)) := hrv.cell 1
      have x2 : w10.cell? ⟨v, 2, none⟩ = some (.slice A1 n1 c1') := hrv.cell 2
      have x3 : w10.cell? ⟨v, 3, none⟩ = some rv1 := hrv.cell 3
      have y1 := hrv.frozen 1
      have y2 := hrv.frozen 2
      have y3 := hrv.frozen 3
      have x4 : w10.cell? ⟨h6, 0, none⟩ = some (.int .i64 (G : Int)) := KZ10.out.cell 0
      have x5 : w10.cell? ⟨h6, 1, none⟩ = some (.slice A3 m c3) := KZ10.out.cell 1
      have HBB := Lib.hid BB
      have Hl7 := Lib.hid hlt7
      clear hrv hov hfv htv G1 G2 BB hO hfr hlt7 hT3
      go_wp2_with fail
      go_ret
      obtain ⟨F', hw', hT'⟩ := HW10.out
      have hoff3 : Off (· = v) w10 (((w10.setCell ⟨v, 1, none⟩ (.int .i64 (G : Int))).setCell ⟨v, 2, none⟩ (.slice A3 m c3)).setCell ⟨v, 3, none⟩ (.slice none 0 0)) := ((Off.setCell (F := fun x => x = v) _ v 1 _ rfl).trans (Off.setCell (F := fun x => x = v) _ v 2 _ rfl) (fun x h => .inl h)).trans (Off.setCell (F := fun x => x = v) _ v 3 _ rfl) (fun x h => .inl h)
      have hsep' : ∀ b, (H b ∨ (Value.slice A3 m c3).ownBlock = some b) → ¬ Foot g F' b := fun b q q2 => by
        rcases Foot.within hw' q2 with q2 | q2
        · rcases q with q | q
          · exact HSep.out b q q2
          · have := HT.out.foot q2; have := (Hl7.out b q).1; omega
        · rcases q with q | q
          · have := HH2.out b q; have := B1.size; omega
          · have := (Hl7.out b q).2; have := C6.size; omega
      refine ⟨by rw [hc]; rfl, (HBB.out.mono (fun _ q => Or.inr q)).trans hoff3 (fun x q => .inl (.inl (by subst q; exact HV.out.1))), F', hw'.first B1.size, hT'.outside hoff3 (fun b q q2 => by subst q2; exact hsep' b (.inl HV.out.1) q), .inl ⟨hc, _, fun b q => ?_, by rw [show V.save t = ⟨G, t, []⟩ by unfold Vs.save; rw [HGe.out]]; exact HT3.out, hsep'⟩⟩
      rcases q with q | q
      · exact .inl q
      · exact .inr (Hl7.out b q).1
  · skip
    go_enter Tryd.func22, Tryd.ntmps22
    go_wp2_with (go_at_call 37; refine HRf.out.mono ?_; rintro e1 w1 ⟨rfl, rfl⟩)
    have Z0 : Below w.heap.size w w.drew := (Below.refl w.heap.size w).drew
    refine wp_region_noPanic ?_
    refine wp_region_held_drew (S := fun w' => Row w' v 70 #[.pointer (some ⟨g, 0, none⟩), .int .i64 (V.gen : Int), .slice A0 n0 c0, rv, .bool false]) (by kernel_rfl) (k1.out _ Z0) (fun hHeld => ?_)
    refine takeD (i := 0) (some 21) (.pointer (some ⟨v, 0, none⟩)) rfl rfl (by kernel_rfl) (by kernel_rfl) (by kernel_rfl) (fun _ _ _ h => h) (Or.inl ⟨by rfl, fun _ _ => rfl⟩) hHeld ?_
    simp only [Act.put, List.setIfInBounds_toArray, List.set_cons_zero, List.set_cons_succ]
    refine takeD (i := 1) (some 22) (.pointer (some ⟨v, 0, none⟩)) rfl rfl (by kernel_rfl) (by kernel_rfl) (by kernel_rfl) (fun _ _ _ h => h) (yields_nil (by rfl) (.tmp 21) rfl _ rfl) hHeld ?_
    simp only [Act.put, List.setIfInBounds_toArray, List.set_cons_zero, List.set_cons_succ]
    refine takeD (i := 2) (some 23) (.pointer (some ⟨v, 1, none⟩)) rfl rfl (by kernel_rfl) (by kernel_rfl) (by kernel_rfl) (fun _ _ _ h => h) (yields_fldV (by rfl) 70 (.tmp 22) 1 rfl (d := 1) (by decide) (v) 0 _ rfl rfl) hHeld ?_
    simp only [Act.put, List.setIfInBounds_toArray, List.set_cons_zero, List.set_cons_succ]
    refine takeD (i := 3) (some 24) (.pointer (some ⟨v, 1, none⟩)) rfl rfl (by kernel_rfl) (by kernel_rfl) (by kernel_rfl) (fun _ _ _ h => h) (yields_fldV (by rfl) 68 (.tmp 23) 0 rfl (d := 0) (by decide) (v) 1 _ rfl rfl) hHeld ?_
    simp only [Act.put, List.setIfInBounds_toArray, List.set_cons_zero, List.set_cons_succ]
    refine takeD (i := 4) (some 25) (.int .i64 (V.gen : Int)) rfl rfl (by kernel_rfl) (by kernel_rfl) (by kernel_rfl) (fun _ _ _ h => h) (yieldsC (by rfl) 3 (.tmp 24) rfl (by decide) (v) (1) _ rfl (fun _ h => h.cell 1)) hHeld ?_
    simp only [Act.put, List.setIfInBounds_toArray, List.set_cons_zero, List.set_cons_succ]
    refine takeD (i := 5) (some 26) (.int .i64 (G : Int)) rfl rfl (by kernel_rfl) (by kernel_rfl) (by kernel_rfl) (fun _ _ _ h => h) (yields_add (by rfl) (.tmp 25) (.const (.int .i64 1)) rfl _ 1 _ rfl rfl HPl.out HG1.out HG2.out) hHeld ?_
    simp only [Act.put, List.setIfInBounds_toArray, List.set_cons_zero, List.set_cons_succ]
    refine takeD (i := 6) (some 27) (.slice A m c) rfl rfl (by kernel_rfl) (by kernel_rfl) (by kernel_rfl) (fun _ _ _ h => h) (Or.inl ⟨by rfl, fun _ _ => rfl⟩) hHeld ?_
    simp only [Act.put, List.setIfInBounds_toArray, List.set_cons_zero, List.set_cons_succ]
    refine wpAnyH_ready (rs := [7, 9]) (by kernel_rfl) (by decide) ?_
    refine AllReadyH.cons rfl (fun K' hK => ?_) (AllReadyH.cons rfl (fun K' hK => ?_) AllReadyH.nil)
    · skip
      go_simp
      refine (HCl.out w.drew (HB.out _ Z0)).mono ?_
      rintro e3 w3 ⟨A3, c3, rfl, hc3, hb3, ho3⟩
      have B3 : Below w.heap.size w w3 := Z0.trans (hb3.mono Z0.size)
      have HO3 := Lib.hid (show Own w3 w.heap.size 5 (.slice A3 m c3) m t from ho3.mono Z0.size)
      clear ho3 hc3 hb3
      refine hK.out _ _ (k1.out _ B3) (fun hHeld1 => ?_)
      clear hK
      refine takeD (i := 8) (some 29) (.agg #[.int .i64 (G : Int), .slice A3 m c3]) rfl rfl (by kernel_rfl) (by kernel_rfl) (by kernel_rfl) (fun _ _ _ h => h) (yields_build68 (by rfl) _ _ rfl _ _ _ _ rfl rfl) hHeld1 ?_
      simp only [Act.put, List.setIfInBounds_toArray, List.set_cons_zero, List.set_cons_succ]
      refine wpAnyH_ready (rs := [9]) (by kernel_rfl) (by decide) ?_
      refine AllReadyH.cons rfl (fun K' hK => ?_) AllReadyH.nil
      refine step_of rfl (wp_alloc68 rfl ?_)
      have HRn := Lib.hid (Row.new w3 68 #[.int .i64 0, .slice none 0 0])
      have H6 : Hid (w.heap.size ≤ w3.heap.size) := Lib.hid B3.size
      have B5 : Below w.heap.size w (w3.alloc (.cells #[.int .i64 0, .slice none 0 0] 68)) := B3.alloc B3.size _
      have HOn := Lib.hid (HO3.out.below ((Below.refl w3.heap.size w3).alloc (Nat.le_refl _) (.cells #[.int .i64 0, .slice none 0 0] 68)))
      obtain ⟨h6, hh6⟩ : ∃ h6, w3.heap.size = h6 := ⟨_, rfl⟩
      obtain ⟨w5, hw5⟩ : ∃ w5, w3.alloc (.cells #[.int .i64 0, .slice none 0 0] 68) = w5 := ⟨_, rfl⟩
      rw [hh6, hw5] at HRn
      rw [hw5] at B5
      rw [hh6] at H6
      rw [hw5] at HOn
      rw [hh6, hw5]
      clear hh6 hw5
      refine hK.out _ _ (k1.out _ B5) (fun hHeld2 => ?_)
      clear hK
      (try simp only [List.getElem_toArray, List.getElem_cons_succ, List.getElem_cons_zero, Act.put, List.setIfInBounds_toArray, List.set_cons_zero, List.set_cons_succ])
      refine wpAnyH_ready (rs := [10]) (by kernel_rfl) (by decide) ?_
      refine AllReadyH.cons rfl (fun K' hK => ?_) AllReadyH.nil
      refine step_store_row Tryd.agg68 rfl (.tmp 6) (.tmp 29) rfl h6 #[.int .i64 (G : Int), .slice A3 m c3] rfl rfl 68 #[.int .i64 0, .slice none 0 0] HRn.out (size2 _ _ _ _) (size2 _ _ _ _) (one2 _ _ _ _) ?_
      intro w7 hr7 ho7
      have HR7 := Lib.hid hr7
      have B7 : Below w.heap.size w w7 := B5.trans (ho7.below H6.out B5.size)
      have HO7 : Hid (Own w7 w.heap.size 5 (.slice A3 m c3) m t) := Lib.hid (Own.onlyA HOn.out ho7 (fun b hb => by have q1 := HRn.out; exact Own.row_ne HOn.out q1 b hb))
      clear hr7 ho7
      refine hK.out _ _ (k1.out _ B7) (fun hHeld3 => ?_)
      clear hK
      (try simp only [Act.put, List.setIfInBounds_toArray])
      refine wpAnyH_done (by kernel_rfl) ?_ _
      refine NoPanic.normal ?_
      have dr : (r.2 == 0) = false := by rw [hc]; rfl
      have q60 : w7.cell? ⟨h6, 0, none⟩ = some (.int .i64 (G : Int)) := HR7.out.cell 0
      have q61 : w7.cell? ⟨h6, 1, none⟩ = some (.slice A3 m c3) := HR7.out.cell 1
      go_wp2_with (go_at_call 40; refine (HSl.out w7).mono ?_; rintro e8 w8 ⟨rfl, rfl⟩)
      have hh6 := H6.out
      have Z7 : Below w7.heap.size w7 w7.drew := (Below.refl w7.heap.size w7).drew
      have KP : Hid (∀ wq, Below w7.heap.size w7 wq → Row wq h6 68 #[.int .i64 (G : Int), .slice A3 m c3]) := Lib.hid (fun wq hb => HR7.out.below hb HR7.out.lt)
      refine wp_region_noPanic ?_
      refine wp_region_held_drew (S := fun w' => Row w' h6 68 #[.int .i64 (G : Int), .slice A3 m c3]) (by kernel_rfl) (KP.out _ Z7) (fun hHeld => ?_)
      refine takeD (i := 0) (some 33) (.pointer (some ⟨v, 0, none⟩)) rfl rfl (by kernel_rfl) (by kernel_rfl) (by kernel_rfl) (fun _ _ _ h => h) (Or.inl ⟨by rfl, fun _ _ => rfl⟩) hHeld ?_
      simp only [Act.put, List.setIfInBounds_toArray, List.set_cons_zero, List.set_cons_succ]
      refine takeD (i := 1) (some 34) (.pointer (some ⟨v, 0, none⟩)) rfl rfl (by kernel_rfl) (by kernel_rfl) (by kernel_rfl) (fun _ _ _ h => h) (Or.inl ⟨by rfl, fun _ _ => rfl⟩) hHeld ?_
      simp only [Act.put, List.setIfInBounds_toArray, List.set_cons_zero, List.set_cons_succ]
      refine takeD (i := 2) (some 35) (.int .i64 (slotNo G : Int)) rfl rfl (by kernel_rfl) (by kernel_rfl) (by kernel_rfl) (fun _ _ _ h => h) (Or.inl ⟨by rfl, fun _ _ => rfl⟩) hHeld ?_
      simp only [Act.put, List.setIfInBounds_toArray, List.set_cons_zero, List.set_cons_succ]
      refine takeD (i := 4) (some 37) (.pointer (some ⟨v, 0, none⟩)) rfl rfl (by kernel_rfl) (by kernel_rfl) (by kernel_rfl) (fun _ _ _ h => h) (Or.inl ⟨by rfl, fun _ _ => rfl⟩) hHeld ?_
      simp only [Act.put, List.setIfInBounds_toArray, List.set_cons_zero, List.set_cons_succ]
      refine takeD (i := 5) (some 38) (.int .i64 (slotNo G : Int)) rfl rfl (by kernel_rfl) (by kernel_rfl) (by kernel_rfl) (fun _ _ _ h => h) (Or.inl ⟨by rfl, fun _ _ => rfl⟩) hHeld ?_
      simp only [Act.put, List.setIfInBounds_toArray, List.set_cons_zero, List.set_cons_succ]
      refine takeD (i := 6) (some 39) (.agg #[.int .i64 (G : Int), .slice A3 m c3]) rfl rfl (by kernel_rfl) (by kernel_rfl) (by kernel_rfl) (fun _ _ _ h => h) (yields_load68 (by rfl) (.tmp 6) rfl (h6) (0) _ _ rfl (fun _ h => h.range2)) hHeld ?_
      simp only [Act.put, List.setIfInBounds_toArray, List.set_cons_zero, List.set_cons_succ]
      refine takeD (i := 8) (some 41) (.pointer (some ⟨v, 0, none⟩)) rfl rfl (by kernel_rfl) (by kernel_rfl) (by kernel_rfl) (fun _ _ _ h => h) (Or.inl ⟨by rfl, fun _ _ => rfl⟩) hHeld ?_
      simp only [Act.put, List.setIfInBounds_toArray, List.set_cons_zero, List.set_cons_succ]
      refine takeD (i := 9) (some 42) (.int .i64 (slotNo G : Int)) rfl rfl (by kernel_rfl) (by kernel_rfl) (by kernel_rfl) (fun _ _ _ h => h) (Or.inl ⟨by rfl, fun _ _ => rfl⟩) hHeld ?_
      simp only [Act.put, List.setIfInBounds_toArray, List.set_cons_zero, List.set_cons_succ]
      refine takeD (i := 11) (some 44) (.pointer (some ⟨v, 0, none⟩)) rfl rfl (by kernel_rfl) (by kernel_rfl) (by kernel_rfl) (fun _ _ _ h => h) (Or.inl ⟨by rfl, fun _ _ => rfl⟩) hHeld ?_
      simp only [Act.put, List.setIfInBounds_toArray, List.set_cons_zero, List.set_cons_succ]
      refine takeD (i := 13) (some 46) (.pointer (some ⟨v, 0, none⟩)) rfl rfl (by kernel_rfl) (by kernel_rfl) (by kernel_rfl) (fun _ _ _ h => h) (Or.inl ⟨by rfl, fun _ _ => rfl⟩) hHeld ?_
      simp only [Act.put, List.setIfInBounds_toArray, List.set_cons_zero, List.set_cons_succ]
      refine wpAnyH_ready (rs := [3]) (by kernel_rfl) (by decide) ?_
      refine AllReadyH.cons rfl (fun K' hK => ?_) AllReadyH.nil
      go_simp
      refine (empty_any v (slotNo G : Int) w7.drew).mono ?_
      rintro ef1 u1 ⟨f1, rfl, hff1, hbf1⟩
      have C1 : Below w7.heap.size w7 u1 := Z7.trans (hbf1.mono Z7.size)
      have HFf1C1 := Lib.hid (hff1.mono (Nat.le_trans B7.size Z7.size))
      clear hff1 hbf1
      refine hK.out _ _ (KP.out _ C1) (fun hHeld1 => ?_)
      clear hK
      refine wpAnyH_ready (rs := [7]) (by kernel_rfl) (by decide) ?_
      refine AllReadyH.cons rfl (fun K' hK => ?_) AllReadyH.nil
      go_simp
      refine (put_any v G w.heap.size m c3 (slotNo G : Int) A3 t u1 (HO7.out.below C1) (Nat.le_trans B7.size C1.size)).mono ?_
      rintro ef2 u2 ⟨f2, rfl, hff2, hbf2⟩
      have C2 : Below w7.heap.size w7 u2 := C1.trans (hbf2.mono C1.size)
      have HFf1C2 := Lib.hid (HFf1C1.out.below hbf2)
      have HFf2C2 := Lib.hid (hff2)
      clear hff2 hbf2
      refine hK.out _ _ (KP.out _ C2) (fun hHeld2 => ?_)
      clear hK
      refine wpAnyH_ready (rs := [10]) (by kernel_rfl) (by decide) ?_
      refine AllReadyH.cons rfl (fun K' hK => ?_) AllReadyH.nil
      go_simp
      refine (sync_any v (slotNo G : Int) u2).mono ?_
      rintro ef3 u3 ⟨f3, rfl, hff3, hbf3⟩
      have C3 : Below w7.heap.size w7 u3 := C2.trans (hbf3.mono C2.size)
      have HFf1C3 := Lib.hid (HFf1C2.out.below hbf3)
      have HFf2C3 := Lib.hid (HFf2C2.out.below hbf3)
      have HFf3C3 := Lib.hid (hff3.mono (Nat.le_trans B7.size C2.size))
      clear hff3 hbf3
      refine hK.out _ _ (KP.out _ C3) (fun hHeld3 => ?_)
      clear hK
      refine wpAnyH_ready (rs := [12]) (by kernel_rfl) (by decide) ?_
      refine AllReadyH.cons rfl (fun K' hK => ?_) AllReadyH.nil
      go_simp
      refine (empty_any v 0 u3).mono ?_
      rintro ef4 u4 ⟨f4, rfl, hff4, hbf4⟩
      have C4 : Below w7.heap.size w7 u4 := C3.trans (hbf4.mono C3.size)
      have HFf1C4 := Lib.hid (HFf1C3.out.below hbf4)
      have HFf2C4 := Lib.hid (HFf2C3.out.below hbf4)
      have HFf3C4 := Lib.hid (HFf3C3.out.below hbf4)
      have HFf4C4 := Lib.hid (hff4.mono (Nat.le_trans B7.size C3.size))
      clear hff4 hbf4
      refine hK.out _ _ (KP.out _ C4) (fun hHeld4 => ?_)
      clear hK
      refine wpAnyH_ready (rs := [14]) (by kernel_rfl) (by decide) ?_
      refine AllReadyH.cons rfl (fun K' hK => ?_) AllReadyH.nil
      go_simp
      refine (sync_any v 0 u4).mono ?_
      rintro ef5 u5 ⟨f5, rfl, hff5, hbf5⟩
      have C5 : Below w7.heap.size w7 u5 := C4.trans (hbf5.mono C4.size)
      have HFf1C5 := Lib.hid (HFf1C4.out.below hbf5)
      have HFf2C5 := Lib.hid (HFf2C4.out.below hbf5)
      have HFf3C5 := Lib.hid (HFf3C4.out.below hbf5)
      have HFf4C5 := Lib.hid (HFf4C4.out.below hbf5)
      have HFf5C5 := Lib.hid (hff5.mono (Nat.le_trans B7.size C4.size))
      clear hff5 hbf5
      refine hK.out _ _ (KP.out _ C5) (fun hHeld5 => ?_)
      clear hK
      refine wpAnyH_ready (rs := [15]) (by kernel_rfl) (by decide) ?_
      refine AllReadyH.cons rfl (fun K' hK => ?_) AllReadyH.nil
      refine step_of rfl (wp_buildF5 (.tmp 36) (.tmp 40) (.tmp 43) (.tmp 45) (.tmp 47) rfl f1 f2 f3 f4 f5 rfl rfl rfl rfl rfl HFf1C5.out.fn HFf2C5.out.fn HFf3C5.out.fn HFf4C5.out.fn HFf5C5.out.fn ?_)
      have C6 : Below w7.heap.size w7 (u5.alloc (.cells #[f1, f2, f3, f4, f5] 73)) := C5.alloc C5.size _
      refine hK.out _ _ (KP.out _ C6) (fun hHeld6 => ?_)
      clear hK
      (try simp only [List.getElem_toArray, List.getElem_cons_succ, List.getElem_cons_zero, Act.put, List.setIfInBounds_toArray, List.set_cons_zero, List.set_cons_succ])
      refine wpAnyH_ready (rs := [16]) (by kernel_rfl) (by decide) ?_
      refine AllReadyH.cons rfl (fun K' hK => ?_) AllReadyH.nil
      go_simp
      refine (HRun.out f1 f2 f3 f4 f5 u5 (B7.trans (C5.mono B7.size)) HFf1C5.out HFf2C5.out HFf3C5.out HFf4C5.out HFf5C5.out).mono ?_
      rintro e10 w10 hran
      have HOA := Lib.hid hran.off
      obtain ⟨rfl, hw10, hoff10, hdn10⟩ := hran
      have HW10 := Lib.hid hw10
      have HO10 := Lib.hid hoff10
      have HD10 := Lib.hid hdn10
      have KZ10 := Lib.hid (show Row w10 h6 68 #[.int .i64 (G : Int), .slice A3 m c3] from (KP.out _ C6).off HOA.out (fun q => by rcases q with q | q; have := HT.out.foot q; omega; omega))
      clear hw10 hoff10 hdn10
      refine hK.out _ _ KZ10.out (fun hHeld7 => ?_)
      clear hK
      refine takeD (i := 17) (some 8) (.int .i64 r.2) rfl rfl (by kernel_rfl) (by kernel_rfl) (by kernel_rfl) (fun _ _ _ h => h) (Or.inl ⟨by rfl, fun _ _ => rfl⟩) hHeld7 ?_
      simp only [Act.put, List.setIfInBounds_toArray, List.set_cons_zero, List.set_cons_succ]
      (try simp only [Act.put, List.setIfInBounds_toArray])
      refine wpAnyH_done (by kernel_rfl) ?_ _
      refine NoPanic.normal ?_
      have B1 : Below w.heap.size w (u5.alloc (.cells #[f1, f2, f3, f4, f5] 73)) := B7.trans (C6.mono B7.size)
      go_wp2_with fail
      go_ret
      obtain ⟨F', hw', hT'⟩ := HW10.out
      obtain ⟨hD1, hD2⟩ := HD10.out hc
      exact ⟨by rw [hc]; rfl, ((Off.of_below B1).trans hD2 (fun x q => .inl q)).mono (fun x q => by
        rcases q with q | rfl
        · exact .inr q
        · exact .inl HV.out.1), F', hw'.first B1.size, hT', .inr ⟨hc, hD1⟩⟩
    · skip
      refine step_of rfl (wp_alloc68 rfl ?_)
      have HRn := Lib.hid (Row.new w.drew 68 #[.int .i64 0, .slice none 0 0])
      have H6 : Hid (w.heap.size ≤ w.drew.heap.size) := Lib.hid Z0.size
      have B5 : Below w.heap.size w (w.drew.alloc (.cells #[.int .i64 0, .slice none 0 0] 68)) := Z0.alloc Z0.size _
      obtain ⟨h6, hh6⟩ : ∃ h6, w.drew.heap.size = h6 := ⟨_, rfl⟩
      obtain ⟨w5, hw5⟩ : ∃ w5, w.drew.alloc (.cells #[.int .i64 0, .slice none 0 0] 68) = w5 := ⟨_, rfl⟩
      rw [hh6, hw5] at HRn
      rw [hw5] at B5
      rw [hh6] at H6
      rw [hh6, hw5]
      clear hh6 hw5
      refine hK.out _ _ (k1.out _ B5) (fun hHeld1 => ?_)
      clear hK
      (try simp only [List.getElem_toArray, List.getElem_cons_succ, List.getElem_cons_zero, Act.put, List.setIfInBounds_toArray, List.set_cons_zero, List.set_cons_succ])
      refine wpAnyH_ready (rs := [7]) (by kernel_rfl) (by decide) ?_
      refine AllReadyH.cons rfl (fun K' hK => ?_) AllReadyH.nil
      go_simp
      refine (HCl.out w5 (HB.out _ B5)).mono ?_
      rintro e3 w3 ⟨A3, c3, rfl, hc3, hb3, ho3⟩
      have B3 : Below w.heap.size w w3 := B5.trans (hb3.mono B5.size)
      have HO3 := Lib.hid (show Own w3 w.heap.size 5 (.slice A3 m c3) m t from ho3.mono B5.size)
      have HRa := Lib.hid (HRn.out.below hb3 HRn.out.lt)
      clear ho3 hc3 hb3
      refine hK.out _ _ (k1.out _ B3) (fun hHeld2 => ?_)
      clear hK
      refine takeD (i := 8) (some 29) (.agg #[.int .i64 (G : Int), .slice A3 m c3]) rfl rfl (by kernel_rfl) (by kernel_rfl) (by kernel_rfl) (fun _ _ _ h => h) (yields_build68 (by rfl) _ _ rfl _ _ _ _ rfl rfl) hHeld2 ?_
      simp only [Act.put, List.setIfInBounds_toArray, List.set_cons_zero, List.set_cons_succ]
      refine wpAnyH_ready (rs := [10]) (by kernel_rfl) (by decide) ?_
      refine AllReadyH.cons rfl (fun K' hK => ?_) AllReadyH.nil
      refine step_store_row Tryd.agg68 rfl (.tmp 6) (.tmp 29) rfl h6 #[.int .i64 (G : Int), .slice A3 m c3] rfl rfl 68 #[.int .i64 0, .slice none 0 0] HRa.out (size2 _ _ _ _) (size2 _ _ _ _) (one2 _ _ _ _) ?_
      intro w7 hr7 ho7
      have HR7 := Lib.hid hr7
      have B7 : Below w.heap.size w w7 := B3.trans (ho7.below H6.out B3.size)
      have HO7 : Hid (Own w7 w.heap.size 5 (.slice A3 m c3) m t) := Lib.hid (Own.onlyA HO3.out ho7 (fun b hb => by have q1 := HRa.out; exact Own.row_ne HO3.out q1 b hb))
      clear hr7 ho7
      refine hK.out _ _ (k1.out _ B7) (fun hHeld3 => ?_)
      clear hK
      (try simp only [Act.put, List.setIfInBounds_toArray])
      refine wpAnyH_done (by kernel_rfl) ?_ _
      refine NoPanic.normal ?_
      have dr : (r.2 == 0) = false := by rw [hc]; rfl
      have q60 : w7.cell? ⟨h6, 0, none⟩ = some (.int .i64 (G : Int)) := HR7.out.cell 0
      have q61 : w7.cell? ⟨h6, 1, none⟩ = some (.slice A3 m c3) := HR7.out.cell 1
      go_wp2_with (go_at_call 40; refine (HSl.out w7).mono ?_; rintro e8 w8 ⟨rfl, rfl⟩)
      have hh6 := H6.out
      have Z7 : Below w7.heap.size w7 w7.drew := (Below.refl w7.heap.size w7).drew
      have KP : Hid (∀ wq, Below w7.heap.size w7 wq → Row wq h6 68 #[.int .i64 (G : Int), .slice A3 m c3]) := Lib.hid (fun wq hb => HR7.out.below hb HR7.out.lt)
      refine wp_region_noPanic ?_
      refine wp_region_held_drew (S := fun w' => Row w' h6 68 #[.int .i64 (G : Int), .slice A3 m c3]) (by kernel_rfl) (KP.out _ Z7) (fun hHeld => ?_)
      refine takeD (i := 0) (some 33) (.pointer (some ⟨v, 0, none⟩)) rfl rfl (by kernel_rfl) (by kernel_rfl) (by kernel_rfl) (fun _ _ _ h => h) (Or.inl ⟨by rfl, fun _ _ => rfl⟩) hHeld ?_
      simp only [Act.put, List.setIfInBounds_toArray, List.set_cons_zero, List.set_cons_succ]
      refine takeD (i := 1) (some 34) (.pointer (some ⟨v, 0, none⟩)) rfl rfl (by kernel_rfl) (by kernel_rfl) (by kernel_rfl) (fun _ _ _ h => h) (Or.inl ⟨by rfl, fun _ _ => rfl⟩) hHeld ?_
      simp only [Act.put, List.setIfInBounds_toArray, List.set_cons_zero, List.set_cons_succ]
      refine takeD (i := 2) (some 35) (.int .i64 (slotNo G : Int)) rfl rfl (by kernel_rfl) (by kernel_rfl) (by kernel_rfl) (fun _ _ _ h => h) (Or.inl ⟨by rfl, fun _ _ => rfl⟩) hHeld ?_
      simp only [Act.put, List.setIfInBounds_toArray, List.set_cons_zero, List.set_cons_succ]
      refine takeD (i := 4) (some 37) (.pointer (some ⟨v, 0, none⟩)) rfl rfl (by kernel_rfl) (by kernel_rfl) (by kernel_rfl) (fun _ _ _ h => h) (Or.inl ⟨by rfl, fun _ _ => rfl⟩) hHeld ?_
      simp only [Act.put, List.setIfInBounds_toArray, List.set_cons_zero, List.set_cons_succ]
      refine takeD (i := 5) (some 38) (.int .i64 (slotNo G : Int)) rfl rfl (by kernel_rfl) (by kernel_rfl) (by kernel_rfl) (fun _ _ _ h => h) (Or.inl ⟨by rfl, fun _ _ => rfl⟩) hHeld ?_
      simp only [Act.put, List.setIfInBounds_toArray, List.set_cons_zero, List.set_cons_succ]
      refine takeD (i := 6) (some 39) (.agg #[.int .i64 (G : Int), .slice A3 m c3]) rfl rfl (by kernel_rfl) (by kernel_rfl) (by kernel_rfl) (fun _ _ _ h => h) (yields_load68 (by rfl) (.tmp 6) rfl (h6) (0) _ _ rfl (fun _ h => h.range2)) hHeld ?_
      simp only [Act.put, List.setIfInBounds_toArray, List.set_cons_zero, List.set_cons_succ]
      refine takeD (i := 8) (some 41) (.pointer (some ⟨v, 0, none⟩)) rfl rfl (by kernel_rfl) (by kernel_rfl) (by kernel_rfl) (fun _ _ _ h => h) (Or.inl ⟨by rfl, fun _ _ => rfl⟩) hHeld ?_
      simp only [Act.put, List.setIfInBounds_toArray, List.set_cons_zero, List.set_cons_succ]
      refine takeD (i := 9) (some 42) (.int .i64 (slotNo G : Int)) rfl rfl (by kernel_rfl) (by kernel_rfl) (by kernel_rfl) (fun _ _ _ h => h) (Or.inl ⟨by rfl, fun _ _ => rfl⟩) hHeld ?_
      simp only [Act.put, List.setIfInBounds_toArray, List.set_cons_zero, List.set_cons_succ]
      refine takeD (i := 11) (some 44) (.pointer (some ⟨v, 0, none⟩)) rfl rfl (by kernel_rfl) (by kernel_rfl) (by kernel_rfl) (fun _ _ _ h => h) (Or.inl ⟨by rfl, fun _ _ => rfl⟩) hHeld ?_
      simp only [Act.put, List.setIfInBounds_toArray, List.set_cons_zero, List.set_cons_succ]
      refine takeD (i := 13) (some 46) (.pointer (some ⟨v, 0, none⟩)) rfl rfl (by kernel_rfl) (by kernel_rfl) (by kernel_rfl) (fun _ _ _ h => h) (Or.inl ⟨by rfl, fun _ _ => rfl⟩) hHeld ?_
      simp only [Act.put, List.setIfInBounds_toArray, List.set_cons_zero, List.set_cons_succ]
      refine wpAnyH_ready (rs := [3]) (by kernel_rfl) (by decide) ?_
      refine AllReadyH.cons rfl (fun K' hK => ?_) AllReadyH.nil
      go_simp
      refine (empty_any v (slotNo G : Int) w7.drew).mono ?_
      rintro ef1 u1 ⟨f1, rfl, hff1, hbf1⟩
      have C1 : Below w7.heap.size w7 u1 := Z7.trans (hbf1.mono Z7.size)
      have HFf1C1 := Lib.hid (hff1.mono (Nat.le_trans B7.size Z7.size))
      clear hff1 hbf1
      refine hK.out _ _ (KP.out _ C1) (fun hHeld1 => ?_)
      clear hK
      refine wpAnyH_ready (rs := [7]) (by kernel_rfl) (by decide) ?_
      refine AllReadyH.cons rfl (fun K' hK => ?_) AllReadyH.nil
      go_simp
      refine (put_any v G w.heap.size m c3 (slotNo G : Int) A3 t u1 (HO7.out.below C1) (Nat.le_trans B7.size C1.size)).mono ?_
      rintro ef2 u2 ⟨f2, rfl, hff2, hbf2⟩
      have C2 : Below w7.heap.size w7 u2 := C1.trans (hbf2.mono C1.size)
      have HFf1C2 := Lib.hid (HFf1C1.out.below hbf2)
      have HFf2C2 := Lib.hid (hff2)
      clear hff2 hbf2
      refine hK.out _ _ (KP.out _ C2) (fun hHeld2 => ?_)
      clear hK
      refine wpAnyH_ready (rs := [10]) (by kernel_rfl) (by decide) ?_
      refine AllReadyH.cons rfl (fun K' hK => ?_) AllReadyH.nil
      go_simp
      refine (sync_any v (slotNo G : Int) u2).mono ?_
      rintro ef3 u3 ⟨f3, rfl, hff3, hbf3⟩
      have C3 : Below w7.heap.size w7 u3 := C2.trans (hbf3.mono C2.size)
      have HFf1C3 := Lib.hid (HFf1C2.out.below hbf3)
      have HFf2C3 := Lib.hid (HFf2C2.out.below hbf3)
      have HFf3C3 := Lib.hid (hff3.mono (Nat.le_trans B7.size C2.size))
      clear hff3 hbf3
      refine hK.out _ _ (KP.out _ C3) (fun hHeld3 => ?_)
      clear hK
      refine wpAnyH_ready (rs := [12]) (by kernel_rfl) (by decide) ?_
      refine AllReadyH.cons rfl (fun K' hK => ?_) AllReadyH.nil
      go_simp
      refine (empty_any v 0 u3).mono ?_
      rintro ef4 u4 ⟨f4, rfl, hff4, hbf4⟩
      have C4 : Below w7.heap.size w7 u4 := C3.trans (hbf4.mono C3.size)
      have HFf1C4 := Lib.hid (HFf1C3.out.below hbf4)
      have HFf2C4 := Lib.hid (HFf2C3.out.below hbf4)
      have HFf3C4 := Lib.hid (HFf3C3.out.below hbf4)
      have HFf4C4 := Lib.hid (hff4.mono (Nat.le_trans B7.size C3.size))
      clear hff4 hbf4
      refine hK.out _ _ (KP.out _ C4) (fun hHeld4 => ?_)
      clear hK
      refine wpAnyH_ready (rs := [14]) (by kernel_rfl) (by decide) ?_
      refine AllReadyH.cons rfl (fun K' hK => ?_) AllReadyH.nil
      go_simp
      refine (sync_any v 0 u4).mono ?_
      rintro ef5 u5 ⟨f5, rfl, hff5, hbf5⟩
      have C5 : Below w7.heap.size w7 u5 := C4.trans (hbf5.mono C4.size)
      have HFf1C5 := Lib.hid (HFf1C4.out.below hbf5)
      have HFf2C5 := Lib.hid (HFf2C4.out.below hbf5)
      have HFf3C5 := Lib.hid (HFf3C4.out.below hbf5)
      have HFf4C5 := Lib.hid (HFf4C4.out.below hbf5)
      have HFf5C5 := Lib.hid (hff5.mono (Nat.le_trans B7.size C4.size))
      clear hff5 hbf5
      refine hK.out _ _ (KP.out _ C5) (fun hHeld5 => ?_)
      clear hK
      refine wpAnyH_ready (rs := [15]) (by kernel_rfl) (by decide) ?_
      refine AllReadyH.cons rfl (fun K' hK => ?_) AllReadyH.nil
      refine step_of rfl (wp_buildF5 (.tmp 36) (.tmp 40) (.tmp 43) (.tmp 45) (.tmp 47) rfl f1 f2 f3 f4 f5 rfl rfl rfl rfl rfl HFf1C5.out.fn HFf2C5.out.fn HFf3C5.out.fn HFf4C5.out.fn HFf5C5.out.fn ?_)
      have C6 : Below w7.heap.size w7 (u5.alloc (.cells #[f1, f2, f3, f4, f5] 73)) := C5.alloc C5.size _
      refine hK.out _ _ (KP.out _ C6) (fun hHeld6 => ?_)
      clear hK
      (try simp only [List.getElem_toArray, List.getElem_cons_succ, List.getElem_cons_zero, Act.put, List.setIfInBounds_toArray, List.set_cons_zero, List.set_cons_succ])
      refine wpAnyH_ready (rs := [16]) (by kernel_rfl) (by decide) ?_
      refine AllReadyH.cons rfl (fun K' hK => ?_) AllReadyH.nil
      go_simp
      refine (HRun.out f1 f2 f3 f4 f5 u5 (B7.trans (C5.mono B7.size)) HFf1C5.out HFf2C5.out HFf3C5.out HFf4C5.out HFf5C5.out).mono ?_
      rintro e10 w10 hran
      have HOA := Lib.hid hran.off
      obtain ⟨rfl, hw10, hoff10, hdn10⟩ := hran
      have HW10 := Lib.hid hw10
      have HO10 := Lib.hid hoff10
      have HD10 := Lib.hid hdn10
      have KZ10 := Lib.hid (show Row w10 h6 68 #[.int .i64 (G : Int), .slice A3 m c3] from (KP.out _ C6).off HOA.out (fun q => by rcases q with q | q; have := HT.out.foot q; omega; omega))
      clear hw10 hoff10 hdn10
      refine hK.out _ _ KZ10.out (fun hHeld7 => ?_)
      clear hK
      refine takeD (i := 17) (some 8) (.int .i64 r.2) rfl rfl (by kernel_rfl) (by kernel_rfl) (by kernel_rfl) (fun _ _ _ h => h) (Or.inl ⟨by rfl, fun _ _ => rfl⟩) hHeld7 ?_
      simp only [Act.put, List.setIfInBounds_toArray, List.set_cons_zero, List.set_cons_succ]
      (try simp only [Act.put, List.setIfInBounds_toArray])
      refine wpAnyH_done (by kernel_rfl) ?_ _
      refine NoPanic.normal ?_
      have B1 : Below w.heap.size w (u5.alloc (.cells #[f1, f2, f3, f4, f5] 73)) := B7.trans (C6.mono B7.size)
      go_wp2_with fail
      go_ret
      obtain ⟨F', hw', hT'⟩ := HW10.out
      obtain ⟨hD1, hD2⟩ := HD10.out hc
      exact ⟨by rw [hc]; rfl, ((Off.of_below B1).trans hD2 (fun x q => .inl q)).mono (fun x q => by
        rcases q with q | rfl
        · exact .inr q
        · exact .inl HV.out.1), F', hw'.first B1.size, hT', .inr ⟨hc, hD1⟩⟩
end Go.Proofs.YtgiobcpljbpmiaaDoor
