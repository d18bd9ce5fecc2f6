/-
  A vault's Add, Gen, Text.
-/
import Derived.Test.YtgiobcpljbpmiaaDoorVltG
namespace Go.Proofs.YtgiobcpljbpmiaaDoor
open Go.RowKit
set_option maxRecDepth 100000 in
theorem refuses_nil (A : Option Addr) (n c : Nat) (w : World) : Calls Tryd.prog 37 #[.pointer none, .slice A n c] w fun e w' => e = .returned (.int .i64 2) ∧ w = w' := by
  go_enter Tryd.func37, Tryd.ntmps37
  go_wp2
  go_ret
  exact ⟨rfl, rfl⟩
set_option maxRecDepth 100000 in
theorem refuses_down (v : Nat) (cs : Array Value) (A : Option Addr) (n c : Nat) (w : World) (h : Row w v 70 cs) (h4 : cs[4]? = some (.bool true)) : Calls Tryd.prog 37 #[.pointer (some ⟨v, 0, none⟩), .slice A n c] w fun e w' => e = .returned (.int .i64 100) ∧ w = w' := by
  have k4 : w.cell? ⟨v, 4, none⟩ = some (.bool true) := (h.cell 4).trans h4
  clear h h4
  go_enter Tryd.func37, Tryd.ntmps37
  go_wp2
  go_ret
  exact ⟨rfl, rfl⟩
set_option maxRecDepth 100000 in
theorem refuses_long (v : Nat) (cs : Array Value) (A : Option Addr) (n c : Nat) (w : World) (h : Row w v 70 cs) (h4 : cs[4]? = some (.bool false)) (hn : 262080 < n) : Calls Tryd.prog 37 #[.pointer (some ⟨v, 0, none⟩), .slice A n c] w fun e w' => e = .returned (.int .i64 42) ∧ w = w' := by
  have k4 : w.cell? ⟨v, 4, none⟩ = some (.bool false) := (h.cell 4).trans h4
  have hn' : (262080 : Int) < (n : Int) := by omega
  clear h h4
  go_enter Tryd.func37, Tryd.ntmps37
  go_wp2
  go_ret
  exact ⟨rfl, rfl⟩
set_option maxRecDepth 100000 in
theorem refuses_no (v : Nat) (cs : Array Value) (A : Option Addr) (n c : Nat) (w : World) (h : Row w v 70 cs) (h4 : cs[4]? = some (.bool false)) (hn : n ≤ 262080) : Calls Tryd.prog 37 #[.pointer (some ⟨v, 0, none⟩), .slice A n c] w fun e w' => e = .returned (.int .i64 0) ∧ w = w' := by
  have k4 : w.cell? ⟨v, 4, none⟩ = some (.bool false) := (h.cell 4).trans h4
  have hn' : ¬ (262080 : Int) < (n : Int) := by omega
  clear h h4
  go_enter Tryd.func37, Tryd.ntmps37
  go_wp2
  go_ret
  exact ⟨rfl, rfl⟩
set_option maxRecDepth 100000 in
theorem wp_alloc68 {o : Oper} {a : Act} {w : World} {K : Act → World → Prop} {Q : Exit → Act → World → Prop} (ho : o.op = .alloc 68) (h : K (a.put o.dst (.pointer (some ⟨w.heap.size, 0, none⟩))) (w.alloc (.cells #[.int .i64 0, .slice none 0 0] 68))) : o.wp Tryd.prog a w K Q := by
  unfold Oper.wp execOp
  simp only [ho]
  go_simp
  exact h
theorem Vlt.mono {w : World} {v g : Nat} {H H' : Nat → Prop} {V : Vs} (h : Vlt w v g H V) (hH : ∀ b, H b → H' b) (hl : ∀ b, H' b → b < w.heap.size) : Vlt w v g H' V := by
  obtain ⟨h1, h2, A, n, c, rv, hr, ho, hf, ht⟩ := h
  exact ⟨hH v h1, hl, A, n, c, rv, hr, ho, fun b q => hH b (hf b q), ht.mono hH⟩
theorem addV_seq (S : Tp) (q : Nat) (t : List UInt8) : seqT [fun X => X.append 0 (vFr (q, t)), fun X => X.syncT 0] S = S.addV q t := by
  show andThen _ (fun X => andThen (X.syncT 0) (seqT [])) = _
  simp only [andThen_last]
  rfl
/-- the two steps of Add are run -/
theorem runAdd {S : Tp} (v g B q : Nat) (t : List UInt8) (f1 f2 : Value) (cs : Array Value) (F : Nat → Nat → Prop) (w : World) (h1 : CloP w B v 0 q t f1) (h2 : Clo w B 54 v 0 f2) (hV : okV (q, t)) (hB : ∀ b, Foot g F b → b < B) (hBw : B ≤ w.heap.size) (h3 : Row w v 70 cs) (h5 : cs.size = 5) (h0 : cs[0]? = some (.pointer (some ⟨g, 0, none⟩))) (hv : ¬ Foot g F v) (hTb : Tab 2 w) (hF2 : ¬ Foot g F 2) (h : Tap w g F S) (hok : S.ok 0) :
    Calls Tryd.prog 32 #[.pointer (some ⟨v, 0, none⟩), .slice (some ⟨w.heap.size, 0, none⟩) 2 2] (w.alloc (.cells #[f1, f2] 73)) (Ran (w.alloc (.cells #[f1, f2] 73)) v g F (S.addV q t)) := by
  have hb : Below w.heap.size w (w.alloc (.cells #[f1, f2] 73)) := (Below.refl _ _).alloc (Nat.le_refl _) _
  have hN := Row.new w 73 #[f1, f2]
  rw [← addV_seq]
  refine runT_any v g w.heap.size 2 (fun k => if k = 0 then f1 else f2) [fun X => X.append 0 (vFr (q, t)), fun X => X.syncT 0] F _ cs (by simp) (h3.below hb h3.lt) h5 hv (h.below hb) hok hN.lt (fun q => by have := hB _ q; omega) (fun k hk => ?_) (fun k φ hk => ?_)
  · match k, hk with
    | 0, _ => exact hN.cell 0
    | 1, _ => exact hN.cell 1
  · match k, hk with
    | 0, hk =>
      simp at hk; subst hk
      exact StepOf.put (h1.below hb) hV hB (h3.below hb h3.lt) h0 hv (hTb.below hb) hF2
    | 1, hk =>
      simp at hk; subst hk
      exact StepOf.sync (h2.below hb) hB (h3.below hb h3.lt) h0 hv
/-- what an Add leaves -/
def AddedE (w : World) (v g : Nat) (H : Nat → Prop) (F : Nat → Nat → Prop) (V : Vs) (t : List UInt8) (r : Tp × Int) (e : Ending) (w' : World) : Prop :=
  e = .returned (.int .i64 r.2) ∧ Off (fun b => H b ∨ Foot g F b) w w' ∧ ∃ F', Within w F F' ∧ Tap w' g F' r.1 ∧
    ((r.2 = 0 ∧ ∃ H' : Nat → Prop, (∀ b, H' b → H b ∨ w.heap.size ≤ b) ∧ Vlt w' v g H' (V.add t) ∧ ∀ b, H' b → ¬ Foot g F' b) ∨ (r.2 = 90 ∧ Vlt w' v g H V ∧ ∀ b, H b → ¬ Foot g F' b) ∨ (r.2 = 100 ∧ Row w' v 70 vDown))
theorem Foot.within {w : World} {g b : Nat} {F F' : Nat → Nat → Prop} (hw : Within w F F') (h : Foot g F' b) : Foot g F b ∨ w.heap.size ≤ b := by
  rcases h with h | ⟨i, h⟩
  · exact .inl (.inl h)
  · rcases hw i b h with q | q
    · exact .inl (.inr ⟨i, q⟩)
    · exact .inr q
theorem Within.first {w w1 : World} {F F' : Nat → Nat → Prop} (h : Within w1 F F') (hs : w.heap.size ≤ w1.heap.size) : Within w F F' := fun i b q => by
  rcases h i b q with q | q
  · exact .inl q
  · exact .inr (Nat.le_trans hs q)
/-- bytes of the call's own in another block than the one that is written -/
theorem Own.onlyA {w w' : World} {base k : Nat} {e : TypeId} {v : Value} {n : Nat} {l : List UInt8} (h : Own w base e v n l) (ho : Only k w w') (hk : ∀ b, v.ownBlock = some b → b ≠ k) : Own w' base e v n l :=
  ownsRow_keep h fun b _ hb hb2 => (ho.block b (Array.getElem?_eq_some_iff.1 hb2).1 (hk b hb)).trans hb2
theorem Own.row_ne {w : World} {base k : Nat} {v : Value} {n : Nat} {l : List UInt8} {cs : Array Value} (h : Own w base 5 v n l) (hr : Row w k 68 cs) (b : Nat) (hb : v.ownBlock = some b) : b ≠ k := by
  intro e
  subst e
  obtain ⟨_, cs', q⟩ := ownsRow_block h hb
  exact absurd (cells_inj hr q) (by decide)
theorem info73 : (Tryd.prog.info? 73).map (fun i => (i.zero, i.size, i.bytes)) = some (some .nilFunc, 1, 8) := by kernel_rfl
def isFn (f : Value) : Prop := ∃ a b c, f = .func a b c
theorem run_buildF2 (f1 f2 : Value) (h1 : isFn f1) (h2 : isFn f2) (w : World) : (Instr.buildSlice 91 2 #[(0, f1), (1, f2)]).run Tryd.prog w = .ok (.slice (some ⟨w.heap.size, 0, none⟩) 2 2) (w.alloc (.cells #[f1, f2] 73)) := by
  obtain ⟨i, hi, hz, hsize, hby⟩ := info_parts info73
  refine run_buildSlice w 91 73 2 _ _ i _ Tryd.underlying91 hi hz (by rw [hsize]; decide) (by rw [hsize]; decide) ?_
  rw [hsize]
  obtain ⟨a1, b1, c1, rfl⟩ := h1
  obtain ⟨a2, b2, c2, rfl⟩ := h2
  have hf := Great.fill_whole (s := 1) (by omega) [.func a1 b1 c1, .func a2 b2 c2] ((Array.range (2 * 1)).map (Value.nilFunc.cells[· % Value.nilFunc.cells.size]!))
    (fun v hv => by simp at hv; rcases hv with rfl | rfl <;> rfl) (by simp)
  exact hf
theorem wpList_buildF2 {ops : Array Oper} {rest : List Oper} {o : Oper} {a : Act} {w : World} {Q : Exit → Act → World → Prop} (hgd : o.guard = none) (x y : Operand) (ho : o.op = .buildSlice 91 2 #[(0, x), (1, y)]) (f1 f2 : Value) (hx : a.eval x = f1) (hy : a.eval y = f2) (h1 : isFn f1) (h2 : isFn f2)
    (h : wpList Tryd.prog ops Q rest (a.put o.dst (.slice (some ⟨w.heap.size, 0, none⟩) 2 2)) (w.alloc (.cells #[f1, f2] 73))) : wpList Tryd.prog ops Q (o :: rest) a w := by
  refine wpList_plain hgd fun K hK => ?_
  unfold Oper.wp execOp
  simp only [ho, List.map_toArray, List.map_cons, List.map_nil, hx, hy, Sem.run_bind, run_buildF2 f1 f2 h1 h2, Result.andThen_ok]
  exact hK _ _ h
set_option maxRecDepth 100000 in
set_option maxHeartbeats 8000000 in
theorem Add_any {S : Tp} (v g n c : Nat) (A : Option Addr) (t : List UInt8) (H : Nat → Prop) (V : Vs) (F : Nat → Nat → Prop) (w : World) (hV : Vlt w v g H V) (h : Tap w g F S) (hok : S.ok 0) (hsep : ∀ b, H b → ¬ Foot g F b) (hTb : Tab 2 w) (hF2 : ¬ Foot g F 2) (hB : Bs w A n t) (hn : n ≤ 262080) (hg : V.gen ≤ 1099511627776) (hrl : V.recs.length + 1 ≤ 1000000000)
    (hcase : (S.addV V.gen t).2 = 90 ∨ (S.addV V.gen t).2 = 0 ∨ (S.addV V.gen t).2 = 100) :
    Calls Tryd.prog 19 #[.pointer (some ⟨v, 0, none⟩), .slice A n c] w (AddedE w v g H F V t (S.addV V.gen t)) := by
  obtain ⟨H1, H2, A0, n0, c0, rv, hr, ho, hf, ht⟩ := id hV
  have hok2 : okV (V.gen, t) := okV_of V.gen t hg (by rw [hB.1]; exact hn)
  have HRf := Lib.hid (refuses_no v _ A n c w hr rfl hn)
  have HCl := Lib.hid (fun w hB => Clone_any A n c t w hB (by omega))
  have HB := Lib.hid (fun wq (hb : Below w.heap.size w wq) => hB.below hb)
  have HRow := Lib.hid hr
  have HV := Lib.hid hV
  have HSep := Lib.hid hsep
  have hFv : ¬ Foot g F v := hsep v H1
  have HT := Lib.hid h
  have HRun := Lib.hid (fun f1 f2 wq (hb : Below w.heap.size w wq) (a1 : CloP wq w.heap.size v 0 V.gen t f1) (a2 : Clo wq w.heap.size 54 v 0 f2) => runAdd (S := S) v g w.heap.size V.gen t f1 f2 _ F wq a1 a2 hok2 (fun b q => h.foot q) hb.size (hr.below hb hr.lt) rfl rfl hFv (hTb.below hb) hF2 (h.below hb) hok)
  have HH2 := Lib.hid H2
  have HTL := Lib.hid hB.1
  have HRL := Lib.hid hrl
  have hvl := hr.lt
  have k1 : Hid (∀ wq, Below w.heap.size w wq → Row wq v 70 #[.pointer (some ⟨g, 0, none⟩), .int .i64 (V.gen : Int), .slice A0 n0 c0, rv, .bool false]) := Lib.hid (fun wq hb => hr.below hb hr.lt)
  generalize S.addV V.gen t = r at *
  obtain ⟨m, hm⟩ : ∃ m, t.length = m := ⟨_, rfl⟩
  obtain rfl : m = n := by rw [← hm]; exact hB.1
  unfold S4NewSlice at HCl
  rw [hm] at HCl
  clear hV hr ho hf ht h hok hsep hTb hF2 hB hn hg hok2 H1 H2 hrl hm
  rcases hcase with hc | hc | hc
  · skip
    go_enter Tryd.func19, Tryd.ntmps19
    go_wp2_with (go_at_call 37; refine HRf.out.mono ?_; rintro e1 w1 ⟨rfl, rfl⟩)
    have Z0 : Below w.heap.size w w.drew := (Below.refl w.heap.size w).drew
    refine wp_region_noPanic ?_
    refine wp_region_held_drew (S := fun w' => Row w' v 70 #[.pointer (some ⟨g, 0, none⟩), .int .i64 (V.gen : Int), .slice A0 n0 c0, rv, .bool false]) (by kernel_rfl) (k1.out _ Z0) (fun hHeld => ?_)
    refine takeD (i := 0) (some 14) (.pointer (some ⟨v, 0, none⟩)) rfl rfl (by kernel_rfl) (by kernel_rfl) (by kernel_rfl) (fun _ _ _ h => h) (Or.inl ⟨by rfl, fun _ _ => rfl⟩) hHeld ?_
    simp only [Act.put, List.setIfInBounds_toArray, List.set_cons_zero, List.set_cons_succ]
    refine takeD (i := 1) (some 15) (.pointer (some ⟨v, 0, none⟩)) rfl rfl (by kernel_rfl) (by kernel_rfl) (by kernel_rfl) (fun _ _ _ h => h) (yields_nil (by rfl) (.tmp 14) rfl _ rfl) hHeld ?_
    simp only [Act.put, List.setIfInBounds_toArray, List.set_cons_zero, List.set_cons_succ]
    refine takeD (i := 2) (some 16) (.pointer (some ⟨v, 1, none⟩)) rfl rfl (by kernel_rfl) (by kernel_rfl) (by kernel_rfl) (fun _ _ _ h => h) (yields_fldV (by rfl) 70 (.tmp 15) 1 rfl (d := 1) (by decide) (v) 0 _ rfl rfl) hHeld ?_
    simp only [Act.put, List.setIfInBounds_toArray, List.set_cons_zero, List.set_cons_succ]
    refine takeD (i := 3) (some 17) (.pointer (some ⟨v, 1, none⟩)) rfl rfl (by kernel_rfl) (by kernel_rfl) (by kernel_rfl) (fun _ _ _ h => h) (yields_fldV (by rfl) 68 (.tmp 16) 0 rfl (d := 0) (by decide) (v) 1 _ rfl rfl) hHeld ?_
    simp only [Act.put, List.setIfInBounds_toArray, List.set_cons_zero, List.set_cons_succ]
    refine takeD (i := 4) (some 18) (.int .i64 (V.gen : Int)) rfl rfl (by kernel_rfl) (by kernel_rfl) (by kernel_rfl) (fun _ _ _ h => h) (yieldsC (by rfl) 3 (.tmp 17) rfl (by decide) (v) (1) _ rfl (fun _ h => h.cell 1)) hHeld ?_
    simp only [Act.put, List.setIfInBounds_toArray, List.set_cons_zero, List.set_cons_succ]
    refine takeD (i := 5) (some 19) (.slice A m c) rfl rfl (by kernel_rfl) (by kernel_rfl) (by kernel_rfl) (fun _ _ _ h => h) (Or.inl ⟨by rfl, fun _ _ => rfl⟩) hHeld ?_
    simp only [Act.put, List.setIfInBounds_toArray, List.set_cons_zero, List.set_cons_succ]
    refine wpAnyH_ready (rs := [6, 8]) (by kernel_rfl) (by decide) ?_
    refine AllReadyH.cons rfl (fun K' hK => ?_) (AllReadyH.cons rfl (fun K' hK => ?_) AllReadyH.nil)
    · skip
      go_simp
      refine (HCl.out w.drew (HB.out _ Z0)).mono ?_
      rintro e3 w3 ⟨A3, c3, rfl, hc3, hb3, ho3⟩
      have B3 : Below w.heap.size w w3 := Z0.trans (hb3.mono Z0.size)
      have HO3 := Lib.hid (show Own w3 w.heap.size 5 (.slice A3 m c3) m t from ho3.mono Z0.size)
      clear ho3 hc3 hb3
      refine hK.out _ _ (k1.out _ B3) (fun hHeld1 => ?_)
      clear hK
      refine takeD (i := 7) (some 21) (.agg #[.int .i64 (V.gen : Int), .slice A3 m c3]) rfl rfl (by kernel_rfl) (by kernel_rfl) (by kernel_rfl) (fun _ _ _ h => h) (yields_build68 (by rfl) _ _ rfl _ _ _ _ rfl rfl) hHeld1 ?_
      simp only [Act.put, List.setIfInBounds_toArray, List.set_cons_zero, List.set_cons_succ]
      refine wpAnyH_ready (rs := [8]) (by kernel_rfl) (by decide) ?_
      refine AllReadyH.cons rfl (fun K' hK => ?_) AllReadyH.nil
      refine step_of rfl (wp_alloc68 rfl ?_)
      have HRn := Lib.hid (Row.new w3 68 #[.int .i64 0, .slice none 0 0])
      have H6 : Hid (w.heap.size ≤ w3.heap.size) := Lib.hid B3.size
      have B5 : Below w.heap.size w (w3.alloc (.cells #[.int .i64 0, .slice none 0 0] 68)) := B3.alloc B3.size _
      have HOn := Lib.hid (HO3.out.below ((Below.refl w3.heap.size w3).alloc (Nat.le_refl _) (.cells #[.int .i64 0, .slice none 0 0] 68)))
      obtain ⟨h6, hh6⟩ : ∃ h6, w3.heap.size = h6 := ⟨_, rfl⟩
      obtain ⟨w5, hw5⟩ : ∃ w5, w3.alloc (.cells #[.int .i64 0, .slice none 0 0] 68) = w5 := ⟨_, rfl⟩
      rw [hh6, hw5] at HRn
      rw [hw5] at B5
      rw [hh6] at H6
      rw [hw5] at HOn
      rw [hh6, hw5]
      clear hh6 hw5
      refine hK.out _ _ (k1.out _ B5) (fun hHeld2 => ?_)
      clear hK
      (try simp only [List.getElem_toArray, List.getElem_cons_succ, List.getElem_cons_zero, Act.put, List.setIfInBounds_toArray, List.set_cons_zero, List.set_cons_succ])
      refine wpAnyH_ready (rs := [9]) (by kernel_rfl) (by decide) ?_
      refine AllReadyH.cons rfl (fun K' hK => ?_) AllReadyH.nil
      refine step_store_row Tryd.agg68 rfl (.tmp 6) (.tmp 21) rfl h6 #[.int .i64 (V.gen : Int), .slice A3 m c3] rfl rfl 68 #[.int .i64 0, .slice none 0 0] HRn.out (size2 _ _ _ _) (size2 _ _ _ _) (one2 _ _ _ _) ?_
      intro w7 hr7 ho7
      have HR7 := Lib.hid hr7
      have B7 : Below w.heap.size w w7 := B5.trans (ho7.below H6.out B5.size)
      have HO7 : Hid (Own w7 w.heap.size 5 (.slice A3 m c3) m t) := Lib.hid (Own.onlyA HOn.out ho7 (fun b hb => by have q1 := HRn.out; exact Own.row_ne HOn.out q1 b hb))
      clear hr7 ho7
      refine hK.out _ _ (k1.out _ B7) (fun hHeld3 => ?_)
      clear hK
      (try simp only [Act.put, List.setIfInBounds_toArray])
      refine wpAnyH_done (by kernel_rfl) ?_ _
      refine NoPanic.normal ?_
      have dr : (r.2 == 0) = false := by rw [hc]; rfl
      have q60 : w7.cell? ⟨h6, 0, none⟩ = some (.int .i64 (V.gen : Int)) := HR7.out.cell 0
      have q61 : w7.cell? ⟨h6, 1, none⟩ = some (.slice A3 m c3) := HR7.out.cell 1
      go_wp2_with (first
        | (go_at_call 39; refine (put_any v V.gen w.heap.size m c3 0 A3 t w7 HO7.out B7.size).mono ?_; rintro e8 w8 ⟨f1, rfl, hf1, hb8⟩; have HF1 := Lib.hid hf1; have B8 : Below w.heap.size w w8 := B7.trans (hb8.mono B7.size); have HR8 := Lib.hid (HR7.out.below hb8 HR7.out.lt); have HO8 := Lib.hid (HO7.out.below hb8); clear hf1)
        | (go_at_call 35; refine (sync_any v 0 w8).mono ?_; rintro e9 w9 ⟨f2, rfl, hf2, hb9⟩; have B9 : Below w.heap.size w w9 := B8.trans (hb9.mono B8.size); have HF2 := Lib.hid (hf2.mono B8.size); have HF19 := Lib.hid (HF1.out.below hb9); have HR9 := Lib.hid (HR8.out.below hb9 HR8.out.lt); have HO9 := Lib.hid (HO8.out.below hb9); clear hf2; obtain ⟨p1, p2, p3, Aq, nq, cq, hp, _⟩ := HF19.out; obtain ⟨p4, p5, hp2, _⟩ := HF2.out; have Hp := Lib.hid (show isFn f1 from ⟨_, _, _, hp⟩); have Hp2 := Lib.hid (show isFn f2 from ⟨_, _, _, hp2⟩); clear hp hp2)
        | ((with_reducible refine wpList_buildF2 rfl (.tmp 25) (.tmp 27) rfl f1 f2 rfl rfl Hp.out Hp2.out ?_))
        | (go_at_call 32; refine (HRun.out f1 f2 w9 B9 HF19.out HF2.out).mono ?_; rintro e10 w10 ⟨rfl, hw10, hoff10, hdn10⟩; have HW10 := Lib.hid hw10; have HO10 := Lib.hid hoff10; have HD10 := Lib.hid hdn10; clear hw10 hoff10 hdn10))
      go_ret
      have B1 : Below w.heap.size w (w9.alloc (.cells #[f1, f2] 73)) := B9.alloc B9.size _
      obtain ⟨F', hw', hT'⟩ := HW10.out
      have hO := HO10.out (by rw [hc]; omega)
      exact ⟨by rw [hc]; rfl, ((Off.of_below B1).trans hO (fun x q => .inl q)).mono (fun _ q => .inr q), F', hw'.first B1.size, hT', .inr (.inl ⟨hc, (HV.out.below B1).off hO HSep.out, fun b q => by
        intro q2
        rcases Foot.within hw' q2 with q2 | q2
        · exact HSep.out b q q2
        · have := HH2.out b q; have := B1.size; omega⟩)⟩
    · skip
      refine step_of rfl (wp_alloc68 rfl ?_)
      have HRn := Lib.hid (Row.new w.drew 68 #[.int .i64 0, .slice none 0 0])
      have H6 : Hid (w.heap.size ≤ w.drew.heap.size) := Lib.hid Z0.size
      have B5 : Below w.heap.size w (w.drew.alloc (.cells #[.int .i64 0, .slice none 0 0] 68)) := Z0.alloc Z0.size _
      obtain ⟨h6, hh6⟩ : ∃ h6, w.drew.heap.size = h6 := ⟨_, rfl⟩
      obtain ⟨w5, hw5⟩ : ∃ w5, w.drew.alloc (.cells #[.int .i64 0, .slice none 0 0] 68) = w5 := ⟨_, rfl⟩
      rw [hh6, hw5] at HRn
      rw [hw5] at B5
      rw [hh6] at H6
      rw [hh6, hw5]
      clear hh6 hw5
      refine hK.out _ _ (k1.out _ B5) (fun hHeld1 => ?_)
      clear hK
      (try simp only [List.getElem_toArray, List.getElem_cons_succ, List.getElem_cons_zero, Act.put, List.setIfInBounds_toArray, List.set_cons_zero, List.set_cons_succ])
      refine wpAnyH_ready (rs := [6]) (by kernel_rfl) (by decide) ?_
      refine AllReadyH.cons rfl (fun K' hK => ?_) AllReadyH.nil
      go_simp
      refine (HCl.out w5 (HB.out _ B5)).mono ?_
      rintro e3 w3 ⟨A3, c3, rfl, hc3, hb3, ho3⟩
      have B3 : Below w.heap.size w w3 := B5.trans (hb3.mono B5.size)
      have HO3 := Lib.hid (show Own w3 w.heap.size 5 (.slice A3 m c3) m t from ho3.mono B5.size)
      have HRa := Lib.hid (HRn.out.below hb3 HRn.out.lt)
      clear ho3 hc3 hb3
      refine hK.out _ _ (k1.out _ B3) (fun hHeld2 => ?_)
      clear hK
      refine takeD (i := 7) (some 21) (.agg #[.int .i64 (V.gen : Int), .slice A3 m c3]) rfl rfl (by kernel_rfl) (by kernel_rfl) (by kernel_rfl) (fun _ _ _ h => h) (yields_build68 (by rfl) _ _ rfl _ _ _ _ rfl rfl) hHeld2 ?_
      simp only [Act.put, List.setIfInBounds_toArray, List.set_cons_zero, List.set_cons_succ]
      refine wpAnyH_ready (rs := [9]) (by kernel_rfl) (by decide) ?_
      refine AllReadyH.cons rfl (fun K' hK => ?_) AllReadyH.nil
      refine step_store_row Tryd.agg68 rfl (.tmp 6) (.tmp 21) rfl h6 #[.int .i64 (V.gen : Int), .slice A3 m c3] rfl rfl 68 #[.int .i64 0, .slice none 0 0] HRa.out (size2 _ _ _ _) (size2 _ _ _ _) (one2 _ _ _ _) ?_
      intro w7 hr7 ho7
      have HR7 := Lib.hid hr7
      have B7 : Below w.heap.size w w7 := B3.trans (ho7.below H6.out B3.size)
      have HO7 : Hid (Own w7 w.heap.size 5 (.slice A3 m c3) m t) := Lib.hid (Own.onlyA HO3.out ho7 (fun b hb => by have q1 := HRa.out; exact Own.row_ne HO3.out q1 b hb))
      clear hr7 ho7
      refine hK.out _ _ (k1.out _ B7) (fun hHeld3 => ?_)
      clear hK
      (try simp only [Act.put, List.setIfInBounds_toArray])
      refine wpAnyH_done (by kernel_rfl) ?_ _
      refine NoPanic.normal ?_
      have dr : (r.2 == 0) = false := by rw [hc]; rfl
      have q60 : w7.cell? ⟨h6, 0, none⟩ = some (.int .i64 (V.gen : Int)) := HR7.out.cell 0
      have q61 : w7.cell? ⟨h6, 1, none⟩ = some (.slice A3 m c3) := HR7.out.cell 1
      go_wp2_with (first
        | (go_at_call 39; refine (put_any v V.gen w.heap.size m c3 0 A3 t w7 HO7.out B7.size).mono ?_; rintro e8 w8 ⟨f1, rfl, hf1, hb8⟩; have HF1 := Lib.hid hf1; have B8 : Below w.heap.size w w8 := B7.trans (hb8.mono B7.size); have HR8 := Lib.hid (HR7.out.below hb8 HR7.out.lt); have HO8 := Lib.hid (HO7.out.below hb8); clear hf1)
        | (go_at_call 35; refine (sync_any v 0 w8).mono ?_; rintro e9 w9 ⟨f2, rfl, hf2, hb9⟩; have B9 : Below w.heap.size w w9 := B8.trans (hb9.mono B8.size); have HF2 := Lib.hid (hf2.mono B8.size); have HF19 := Lib.hid (HF1.out.below hb9); have HR9 := Lib.hid (HR8.out.below hb9 HR8.out.lt); have HO9 := Lib.hid (HO8.out.below hb9); clear hf2; obtain ⟨p1, p2, p3, Aq, nq, cq, hp, _⟩ := HF19.out; obtain ⟨p4, p5, hp2, _⟩ := HF2.out; have Hp := Lib.hid (show isFn f1 from ⟨_, _, _, hp⟩); have Hp2 := Lib.hid (show isFn f2 from ⟨_, _, _, hp2⟩); clear hp hp2)
        | ((with_reducible refine wpList_buildF2 rfl (.tmp 25) (.tmp 27) rfl f1 f2 rfl rfl Hp.out Hp2.out ?_))
        | (go_at_call 32; refine (HRun.out f1 f2 w9 B9 HF19.out HF2.out).mono ?_; rintro e10 w10 ⟨rfl, hw10, hoff10, hdn10⟩; have HW10 := Lib.hid hw10; have HO10 := Lib.hid hoff10; have HD10 := Lib.hid hdn10; clear hw10 hoff10 hdn10))
      go_ret
      have B1 : Below w.heap.size w (w9.alloc (.cells #[f1, f2] 73)) := B9.alloc B9.size _
      obtain ⟨F', hw', hT'⟩ := HW10.out
      have hO := HO10.out (by rw [hc]; omega)
      exact ⟨by rw [hc]; rfl, ((Off.of_below B1).trans hO (fun x q => .inl q)).mono (fun _ q => .inr q), F', hw'.first B1.size, hT', .inr (.inl ⟨hc, (HV.out.below B1).off hO HSep.out, fun b q => by
        intro q2
        rcases Foot.within hw' q2 with q2 | q2
        · exact HSep.out b q q2
        · have := HH2.out b q; have := B1.size; omega⟩)⟩
  · skip
    go_enter Tryd.func19, Tryd.ntmps19
    go_wp2_with (go_at_call 37; refine HRf.out.mono ?_; rintro e1 w1 ⟨rfl, rfl⟩)
    have Z0 : Below w.heap.size w w.drew := (Below.refl w.heap.size w).drew
    refine wp_region_noPanic ?_
    refine wp_region_held_drew (S := fun w' => Row w' v 70 #[.pointer (some ⟨g, 0, none⟩), .int .i64 (V.gen : Int), .slice A0 n0 c0, rv, .bool false]) (by kernel_rfl) (k1.out _ Z0) (fun hHeld => ?_)
    refine takeD (i := 0) (some 14) (.pointer (some ⟨v, 0, none⟩)) rfl rfl (by kernel_rfl) (by kernel_rfl) (by kernel_rfl) (fun _ _ _ h => h) (Or.inl ⟨by rfl, fun _ _ => rfl⟩) hHeld ?_
    simp only [Act.put, List.setIfInBounds_toArray, List.set_cons_zero, List.set_cons_succ]
    refine takeD (i := 1) (some 15) (.pointer (some ⟨v, 0, none⟩)) rfl rfl (by kernel_rfl) (by kernel_rfl) (by kernel_rfl) (fun _ _ _ h => h) (yields_nil (by rfl) (.tmp 14) rfl _ rfl) hHeld ?_
    simp only [Act.put, List.setIfInBounds_toArray, List.set_cons_zero, List.set_cons_succ]
    refine takeD (i := 2) (some 16) (.pointer (some ⟨v, 1, none⟩)) rfl rfl (by kernel_rfl) (by kernel_rfl) (by kernel_rfl) (fun _ _ _ h => h) (yields_fldV (by rfl) 70 (.tmp 15) 1 rfl (d := 1) (by decide) (v) 0 _ rfl rfl) hHeld ?_
    simp only [Act.put, List.setIfInBounds_toArray, List.set_cons_zero, List.set_cons_succ]
    refine takeD (i := 3) (some 17) (.pointer (some ⟨v, 1, none⟩)) rfl rfl (by kernel_rfl) (by kernel_rfl) (by kernel_rfl) (fun _ _ _ h => h) (yields_fldV (by rfl) 68 (.tmp 16) 0 rfl (d := 0) (by decide) (v) 1 _ rfl rfl) hHeld ?_
    simp only [Act.put, List.setIfInBounds_toArray, List.set_cons_zero, List.set_cons_succ]
    refine takeD (i := 4) (some 18) (.int .i64 (V.gen : Int)) rfl rfl (by kernel_rfl) (by kernel_rfl) (by kernel_rfl) (fun _ _ _ h => h) (yieldsC (by rfl) 3 (.tmp 17) rfl (by decide) (v) (1) _ rfl (fun _ h => h.cell 1)) hHeld ?_
    simp only [Act.put, List.setIfInBounds_toArray, List.set_cons_zero, List.set_cons_succ]
    refine takeD (i := 5) (some 19) (.slice A m c) rfl rfl (by kernel_rfl) (by kernel_rfl) (by kernel_rfl) (fun _ _ _ h => h) (Or.inl ⟨by rfl, fun _ _ => rfl⟩) hHeld ?_
    simp only [Act.put, List.setIfInBounds_toArray, List.set_cons_zero, List.set_cons_succ]
    refine wpAnyH_ready (rs := [6, 8]) (by kernel_rfl) (by decide) ?_
    refine AllReadyH.cons rfl (fun K' hK => ?_) (AllReadyH.cons rfl (fun K' hK => ?_) AllReadyH.nil)
    · skip
      go_simp
      refine (HCl.out w.drew (HB.out _ Z0)).mono ?_
      rintro e3 w3 ⟨A3, c3, rfl, hc3, hb3, ho3⟩
      have B3 : Below w.heap.size w w3 := Z0.trans (hb3.mono Z0.size)
      have HO3 := Lib.hid (show Own w3 w.heap.size 5 (.slice A3 m c3) m t from ho3.mono Z0.size)
      clear ho3 hc3 hb3
      refine hK.out _ _ (k1.out _ B3) (fun hHeld1 => ?_)
      clear hK
      refine takeD (i := 7) (some 21) (.agg #[.int .i64 (V.gen : Int), .slice A3 m c3]) rfl rfl (by kernel_rfl) (by kernel_rfl) (by kernel_rfl) (fun _ _ _ h => h) (yields_build68 (by rfl) _ _ rfl _ _ _ _ rfl rfl) hHeld1 ?_
      simp only [Act.put, List.setIfInBounds_toArray, List.set_cons_zero, List.set_cons_succ]
      refine wpAnyH_ready (rs := [8]) (by kernel_rfl) (by decide) ?_
      refine AllReadyH.cons rfl (fun K' hK => ?_) AllReadyH.nil
      refine step_of rfl (wp_alloc68 rfl ?_)
      have HRn := Lib.hid (Row.new w3 68 #[.int .i64 0, .slice none 0 0])
      have H6 : Hid (w.heap.size ≤ w3.heap.size) := Lib.hid B3.size
      have B5 : Below w.heap.size w (w3.alloc (.cells #[.int .i64 0, .slice none 0 0] 68)) := B3.alloc B3.size _
      have HOn := Lib.hid (HO3.out.below ((Below.refl w3.heap.size w3).alloc (Nat.le_refl _) (.cells #[.int .i64 0, .slice none 0 0] 68)))
      obtain ⟨h6, hh6⟩ : ∃ h6, w3.heap.size = h6 := ⟨_, rfl⟩
      obtain ⟨w5, hw5⟩ : ∃ w5, w3.alloc (.cells #[.int .i64 0, .slice none 0 0] 68) = w5 := ⟨_, rfl⟩
      rw [hh6, hw5] at HRn
      rw [hw5] at B5
      rw [hh6] at H6
      rw [hw5] at HOn
      rw [hh6, hw5]
      clear hh6 hw5
      refine hK.out _ _ (k1.out _ B5) (fun hHeld2 => ?_)
      clear hK
      (try simp only [List.getElem_toArray, List.getElem_cons_succ, List.getElem_cons_zero, Act.put, List.setIfInBounds_toArray, List.set_cons_zero, List.set_cons_succ])
      refine wpAnyH_ready (rs := [9]) (by kernel_rfl) (by decide) ?_
      refine AllReadyH.cons rfl (fun K' hK => ?_) AllReadyH.nil
      refine step_store_row Tryd.agg68 rfl (.tmp 6) (.tmp 21) rfl h6 #[.int .i64 (V.gen : Int), .slice A3 m c3] rfl rfl 68 #[.int .i64 0, .slice none 0 0] HRn.out (size2 _ _ _ _) (size2 _ _ _ _) (one2 _ _ _ _) ?_
      intro w7 hr7 ho7
      have HR7 := Lib.hid hr7
      have B7 : Below w.heap.size w w7 := B5.trans (ho7.below H6.out B5.size)
      have HO7 : Hid (Own w7 w.heap.size 5 (.slice A3 m c3) m t) := Lib.hid (Own.onlyA HOn.out ho7 (fun b hb => by have q1 := HRn.out; exact Own.row_ne HOn.out q1 b hb))
      clear hr7 ho7
      refine hK.out _ _ (k1.out _ B7) (fun hHeld3 => ?_)
      clear hK
      (try simp only [Act.put, List.setIfInBounds_toArray])
      refine wpAnyH_done (by kernel_rfl) ?_ _
      refine NoPanic.normal ?_
      have dr : (r.2 == 0) = true := by rw [hc]; rfl
      have q60 : w7.cell? ⟨h6, 0, none⟩ = some (.int .i64 (V.gen : Int)) := HR7.out.cell 0
      have q61 : w7.cell? ⟨h6, 1, none⟩ = some (.slice A3 m c3) := HR7.out.cell 1
      go_wp2_with (first
        | (go_at_call 39; refine (put_any v V.gen w.heap.size m c3 0 A3 t w7 HO7.out B7.size).mono ?_; rintro e8 w8 ⟨f1, rfl, hf1, hb8⟩; have HF1 := Lib.hid hf1; have B8 : Below w.heap.size w w8 := B7.trans (hb8.mono B7.size); have HR8 := Lib.hid (HR7.out.below hb8 HR7.out.lt); have HO8 := Lib.hid (HO7.out.below hb8); clear hf1)
        | (go_at_call 35; refine (sync_any v 0 w8).mono ?_; rintro e9 w9 ⟨f2, rfl, hf2, hb9⟩; have B9 : Below w.heap.size w w9 := B8.trans (hb9.mono B8.size); have HF2 := Lib.hid (hf2.mono B8.size); have HF19 := Lib.hid (HF1.out.below hb9); have HR9 := Lib.hid (HR8.out.below hb9 HR8.out.lt); have HO9 := Lib.hid (HO8.out.below hb9); clear hf2; obtain ⟨p1, p2, p3, Aq, nq, cq, hp, _⟩ := HF19.out; obtain ⟨p4, p5, hp2, _⟩ := HF2.out; have Hp := Lib.hid (show isFn f1 from ⟨_, _, _, hp⟩); have Hp2 := Lib.hid (show isFn f2 from ⟨_, _, _, hp2⟩); clear hp hp2)
        | ((with_reducible refine wpList_buildF2 rfl (.tmp 25) (.tmp 27) rfl f1 f2 rfl rfl Hp.out Hp2.out ?_))
        | (go_at_call 32; refine (HRun.out f1 f2 w9 B9 HF19.out HF2.out).mono ?_; rintro e10 w10 ⟨rfl, hw10, hoff10, hdn10⟩; have HW10 := Lib.hid hw10; have HO10 := Lib.hid hoff10; have HD10 := Lib.hid hdn10; clear hw10 hoff10 hdn10))
      have B1 : Below w.heap.size w (w9.alloc (.cells #[f1, f2] 73)) := B9.alloc B9.size _
      have hO := HO10.out (by rw [hc]; omega)
      have BB : Off (Foot g F) w w10 := (Off.of_below B1).trans hO (fun x q => .inl q)
      have hfr : ∀ b, w.heap.size ≤ b → ¬ Foot g F b := fun b q q2 => by have := HT.out.foot q2; omega
      have hb1 : Below w9.heap.size w9 (w9.alloc (.cells #[f1, f2] 73)) := (Below.refl _ _).alloc (Nat.le_refl _) _
      have hh6 : w.heap.size ≤ h6 := H6.out
      have HR10 : Hid (Row w10 h6 68 #[.int .i64 (V.gen : Int), .slice A3 m c3]) := Lib.hid ((HR9.out.below hb1 HR9.out.lt).off hO (hfr _ hh6))
      have HOz : Hid (Own w10 w.heap.size 5 (.slice A3 m c3) m t) := Lib.hid (ownsRow_keep (HO9.out.below hb1) (fun b cs hb hb2 => (hO.block b (Array.getElem?_eq_some_iff.1 hb2).1 (hfr b (HO9.out.lt b hb).1)).trans hb2))
      have hlt9 : ∀ b, (Value.slice A3 m c3).ownBlock = some b → w.heap.size ≤ b ∧ b < w9.heap.size := fun b q => HO9.out.lt b q
      have hVw := (HV.out.off BB HSep.out).mono (H' := fun b => H b ∨ (Value.slice A3 m c3).ownBlock = some b) (fun b q => .inl q) (fun b q => by
        rcases q with q | q
        · exact Nat.lt_of_lt_of_le (HH2.out b q) BB.size
        · have := (hlt9 b q).2; have := hb1.size; have := hO.size; omega)
      obtain ⟨G1, G2, A1, n1, c1, rv1, hrv, hov, hfv, htv⟩ := hVw
      have HRV := Lib.hid hrv
      obtain ⟨B0, m0, d0, rfl, hm0⟩ := Texts.of_row htv
      have HC := Lib.hid (fun wq (hb : Below w10.heap.size w10 wq) => show wq.cell? ⟨v, 3, none⟩ = some (.slice B0 m0 d0) from (HRV.out.below hb HRV.out.lt).cell 3)
      have KP : Hid (∀ wq, Below w10.heap.size w10 wq → Row wq h6 68 #[.int .i64 (V.gen : Int), .slice A3 m c3]) := Lib.hid (fun wq hb => HR10.out.below hb HR10.out.lt)
      have HTx := Lib.hid htv
      have HLt := Lib.hid G2
      have HNr := HRL
      have HTT := Lib.hid (show Own w10 w.heap.size 5 (.slice A3 m c3) t.length t by rw [HTL.out]; exact HOz.out)
      have HAd := Lib.hid (fun A5 c5 (w4 w5 : World) hb hg h5 => Vlt.added (V := V) (w4 := w4) (w5 := w5) (vl' := .slice A5 (V.recs.length + 1) c5) (l := t) G1 G2 hrv hov hfv htv hb hg h5)
      have HhL := Lib.hid HR10.out.lt
      have HhV := Lib.hid (show h6 ≠ v by omega)
      have HhN := Lib.hid (show ∀ b, (Value.slice B0 m0 d0).ownBlock = some b → h6 = b → False from fun b hb e => by
        subst e
        obtain ⟨vs, t1, _⟩ := htv
        obtain ⟨_, cs', q'⟩ := ownsRow_block t1 hb
        exact absurd (cells_inj HR10.out q') (by decide))
      have HBB := Lib.hid BB
      have HHO := Lib.hid hO
      have Hl9 := Lib.hid hlt9
      have Bz : Below w10.heap.size w10 w10 := Below.refl _ _
      clear hrv hov hfv htv G1 G2 BB hO hfr hlt9
      go_wp2_with fail
      have Z0 : Below w10.heap.size w10 w10.drew := (Below.refl w10.heap.size w10).drew
      have B0z : Below w10.heap.size w10 w10.drew := Bz.drew
      refine wp_region_noPanic ?_
      refine wp_region_held_drew (S := fun w' => Row w' (h6) 68 #[.int .i64 (V.gen : Int), .slice A3 m c3]) (by kernel_rfl) (KP.out _ Z0) (fun hHeld => ?_)
      refine takeD (i := 0) (some 32) (.pointer (some ⟨v, 0, none⟩)) rfl rfl (by kernel_rfl) (by kernel_rfl) (by kernel_rfl) (fun _ _ _ h => h) (Or.inl ⟨by rfl, fun _ _ => rfl⟩) hHeld ?_
      simp only [Act.put, List.setIfInBounds_toArray, List.set_cons_zero, List.set_cons_succ]
      refine takeD (i := 1) (some 33) (.pointer (some ⟨v, 0, none⟩)) rfl rfl (by kernel_rfl) (by kernel_rfl) (by kernel_rfl) (fun _ _ _ h => h) (Or.inl ⟨by rfl, fun _ _ => rfl⟩) hHeld ?_
      simp only [Act.put, List.setIfInBounds_toArray, List.set_cons_zero, List.set_cons_succ]
      refine takeD (i := 2) (some 34) (.pointer (some ⟨v, 0, none⟩)) rfl rfl (by kernel_rfl) (by kernel_rfl) (by kernel_rfl) (fun _ _ _ h => h) (yields_nil (by rfl) (.tmp 33) rfl _ rfl) hHeld ?_
      simp only [Act.put, List.setIfInBounds_toArray, List.set_cons_zero, List.set_cons_succ]
      refine takeD (i := 3) (some 35) (.pointer (some ⟨v, 3, none⟩)) rfl rfl (by kernel_rfl) (by kernel_rfl) (by kernel_rfl) (fun _ _ _ h => h) (yields_fldV (by rfl) 70 (.tmp 34) 2 rfl (d := 3) (by decide) (v) 0 _ rfl rfl) hHeld ?_
      simp only [Act.put, List.setIfInBounds_toArray, List.set_cons_zero, List.set_cons_succ]
      refine takeD (i := 5) (some 37) (.pointer (some ⟨h6, 1, none⟩)) rfl rfl (by kernel_rfl) (by kernel_rfl) (by kernel_rfl) (fun _ _ _ h => h) (yields_fldV (by rfl) 68 (.tmp 6) 1 rfl (d := 1) (by decide) (h6) 0 _ rfl rfl) hHeld ?_
      simp only [Act.put, List.setIfInBounds_toArray, List.set_cons_zero, List.set_cons_succ]
      refine takeD (i := 6) (some 38) (.slice A3 m c3) rfl rfl (by kernel_rfl) (by kernel_rfl) (by kernel_rfl) (fun _ _ _ h => h) (yieldsC (by rfl) 32 (.tmp 37) rfl (by decide) (h6) 1 _ rfl (fun _ h => h.cell 1)) hHeld ?_
      simp only [Act.put, List.setIfInBounds_toArray, List.set_cons_zero, List.set_cons_succ]
      refine wpAnyH_ready (rs := [4, 7]) (by kernel_rfl) (by decide) ?_
      refine AllReadyH.cons rfl (fun K' hK => ?_) (AllReadyH.cons rfl (fun K' hK => ?_) AllReadyH.nil)
      · skip
        refine step_of rfl (wp_loadX (.tmp 35) rfl v 3 (.slice B0 m0 d0) rfl (HC.out _ B0z) ?_)
        refine hK.out _ _ (KP.out _ Z0) (fun hHeld1 => ?_)
        clear hK
        simp only [List.getElem_toArray, List.getElem_cons_succ, List.getElem_cons_zero, Act.put, List.setIfInBounds_toArray, List.set_cons_zero, List.set_cons_succ]
        refine wpAnyH_ready (rs := [7]) (by kernel_rfl) (by decide) ?_
        refine AllReadyH.cons rfl (fun K' hK => ?_) AllReadyH.nil
        refine step_of rfl (wp_buildT (.tmp 38) rfl A3 m c3 rfl ?_)
        obtain ⟨w4, hw4⟩ : ∃ w4, w10.drew.alloc (.cells #[.slice A3 m c3] 32) = w4 := ⟨_, rfl⟩
        obtain ⟨g4, hg4⟩ : ∃ g4, w10.drew.heap.size = g4 := ⟨_, rfl⟩
        have HX4 := Lib.hid ((Row.new w10.drew 32 #[.slice A3 m c3]).cell 0)
        have Z4 : Below w10.heap.size w10 w4 := by rw [← hw4]; exact Z0.alloc (Nat.le_refl _) _
        have B4 : Below w10.heap.size w10 w4 := by rw [← hw4]; exact B0z.alloc B0z.size _
        rw [hw4, hg4] at HX4
        rw [hw4, hg4]
        clear hw4 hg4
        refine hK.out _ _ (KP.out _ Z4) (fun hHeld2 => ?_)
        clear hK
        simp only [List.getElem_toArray, List.getElem_cons_succ, List.getElem_cons_zero, Act.put, List.setIfInBounds_toArray, List.set_cons_zero, List.set_cons_succ]
        refine wpAnyH_ready (rs := [8]) (by kernel_rfl) (by decide) ?_
        refine AllReadyH.cons rfl (fun K' hK => ?_) AllReadyH.nil
        refine step_of rfl (wp_appTF (.tmp 36) (.tmp 39) rfl (More (fun b => H b ∨ (Value.slice A3 m c3).ownBlock = some b) w10) (.slice B0 m0 d0) (V.recs.length) (V.recs) rfl ((HTx.out.same (fun b q => B4.block b (HLt.out b q))).mono (fun b q => .inl q)) (.slice A3 m c3) (t) ((HTT.out.below Z4).mono (Nat.zero_le _)) (fun b q => .inl (.inr q)) g4 0 1 rfl HX4.out HNr.out ?_)
        intro A5 c5 w5b h5 hg5
        obtain ⟨S5r, S5v, S5o⟩ := HAd.out A5 c5 w4 w5b B4 hg5 h5
        have HS5r := Lib.hid S5r
        have HS5v := Lib.hid S5v
        have HS5o := Lib.hid S5o
        have KZ5 := Lib.hid (show Row w5b (h6) 68 #[.int .i64 (V.gen : Int), .slice A3 m c3] from (hg5.block _ (Nat.lt_of_lt_of_le HhL.out Z4.size) (fun q => HhN.out _ q.symm rfl)).trans (KP.out _ Z4))
        clear h5 hg5 S5r S5v S5o
        refine hK.out _ _ KZ5.out (fun hHeld3 => ?_)
        clear hK
        simp only [List.getElem_toArray, List.getElem_cons_succ, List.getElem_cons_zero, Act.put, List.setIfInBounds_toArray, List.set_cons_zero, List.set_cons_succ]
        refine takeD (i := 9) (some 41) (.pointer (some ⟨v, 0, none⟩)) rfl rfl (by kernel_rfl) (by kernel_rfl) (by kernel_rfl) (fun _ _ _ h => h) (yields_nil (by rfl) (.tmp 32) rfl _ rfl) hHeld3 ?_
        simp only [Act.put, List.setIfInBounds_toArray, List.set_cons_zero, List.set_cons_succ]
        refine takeD (i := 10) (some 42) (.pointer (some ⟨v, 3, none⟩)) rfl rfl (by kernel_rfl) (by kernel_rfl) (by kernel_rfl) (fun _ _ _ h => h) (yields_fldV (by rfl) 70 (.tmp 41) 2 rfl (d := 3) (by decide) (v) 0 _ rfl rfl) hHeld3 ?_
        simp only [Act.put, List.setIfInBounds_toArray, List.set_cons_zero, List.set_cons_succ]
        refine wpAnyH_ready (rs := [11]) (by kernel_rfl) (by decide) ?_
        refine AllReadyH.cons rfl (fun K' hK => ?_) AllReadyH.nil
        refine step_of rfl (wp_storeX (.tmp 42) (.tmp 40) rfl v 3 A5 (V.recs.length + 1) c5 70 _ rfl rfl HS5r.out (by show 3 < 5; omega) ?_)
        refine hK.out _ _ (KZ5.out.far (by show h6 ≠ v; exact HhV.out) _) (fun hHeld4 => ?_)
        clear hK
        refine wpAnyH_done (by kernel_rfl) ?_ _
        refine NoPanic.normal ?_
        go_wp2_with fail
        go_ret
        obtain ⟨F', hw', hT'⟩ := HW10.out
        obtain ⟨H3, hh3, hv3⟩ := HS5v.out
        have hs9 : w9.heap.size ≤ (w9.alloc (.cells #[f1, f2] 73)).heap.size := by simp
        have hlw := HHO.out.size
        have hsep' : ∀ b, (H b ∨ (Value.slice A3 m c3).ownBlock = some b) → ¬ Foot g F' b := fun b q q2 => by
          rcases Foot.within hw' q2 with q2 | q2
          · rcases q with q | q
            · exact HSep.out b q q2
            · have := HT.out.foot q2; have := (Hl9.out b q).1; omega
          · rcases q with q | q
            · have := HH2.out b q; have := B1.size; omega
            · have := (Hl9.out b q).2; omega
        refine ⟨by rw [hc]; rfl, (HBB.out.mono (fun _ q => Or.inr q)).trans HS5o.out (fun x q => ?_), F', hw'.first B1.size, hT'.outside HS5o.out (fun b q q2 => hsep' b q2 q), .inl ⟨hc, H3, fun b q => ?_, hv3, fun b q q2 => ?_⟩⟩
        · rcases q with q | q
          · exact .inl (.inl q)
          · exact .inr (Hl9.out x q).1
        · rcases hh3 b q with (q | q) | q
          · exact .inl q
          · exact .inr (Hl9.out b q).1
          · exact .inr (Nat.le_trans HBB.out.size q)
        · rcases hh3 b q with q | q
          · exact hsep' b q q2
          · have := hT'.foot q2; omega
      · skip
        refine step_of rfl (wp_buildT (.tmp 38) rfl A3 m c3 rfl ?_)
        obtain ⟨w4, hw4⟩ : ∃ w4, w10.drew.alloc (.cells #[.slice A3 m c3] 32) = w4 := ⟨_, rfl⟩
        obtain ⟨g4, hg4⟩ : ∃ g4, w10.drew.heap.size = g4 := ⟨_, rfl⟩
        have HX4 := Lib.hid ((Row.new w10.drew 32 #[.slice A3 m c3]).cell 0)
        have Z4 : Below w10.heap.size w10 w4 := by rw [← hw4]; exact Z0.alloc (Nat.le_refl _) _
        have B4 : Below w10.heap.size w10 w4 := by rw [← hw4]; exact B0z.alloc B0z.size _
        rw [hw4, hg4] at HX4
        rw [hw4, hg4]
        clear hw4 hg4
        refine hK.out _ _ (KP.out _ Z4) (fun hHeld5 => ?_)
        clear hK
        simp only [List.getElem_toArray, List.getElem_cons_succ, List.getElem_cons_zero, Act.put, List.setIfInBounds_toArray, List.set_cons_zero, List.set_cons_succ]
        refine wpAnyH_ready (rs := [4]) (by kernel_rfl) (by decide) ?_
        refine AllReadyH.cons rfl (fun K' hK => ?_) AllReadyH.nil
        refine step_of rfl (wp_loadX (.tmp 35) rfl v 3 (.slice B0 m0 d0) rfl (HC.out _ B4) ?_)
        refine hK.out _ _ (KP.out _ Z4) (fun hHeld6 => ?_)
        clear hK
        simp only [List.getElem_toArray, List.getElem_cons_succ, List.getElem_cons_zero, Act.put, List.setIfInBounds_toArray, List.set_cons_zero, List.set_cons_succ]
        refine wpAnyH_ready (rs := [8]) (by kernel_rfl) (by decide) ?_
        refine AllReadyH.cons rfl (fun K' hK => ?_) AllReadyH.nil
        refine step_of rfl (wp_appTF (.tmp 36) (.tmp 39) rfl (More (fun b => H b ∨ (Value.slice A3 m c3).ownBlock = some b) w10) (.slice B0 m0 d0) (V.recs.length) (V.recs) rfl ((HTx.out.same (fun b q => B4.block b (HLt.out b q))).mono (fun b q => .inl q)) (.slice A3 m c3) (t) ((HTT.out.below Z4).mono (Nat.zero_le _)) (fun b q => .inl (.inr q)) g4 0 1 rfl HX4.out HNr.out ?_)
        intro A5 c5 w5b h5 hg5
        obtain ⟨S5r, S5v, S5o⟩ := HAd.out A5 c5 w4 w5b B4 hg5 h5
        have HS5r := Lib.hid S5r
        have HS5v := Lib.hid S5v
        have HS5o := Lib.hid S5o
        have KZ5 := Lib.hid (show Row w5b (h6) 68 #[.int .i64 (V.gen : Int), .slice A3 m c3] from (hg5.block _ (Nat.lt_of_lt_of_le HhL.out Z4.size) (fun q => HhN.out _ q.symm rfl)).trans (KP.out _ Z4))
        clear h5 hg5 S5r S5v S5o
        refine hK.out _ _ KZ5.out (fun hHeld7 => ?_)
        clear hK
        simp only [List.getElem_toArray, List.getElem_cons_succ, List.getElem_cons_zero, Act.put, List.setIfInBounds_toArray, List.set_cons_zero, List.set_cons_succ]
        refine takeD (i := 9) (some 41) (.pointer (some ⟨v, 0, none⟩)) rfl rfl (by kernel_rfl) (by kernel_rfl) (by kernel_rfl) (fun _ _ _ h => h) (yields_nil (by rfl) (.tmp 32) rfl _ rfl) hHeld7 ?_
        simp only [Act.put, List.setIfInBounds_toArray, List.set_cons_zero, List.set_cons_succ]
        refine takeD (i := 10) (some 42) (.pointer (some ⟨v, 3, none⟩)) rfl rfl (by kernel_rfl) (by kernel_rfl) (by kernel_rfl) (fun _ _ _ h => h) (yields_fldV (by rfl) 70 (.tmp 41) 2 rfl (d := 3) (by decide) (v) 0 _ rfl rfl) hHeld7 ?_
        simp only [Act.put, List.setIfInBounds_toArray, List.set_cons_zero, List.set_cons_succ]
        refine wpAnyH_ready (rs := [11]) (by kernel_rfl) (by decide) ?_
        refine AllReadyH.cons rfl (fun K' hK => ?_) AllReadyH.nil
        refine step_of rfl (wp_storeX (.tmp 42) (.tmp 40) rfl v 3 A5 (V.recs.length + 1) c5 70 _ rfl rfl HS5r.out (by show 3 < 5; omega) ?_)
        refine hK.out _ _ (KZ5.out.far (by show h6 ≠ v; exact HhV.out) _) (fun hHeld8 => ?_)
        clear hK
        refine wpAnyH_done (by kernel_rfl) ?_ _
        refine NoPanic.normal ?_
        go_wp2_with fail
        go_ret
        obtain ⟨F', hw', hT'⟩ := HW10.out
        obtain ⟨H3, hh3, hv3⟩ := HS5v.out
        have hs9 : w9.heap.size ≤ (w9.alloc (.cells #[f1, f2] 73)).heap.size := by simp
        have hlw := HHO.out.size
        have hsep' : ∀ b, (H b ∨ (Value.slice A3 m c3).ownBlock = some b) → ¬ Foot g F' b := fun b q q2 => by
          rcases Foot.within hw' q2 with q2 | q2
          · rcases q with q | q
            · exact HSep.out b q q2
            · have := HT.out.foot q2; have := (Hl9.out b q).1; omega
          · rcases q with q | q
            · have := HH2.out b q; have := B1.size; omega
            · have := (Hl9.out b q).2; omega
        refine ⟨by rw [hc]; rfl, (HBB.out.mono (fun _ q => Or.inr q)).trans HS5o.out (fun x q => ?_), F', hw'.first B1.size, hT'.outside HS5o.out (fun b q q2 => hsep' b q2 q), .inl ⟨hc, H3, fun b q => ?_, hv3, fun b q q2 => ?_⟩⟩
        · rcases q with q | q
          · exact .inl (.inl q)
          · exact .inr (Hl9.out x q).1
        · rcases hh3 b q with (q | q) | q
          · exact .inl q
          · exact .inr (Hl9.out b q).1
          · exact .inr (Nat.le_trans HBB.out.size q)
        · rcases hh3 b q with q | q
          · exact hsep' b q q2
          · have := hT'.foot q2; omega
    · skip
      refine step_of rfl (wp_alloc68 rfl ?_)
      have HRn := Lib.hid (Row.new w.drew 68 #[.int .i64 0, .slice none 0 0])
      have H6 : Hid (w.heap.size ≤ w.drew.heap.size) := Lib.hid Z0.size
      have B5 : Below w.heap.size w (w.drew.alloc (.cells #[.int .i64 0, .slice none 0 0] 68)) := Z0.alloc Z0.size _
      obtain ⟨h6, hh6⟩ : ∃ h6, w.drew.heap.size = h6 := ⟨_, rfl⟩
      obtain ⟨w5, hw5⟩ : ∃ w5, w.drew.alloc (.cells #[.int .i64 0, .slice none 0 0] 68) = w5 := ⟨_, rfl⟩
      rw [hh6, hw5] at HRn
      rw [hw5] at B5
      rw [hh6] at H6
      rw [hh6, hw5]
      clear hh6 hw5
      refine hK.out _ _ (k1.out _ B5) (fun hHeld1 => ?_)
      clear hK
      (try simp only [List.getElem_toArray, List.getElem_cons_succ, List.getElem_cons_zero, Act.put, List.setIfInBounds_toArray, List.set_cons_zero, List.set_cons_succ])
      refine wpAnyH_ready (rs := [6]) (by kernel_rfl) (by decide) ?_
      refine AllReadyH.cons rfl (fun K' hK => ?_) AllReadyH.nil
      go_simp
      refine (HCl.out w5 (HB.out _ B5)).mono ?_
      rintro e3 w3 ⟨A3, c3, rfl, hc3, hb3, ho3⟩
      have B3 : Below w.heap.size w w3 := B5.trans (hb3.mono B5.size)
      have HO3 := Lib.hid (show Own w3 w.heap.size 5 (.slice A3 m c3) m t from ho3.mono B5.size)
      have HRa := Lib.hid (HRn.out.below hb3 HRn.out.lt)
      clear ho3 hc3 hb3
      refine hK.out _ _ (k1.out _ B3) (fun hHeld2 => ?_)
      clear hK
      refine takeD (i := 7) (some 21) (.agg #[.int .i64 (V.gen : Int), .slice A3 m c3]) rfl rfl (by kernel_rfl) (by kernel_rfl) (by kernel_rfl) (fun _ _ _ h => h) (yields_build68 (by rfl) _ _ rfl _ _ _ _ rfl rfl) hHeld2 ?_
      simp only [Act.put, List.setIfInBounds_toArray, List.set_cons_zero, List.set_cons_succ]
      refine wpAnyH_ready (rs := [9]) (by kernel_rfl) (by decide) ?_
      refine AllReadyH.cons rfl (fun K' hK => ?_) AllReadyH.nil
      refine step_store_row Tryd.agg68 rfl (.tmp 6) (.tmp 21) rfl h6 #[.int .i64 (V.gen : Int), .slice A3 m c3] rfl rfl 68 #[.int .i64 0, .slice none 0 0] HRa.out (size2 _ _ _ _) (size2 _ _ _ _) (one2 _ _ _ _) ?_
      intro w7 hr7 ho7
      have HR7 := Lib.hid hr7
      have B7 : Below w.heap.size w w7 := B3.trans (ho7.below H6.out B3.size)
      have HO7 : Hid (Own w7 w.heap.size 5 (.slice A3 m c3) m t) := Lib.hid (Own.onlyA HO3.out ho7 (fun b hb => by have q1 := HRa.out; exact Own.row_ne HO3.out q1 b hb))
      clear hr7 ho7
      refine hK.out _ _ (k1.out _ B7) (fun hHeld3 => ?_)
      clear hK
      (try simp only [Act.put, List.setIfInBounds_toArray])
      refine wpAnyH_done (by kernel_rfl) ?_ _
      refine NoPanic.normal ?_
      have dr : (r.2 == 0) = true := by rw [hc]; rfl
      have q60 : w7.cell? ⟨h6, 0, none⟩ = some (.int .i64 (V.gen : Int)) := HR7.out.cell 0
      have q61 : w7.cell? ⟨h6, 1, none⟩ = some (.slice A3 m c3) := HR7.out.cell 1
      go_wp2_with (first
        | (go_at_call 39; refine (put_any v V.gen w.heap.size m c3 0 A3 t w7 HO7.out B7.size).mono ?_; rintro e8 w8 ⟨f1, rfl, hf1, hb8⟩; have HF1 := Lib.hid hf1; have B8 : Below w.heap.size w w8 := B7.trans (hb8.mono B7.size); have HR8 := Lib.hid (HR7.out.below hb8 HR7.out.lt); have HO8 := Lib.hid (HO7.out.below hb8); clear hf1)
        | (go_at_call 35; refine (sync_any v 0 w8).mono ?_; rintro e9 w9 ⟨f2, rfl, hf2, hb9⟩; have B9 : Below w.heap.size w w9 := B8.trans (hb9.mono B8.size); have HF2 := Lib.hid (hf2.mono B8.size); have HF19 := Lib.hid (HF1.out.below hb9); have HR9 := Lib.hid (HR8.out.below hb9 HR8.out.lt); have HO9 := Lib.hid (HO8.out.below hb9); clear hf2; obtain ⟨p1, p2, p3, Aq, nq, cq, hp, _⟩ := HF19.out; obtain ⟨p4, p5, hp2, _⟩ := HF2.out; have Hp := Lib.hid (show isFn f1 from ⟨_, _, _, hp⟩); have Hp2 := Lib.hid (show isFn f2 from ⟨_, _, _, hp2⟩); clear hp hp2)
        | ((with_reducible refine wpList_buildF2 rfl (.tmp 25) (.tmp 27) rfl f1 f2 rfl rfl Hp.out Hp2.out ?_))
        | (go_at_call 32; refine (HRun.out f1 f2 w9 B9 HF19.out HF2.out).mono ?_; rintro e10 w10 ⟨rfl, hw10, hoff10, hdn10⟩; have HW10 := Lib.hid hw10; have HO10 := Lib.hid hoff10; have HD10 := Lib.hid hdn10; clear hw10 hoff10 hdn10))
      have B1 : Below w.heap.size w (w9.alloc (.cells #[f1, f2] 73)) := B9.alloc B9.size _
      have hO := HO10.out (by rw [hc]; omega)
      have BB : Off (Foot g F) w w10 := (Off.of_below B1).trans hO (fun x q => .inl q)
      have hfr : ∀ b, w.heap.size ≤ b → ¬ Foot g F b := fun b q q2 => by have := HT.out.foot q2; omega
      have hb1 : Below w9.heap.size w9 (w9.alloc (.cells #[f1, f2] 73)) := (Below.refl _ _).alloc (Nat.le_refl _) _
      have hh6 : w.heap.size ≤ h6 := H6.out
      have HR10 : Hid (Row w10 h6 68 #[.int .i64 (V.gen : Int), .slice A3 m c3]) := Lib.hid ((HR9.out.below hb1 HR9.out.lt).off hO (hfr _ hh6))
      have HOz : Hid (Own w10 w.heap.size 5 (.slice A3 m c3) m t) := Lib.hid (ownsRow_keep (HO9.out.below hb1) (fun b cs hb hb2 => (hO.block b (Array.getElem?_eq_some_iff.1 hb2).1 (hfr b (HO9.out.lt b hb).1)).trans hb2))
      have hlt9 : ∀ b, (Value.slice A3 m c3).ownBlock = some b → w.heap.size ≤ b ∧ b < w9.heap.size := fun b q => HO9.out.lt b q
      have hVw := (HV.out.off BB HSep.out).mono (H' := fun b => H b ∨ (Value.slice A3 m c3).ownBlock = some b) (fun b q => .inl q) (fun b q => by
        rcases q with q | q
        · exact Nat.lt_of_lt_of_le (HH2.out b q) BB.size
        · have := (hlt9 b q).2; have := hb1.size; have := hO.size; omega)
      obtain ⟨G1, G2, A1, n1, c1, rv1, hrv, hov, hfv, htv⟩ := hVw
      have HRV := Lib.hid hrv
      obtain ⟨B0, m0, d0, rfl, hm0⟩ := Texts.of_row htv
      have HC := Lib.hid (fun wq (hb : Below w10.heap.size w10 wq) => show wq.cell? ⟨v, 3, none⟩ = some (.slice B0 m0 d0) from (HRV.out.below hb HRV.out.lt).cell 3)
      have KP : Hid (∀ wq, Below w10.heap.size w10 wq → Row wq h6 68 #[.int .i64 (V.gen : Int), .slice A3 m c3]) := Lib.hid (fun wq hb => HR10.out.below hb HR10.out.lt)
      have HTx := Lib.hid htv
      have HLt := Lib.hid G2
      have HNr := HRL
      have HTT := Lib.hid (show Own w10 w.heap.size 5 (.slice A3 m c3) t.length t by rw [HTL.out]; exact HOz.out)
      have HAd := Lib.hid (fun A5 c5 (w4 w5 : World) hb hg h5 => Vlt.added (V := V) (w4 := w4) (w5 := w5) (vl' := .slice A5 (V.recs.length + 1) c5) (l := t) G1 G2 hrv hov hfv htv hb hg h5)
      have HhL := Lib.hid HR10.out.lt
      have HhV := Lib.hid (show h6 ≠ v by omega)
      have HhN := Lib.hid (show ∀ b, (Value.slice B0 m0 d0).ownBlock = some b → h6 = b → False from fun b hb e => by
        subst e
        obtain ⟨vs, t1, _⟩ := htv
        obtain ⟨_, cs', q'⟩ := ownsRow_block t1 hb
        exact absurd (cells_inj HR10.out q') (by decide))
      have HBB := Lib.hid BB
      have HHO := Lib.hid hO
      have Hl9 := Lib.hid hlt9
      have Bz : Below w10.heap.size w10 w10 := Below.refl _ _
      clear hrv hov hfv htv G1 G2 BB hO hfr hlt9
      go_wp2_with fail
      have Z0 : Below w10.heap.size w10 w10.drew := (Below.refl w10.heap.size w10).drew
      have B0z : Below w10.heap.size w10 w10.drew := Bz.drew
      refine wp_region_noPanic ?_
      refine wp_region_held_drew (S := fun w' => Row w' (h6) 68 #[.int .i64 (V.gen : Int), .slice A3 m c3]) (by kernel_rfl) (KP.out _ Z0) (fun hHeld => ?_)
      refine takeD (i := 0) (some 32) (.pointer (some ⟨v, 0, none⟩)) rfl rfl (by kernel_rfl) (by kernel_rfl) (by kernel_rfl) (fun _ _ _ h => h) (Or.inl ⟨by rfl, fun _ _ => rfl⟩) hHeld ?_
      simp only [Act.put, List.setIfInBounds_toArray, List.set_cons_zero, List.set_cons_succ]
      refine takeD (i := 1) (some 33) (.pointer (some ⟨v, 0, none⟩)) rfl rfl (by kernel_rfl) (by kernel_rfl) (by kernel_rfl) (fun _ _ _ h => h) (Or.inl ⟨by rfl, fun _ _ => rfl⟩) hHeld ?_
      simp only [Act.put, List.setIfInBounds_toArray, List.set_cons_zero, List.set_cons_succ]
      refine takeD (i := 2) (some 34) (.pointer (some ⟨v, 0, none⟩)) rfl rfl (by kernel_rfl) (by kernel_rfl) (by kernel_rfl) (fun _ _ _ h => h) (yields_nil (by rfl) (.tmp 33) rfl _ rfl) hHeld ?_
      simp only [Act.put, List.setIfInBounds_toArray, List.set_cons_zero, List.set_cons_succ]
      refine takeD (i := 3) (some 35) (.pointer (some ⟨v, 3, none⟩)) rfl rfl (by kernel_rfl) (by kernel_rfl) (by kernel_rfl) (fun _ _ _ h => h) (yields_fldV (by rfl) 70 (.tmp 34) 2 rfl (d := 3) (by decide) (v) 0 _ rfl rfl) hHeld ?_
      simp only [Act.put, List.setIfInBounds_toArray, List.set_cons_zero, List.set_cons_succ]
      refine takeD (i := 5) (some 37) (.pointer (some ⟨h6, 1, none⟩)) rfl rfl (by kernel_rfl) (by kernel_rfl) (by kernel_rfl) (fun _ _ _ h => h) (yields_fldV (by rfl) 68 (.tmp 6) 1 rfl (d := 1) (by decide) (h6) 0 _ rfl rfl) hHeld ?_
      simp only [Act.put, List.setIfInBounds_toArray, List.set_cons_zero, List.set_cons_succ]
      refine takeD (i := 6) (some 38) (.slice A3 m c3) rfl rfl (by kernel_rfl) (by kernel_rfl) (by kernel_rfl) (fun _ _ _ h => h) (yieldsC (by rfl) 32 (.tmp 37) rfl (by decide) (h6) 1 _ rfl (fun _ h => h.cell 1)) hHeld ?_
      simp only [Act.put, List.setIfInBounds_toArray, List.set_cons_zero, List.set_cons_succ]
      refine wpAnyH_ready (rs := [4, 7]) (by kernel_rfl) (by decide) ?_
      refine AllReadyH.cons rfl (fun K' hK => ?_) (AllReadyH.cons rfl (fun K' hK => ?_) AllReadyH.nil)
      · skip
        refine step_of rfl (wp_loadX (.tmp 35) rfl v 3 (.slice B0 m0 d0) rfl (HC.out _ B0z) ?_)
        refine hK.out _ _ (KP.out _ Z0) (fun hHeld1 => ?_)
        clear hK
        simp only [List.getElem_toArray, List.getElem_cons_succ, List.getElem_cons_zero, Act.put, List.setIfInBounds_toArray, List.set_cons_zero, List.set_cons_succ]
        refine wpAnyH_ready (rs := [7]) (by kernel_rfl) (by decide) ?_
        refine AllReadyH.cons rfl (fun K' hK => ?_) AllReadyH.nil
        refine step_of rfl (wp_buildT (.tmp 38) rfl A3 m c3 rfl ?_)
        obtain ⟨w4, hw4⟩ : ∃ w4, w10.drew.alloc (.cells #[.slice A3 m c3] 32) = w4 := ⟨_, rfl⟩
        obtain ⟨g4, hg4⟩ : ∃ g4, w10.drew.heap.size = g4 := ⟨_, rfl⟩
        have HX4 := Lib.hid ((Row.new w10.drew 32 #[.slice A3 m c3]).cell 0)
        have Z4 : Below w10.heap.size w10 w4 := by rw [← hw4]; exact Z0.alloc (Nat.le_refl _) _
        have B4 : Below w10.heap.size w10 w4 := by rw [← hw4]; exact B0z.alloc B0z.size _
        rw [hw4, hg4] at HX4
        rw [hw4, hg4]
        clear hw4 hg4
        refine hK.out _ _ (KP.out _ Z4) (fun hHeld2 => ?_)
        clear hK
        simp only [List.getElem_toArray, List.getElem_cons_succ, List.getElem_cons_zero, Act.put, List.setIfInBounds_toArray, List.set_cons_zero, List.set_cons_succ]
        refine wpAnyH_ready (rs := [8]) (by kernel_rfl) (by decide) ?_
        refine AllReadyH.cons rfl (fun K' hK => ?_) AllReadyH.nil
        refine step_of rfl (wp_appTF (.tmp 36) (.tmp 39) rfl (More (fun b => H b ∨ (Value.slice A3 m c3).ownBlock = some b) w10) (.slice B0 m0 d0) (V.recs.length) (V.recs) rfl ((HTx.out.same (fun b q => B4.block b (HLt.out b q))).mono (fun b q => .inl q)) (.slice A3 m c3) (t) ((HTT.out.below Z4).mono (Nat.zero_le _)) (fun b q => .inl (.inr q)) g4 0 1 rfl HX4.out HNr.out ?_)
        intro A5 c5 w5b h5 hg5
        obtain ⟨S5r, S5v, S5o⟩ := HAd.out A5 c5 w4 w5b B4 hg5 h5
        have HS5r := Lib.hid S5r
        have HS5v := Lib.hid S5v
        have HS5o := Lib.hid S5o
        have KZ5 := Lib.hid (show Row w5b (h6) 68 #[.int .i64 (V.gen : Int), .slice A3 m c3] from (hg5.block _ (Nat.lt_of_lt_of_le HhL.out Z4.size) (fun q => HhN.out _ q.symm rfl)).trans (KP.out _ Z4))
        clear h5 hg5 S5r S5v S5o
        refine hK.out _ _ KZ5.out (fun hHeld3 => ?_)
        clear hK
        simp only [List.getElem_toArray, List.getElem_cons_succ, List.getElem_cons_zero, Act.put, List.setIfInBounds_toArray, List.set_cons_zero, List.set_cons_succ]
        refine takeD (i := 9) (some 41) (.pointer (some ⟨v, 0, none⟩)) rfl rfl (by kernel_rfl) (by kernel_rfl) (by kernel_rfl) (fun _ _ _ h => h) (yields_nil (by rfl) (.tmp 32) rfl _ rfl) hHeld3 ?_
        simp only [Act.put, List.setIfInBounds_toArray, List.set_cons_zero, List.set_cons_succ]
        refine takeD (i := 10) (some 42) (.pointer (some ⟨v, 3, none⟩)) rfl rfl (by kernel_rfl) (by kernel_rfl) (by kernel_rfl) (fun _ _ _ h => h) (yields_fldV (by rfl) 70 (.tmp 41) 2 rfl (d := 3) (by decide) (v) 0 _ rfl rfl) hHeld3 ?_
        simp only [Act.put, List.setIfInBounds_toArray, List.set_cons_zero, List.set_cons_succ]
        refine wpAnyH_ready (rs := [11]) (by kernel_rfl) (by decide) ?_
        refine AllReadyH.cons rfl (fun K' hK => ?_) AllReadyH.nil
        refine step_of rfl (wp_storeX (.tmp 42) (.tmp 40) rfl v 3 A5 (V.recs.length + 1) c5 70 _ rfl rfl HS5r.out (by show 3 < 5; omega) ?_)
        refine hK.out _ _ (KZ5.out.far (by show h6 ≠ v; exact HhV.out) _) (fun hHeld4 => ?_)
        clear hK
        refine wpAnyH_done (by kernel_rfl) ?_ _
        refine NoPanic.normal ?_
        go_wp2_with fail
        go_ret
        obtain ⟨F', hw', hT'⟩ := HW10.out
        obtain ⟨H3, hh3, hv3⟩ := HS5v.out
        have hs9 : w9.heap.size ≤ (w9.alloc (.cells #[f1, f2] 73)).heap.size := by simp
        have hlw := HHO.out.size
        have hsep' : ∀ b, (H b ∨ (Value.slice A3 m c3).ownBlock = some b) → ¬ Foot g F' b := fun b q q2 => by
          rcases Foot.within hw' q2 with q2 | q2
          · rcases q with q | q
            · exact HSep.out b q q2
            · have := HT.out.foot q2; have := (Hl9.out b q).1; omega
          · rcases q with q | q
            · have := HH2.out b q; have := B1.size; omega
            · have := (Hl9.out b q).2; omega
        refine ⟨by rw [hc]; rfl, (HBB.out.mono (fun _ q => Or.inr q)).trans HS5o.out (fun x q => ?_), F', hw'.first B1.size, hT'.outside HS5o.out (fun b q q2 => hsep' b q2 q), .inl ⟨hc, H3, fun b q => ?_, hv3, fun b q q2 => ?_⟩⟩
        · rcases q with q | q
          · exact .inl (.inl q)
          · exact .inr (Hl9.out x q).1
        · rcases hh3 b q with (q | q) | q
          · exact .inl q
          · exact .inr (Hl9.out b q).1
          · exact .inr (Nat.le_trans HBB.out.size q)
        · rcases hh3 b q with q | q
          · exact hsep' b q q2
          · have := hT'.foot q2; omega
      · skip
        refine step_of rfl (wp_buildT (.tmp 38) rfl A3 m c3 rfl ?_)
        obtain ⟨w4, hw4⟩ : ∃ w4, w10.drew.alloc (.cells #[.slice A3 m c3] 32) = w4 := ⟨_, rfl⟩
        obtain ⟨g4, hg4⟩ : ∃ g4, w10.drew.heap.size = g4 := ⟨_, rfl⟩
        have HX4 := Lib.hid ((Row.new w10.drew 32 #[.slice A3 m c3]).cell 0)
        have Z4 : Below w10.heap.size w10 w4 := by rw [← hw4]; exact Z0.alloc (Nat.le_refl _) _
        have B4 : Below w10.heap.size w10 w4 := by rw [← hw4]; exact B0z.alloc B0z.size _
        rw [hw4, hg4] at HX4
        rw [hw4, hg4]
        clear hw4 hg4
        refine hK.out _ _ (KP.out _ Z4) (fun hHeld5 => ?_)
        clear hK
        simp only [List.getElem_toArray, List.getElem_cons_succ, List.getElem_cons_zero, Act.put, List.setIfInBounds_toArray, List.set_cons_zero, List.set_cons_succ]
        refine wpAnyH_ready (rs := [4]) (by kernel_rfl) (by decide) ?_
        refine AllReadyH.cons rfl (fun K' hK => ?_) AllReadyH.nil
        refine step_of rfl (wp_loadX (.tmp 35) rfl v 3 (.slice B0 m0 d0) rfl (HC.out _ B4) ?_)
        refine hK.out _ _ (KP.out _ Z4) (fun hHeld6 => ?_)
        clear hK
        simp only [List.getElem_toArray, List.getElem_cons_succ, List.getElem_cons_zero, Act.put, List.setIfInBounds_toArray, List.set_cons_zero, List.set_cons_succ]
        refine wpAnyH_ready (rs := [8]) (by kernel_rfl) (by decide) ?_
        refine AllReadyH.cons rfl (fun K' hK => ?_) AllReadyH.nil
        refine step_of rfl (wp_appTF (.tmp 36) (.tmp 39) rfl (More (fun b => H b ∨ (Value.slice A3 m c3).ownBlock = some b) w10) (.slice B0 m0 d0) (V.recs.length) (V.recs) rfl ((HTx.out.same (fun b q => B4.block b (HLt.out b q))).mono (fun b q => .inl q)) (.slice A3 m c3) (t) ((HTT.out.below Z4).mono (Nat.zero_le _)) (fun b q => .inl (.inr q)) g4 0 1 rfl HX4.out HNr.out ?_)
        intro A5 c5 w5b h5 hg5
        obtain ⟨S5r, S5v, S5o⟩ := HAd.out A5 c5 w4 w5b B4 hg5 h5
        have HS5r := Lib.hid S5r
        have HS5v := Lib.hid S5v
        have HS5o := Lib.hid S5o
        have KZ5 := Lib.hid (show Row w5b (h6) 68 #[.int .i64 (V.gen : Int), .slice A3 m c3] from (hg5.block _ (Nat.lt_of_lt_of_le HhL.out Z4.size) (fun q => HhN.out _ q.symm rfl)).trans (KP.out _ Z4))
        clear h5 hg5 S5r S5v S5o
        refine hK.out _ _ KZ5.out (fun hHeld7 => ?_)
        clear hK
        simp only [List.getElem_toArray, List.getElem_cons_succ, List.getElem_cons_zero, Act.put, List.setIfInBounds_toArray, List.set_cons_zero, List.set_cons_succ]
        refine takeD (i := 9) (some 41) (.pointer (some ⟨v, 0, none⟩)) rfl rfl (by kernel_rfl) (by kernel_rfl) (by kernel_rfl) (fun _ _ _ h => h) (yields_nil (by rfl) (.tmp 32) rfl _ rfl) hHeld7 ?_
        simp only [Act.put, List.setIfInBounds_toArray, List.set_cons_zero, List.set_cons_succ]
        refine takeD (i := 10) (some 42) (.pointer (some ⟨v, 3, none⟩)) rfl rfl (by kernel_rfl) (by kernel_rfl) (by kernel_rfl) (fun _ _ _ h => h) (yields_fldV (by rfl) 70 (.tmp 41) 2 rfl (d := 3) (by decide) (v) 0 _ rfl rfl) hHeld7 ?_
        simp only [Act.put, List.setIfInBounds_toArray, List.set_cons_zero, List.set_cons_succ]
        refine wpAnyH_ready (rs := [11]) (by kernel_rfl) (by decide) ?_
        refine AllReadyH.cons rfl (fun K' hK => ?_) AllReadyH.nil
        refine step_of rfl (wp_storeX (.tmp 42) (.tmp 40) rfl v 3 A5 (V.recs.length + 1) c5 70 _ rfl rfl HS5r.out (by show 3 < 5; omega) ?_)
        refine hK.out _ _ (KZ5.out.far (by show h6 ≠ v; exact HhV.out) _) (fun hHeld8 => ?_)
        clear hK
        refine wpAnyH_done (by kernel_rfl) ?_ _
        refine NoPanic.normal ?_
        go_wp2_with fail
        go_ret
        obtain ⟨F', hw', hT'⟩ := HW10.out
        obtain ⟨H3, hh3, hv3⟩ := HS5v.out
        have hs9 : w9.heap.size ≤ (w9.alloc (.cells #[f1, f2] 73)).heap.size := by simp
        have hlw := HHO.out.size
        have hsep' : ∀ b, (H b ∨ (Value.slice A3 m c3).ownBlock = some b) → ¬ Foot g F' b := fun b q q2 => by
          rcases Foot.within hw' q2 with q2 | q2
          · rcases q with q | q
            · exact HSep.out b q q2
            · have := HT.out.foot q2; have := (Hl9.out b q).1; omega
          · rcases q with q | q
            · have := HH2.out b q; have := B1.size; omega
            · have := (Hl9.out b q).2; omega
        refine ⟨by rw [hc]; rfl, (HBB.out.mono (fun _ q => Or.inr q)).trans HS5o.out (fun x q => ?_), F', hw'.first B1.size, hT'.outside HS5o.out (fun b q q2 => hsep' b q2 q), .inl ⟨hc, H3, fun b q => ?_, hv3, fun b q q2 => ?_⟩⟩
        · rcases q with q | q
          · exact .inl (.inl q)
          · exact .inr (Hl9.out x q).1
        · rcases hh3 b q with (q | q) | q
          · exact .inl q
          · exact .inr (Hl9.out b q).1
          · exact .inr (Nat.le_trans HBB.out.size q)
        · rcases hh3 b q with q | q
          · exact hsep' b q q2
          · have := hT'.foot q2; omega
  · skip
    go_enter Tryd.func19, Tryd.ntmps19
    go_wp2_with (go_at_call 37; refine HRf.out.mono ?_; rintro e1 w1 ⟨rfl, rfl⟩)
    have Z0 : Below w.heap.size w w.drew := (Below.refl w.heap.size w).drew
    refine wp_region_noPanic ?_
    refine wp_region_held_drew (S := fun w' => Row w' v 70 #[.pointer (some ⟨g, 0, none⟩), .int .i64 (V.gen : Int), .slice A0 n0 c0, rv, .bool false]) (by kernel_rfl) (k1.out _ Z0) (fun hHeld => ?_)
    refine takeD (i := 0) (some 14) (.pointer (some ⟨v, 0, none⟩)) rfl rfl (by kernel_rfl) (by kernel_rfl) (by kernel_rfl) (fun _ _ _ h => h) (Or.inl ⟨by rfl, fun _ _ => rfl⟩) hHeld ?_
    simp only [Act.put, List.setIfInBounds_toArray, List.set_cons_zero, List.set_cons_succ]
    refine takeD (i := 1) (some 15) (.pointer (some ⟨v, 0, none⟩)) rfl rfl (by kernel_rfl) (by kernel_rfl) (by kernel_rfl) (fun _ _ _ h => h) (yields_nil (by rfl) (.tmp 14) rfl _ rfl) hHeld ?_
    simp only [Act.put, List.setIfInBounds_toArray, List.set_cons_zero, List.set_cons_succ]
    refine takeD (i := 2) (some 16) (.pointer (some ⟨v, 1, none⟩)) rfl rfl (by kernel_rfl) (by kernel_rfl) (by kernel_rfl) (fun _ _ _ h => h) (yields_fldV (by rfl) 70 (.tmp 15) 1 rfl (d := 1) (by decide) (v) 0 _ rfl rfl) hHeld ?_
    simp only [Act.put, List.setIfInBounds_toArray, List.set_cons_zero, List.set_cons_succ]
    refine takeD (i := 3) (some 17) (.pointer (some ⟨v, 1, none⟩)) rfl rfl (by kernel_rfl) (by kernel_rfl) (by kernel_rfl) (fun _ _ _ h => h) (yields_fldV (by rfl) 68 (.tmp 16) 0 rfl (d := 0) (by decide) (v) 1 _ rfl rfl) hHeld ?_
    simp only [Act.put, List.setIfInBounds_toArray, List.set_cons_zero, List.set_cons_succ]
    refine takeD (i := 4) (some 18) (.int .i64 (V.gen : Int)) rfl rfl (by kernel_rfl) (by kernel_rfl) (by kernel_rfl) (fun _ _ _ h => h) (yieldsC (by rfl) 3 (.tmp 17) rfl (by decide) (v) (1) _ rfl (fun _ h => h.cell 1)) hHeld ?_
    simp only [Act.put, List.setIfInBounds_toArray, List.set_cons_zero, List.set_cons_succ]
    refine takeD (i := 5) (some 19) (.slice A m c) rfl rfl (by kernel_rfl) (by kernel_rfl) (by kernel_rfl) (fun _ _ _ h => h) (Or.inl ⟨by rfl, fun _ _ => rfl⟩) hHeld ?_
    simp only [Act.put, List.setIfInBounds_toArray, List.set_cons_zero, List.set_cons_succ]
    refine wpAnyH_ready (rs := [6, 8]) (by kernel_rfl) (by decide) ?_
    refine AllReadyH.cons rfl (fun K' hK => ?_) (AllReadyH.cons rfl (fun K' hK => ?_) AllReadyH.nil)
    · skip
      go_simp
      refine (HCl.out w.drew (HB.out _ Z0)).mono ?_
      rintro e3 w3 ⟨A3, c3, rfl, hc3, hb3, ho3⟩
      have B3 : Below w.heap.size w w3 := Z0.trans (hb3.mono Z0.size)
      have HO3 := Lib.hid (show Own w3 w.heap.size 5 (.slice A3 m c3) m t from ho3.mono Z0.size)
      clear ho3 hc3 hb3
      refine hK.out _ _ (k1.out _ B3) (fun hHeld1 => ?_)
      clear hK
      refine takeD (i := 7) (some 21) (.agg #[.int .i64 (V.gen : Int), .slice A3 m c3]) rfl rfl (by kernel_rfl) (by kernel_rfl) (by kernel_rfl) (fun _ _ _ h => h) (yields_build68 (by rfl) _ _ rfl _ _ _ _ rfl rfl) hHeld1 ?_
      simp only [Act.put, List.setIfInBounds_toArray, List.set_cons_zero, List.set_cons_succ]
      refine wpAnyH_ready (rs := [8]) (by kernel_rfl) (by decide) ?_
      refine AllReadyH.cons rfl (fun K' hK => ?_) AllReadyH.nil
      refine step_of rfl (wp_alloc68 rfl ?_)
      have HRn := Lib.hid (Row.new w3 68 #[.int .i64 0, .slice none 0 0])
      have H6 : Hid (w.heap.size ≤ w3.heap.size) := Lib.hid B3.size
      have B5 : Below w.heap.size w (w3.alloc (.cells #[.int .i64 0, .slice none 0 0] 68)) := B3.alloc B3.size _
      have HOn := Lib.hid (HO3.out.below ((Below.refl w3.heap.size w3).alloc (Nat.le_refl _) (.cells #[.int .i64 0, .slice none 0 0] 68)))
      obtain ⟨h6, hh6⟩ : ∃ h6, w3.heap.size = h6 := ⟨_, rfl⟩
      obtain ⟨w5, hw5⟩ : ∃ w5, w3.alloc (.cells #[.int .i64 0, .slice none 0 0] 68) = w5 := ⟨_, rfl⟩
      rw [hh6, hw5] at HRn
      rw [hw5] at B5
      rw [hh6] at H6
      rw [hw5] at HOn
      rw [hh6, hw5]
      clear hh6 hw5
      refine hK.out _ _ (k1.out _ B5) (fun hHeld2 => ?_)
      clear hK
      (try simp only [List.getElem_toArray, List.getElem_cons_succ, List.getElem_cons_zero, Act.put, List.setIfInBounds_toArray, List.set_cons_zero, List.set_cons_succ])
      refine wpAnyH_ready (rs := [9]) (by kernel_rfl) (by decide) ?_
      refine AllReadyH.cons rfl (fun K' hK => ?_) AllReadyH.nil
      refine step_store_row Tryd.agg68 rfl (.tmp 6) (.tmp 21) rfl h6 #[.int .i64 (V.gen : Int), .slice A3 m c3] rfl rfl 68 #[.int .i64 0, .slice none 0 0] HRn.out (size2 _ _ _ _) (size2 _ _ _ _) (one2 _ _ _ _) ?_
      intro w7 hr7 ho7
      have HR7 := Lib.hid hr7
      have B7 : Below w.heap.size w w7 := B5.trans (ho7.below H6.out B5.size)
      have HO7 : Hid (Own w7 w.heap.size 5 (.slice A3 m c3) m t) := Lib.hid (Own.onlyA HOn.out ho7 (fun b hb => by have q1 := HRn.out; exact Own.row_ne HOn.out q1 b hb))
      clear hr7 ho7
      refine hK.out _ _ (k1.out _ B7) (fun hHeld3 => ?_)
      clear hK
      (try simp only [Act.put, List.setIfInBounds_toArray])
      refine wpAnyH_done (by kernel_rfl) ?_ _
      refine NoPanic.normal ?_
      have dr : (r.2 == 0) = false := by rw [hc]; rfl
      have q60 : w7.cell? ⟨h6, 0, none⟩ = some (.int .i64 (V.gen : Int)) := HR7.out.cell 0
      have q61 : w7.cell? ⟨h6, 1, none⟩ = some (.slice A3 m c3) := HR7.out.cell 1
      go_wp2_with (first
        | (go_at_call 39; refine (put_any v V.gen w.heap.size m c3 0 A3 t w7 HO7.out B7.size).mono ?_; rintro e8 w8 ⟨f1, rfl, hf1, hb8⟩; have HF1 := Lib.hid hf1; have B8 : Below w.heap.size w w8 := B7.trans (hb8.mono B7.size); have HR8 := Lib.hid (HR7.out.below hb8 HR7.out.lt); have HO8 := Lib.hid (HO7.out.below hb8); clear hf1)
        | (go_at_call 35; refine (sync_any v 0 w8).mono ?_; rintro e9 w9 ⟨f2, rfl, hf2, hb9⟩; have B9 : Below w.heap.size w w9 := B8.trans (hb9.mono B8.size); have HF2 := Lib.hid (hf2.mono B8.size); have HF19 := Lib.hid (HF1.out.below hb9); have HR9 := Lib.hid (HR8.out.below hb9 HR8.out.lt); have HO9 := Lib.hid (HO8.out.below hb9); clear hf2; obtain ⟨p1, p2, p3, Aq, nq, cq, hp, _⟩ := HF19.out; obtain ⟨p4, p5, hp2, _⟩ := HF2.out; have Hp := Lib.hid (show isFn f1 from ⟨_, _, _, hp⟩); have Hp2 := Lib.hid (show isFn f2 from ⟨_, _, _, hp2⟩); clear hp hp2)
        | ((with_reducible refine wpList_buildF2 rfl (.tmp 25) (.tmp 27) rfl f1 f2 rfl rfl Hp.out Hp2.out ?_))
        | (go_at_call 32; refine (HRun.out f1 f2 w9 B9 HF19.out HF2.out).mono ?_; rintro e10 w10 ⟨rfl, hw10, hoff10, hdn10⟩; have HW10 := Lib.hid hw10; have HO10 := Lib.hid hoff10; have HD10 := Lib.hid hdn10; clear hw10 hoff10 hdn10))
      go_ret
      have B1 : Below w.heap.size w (w9.alloc (.cells #[f1, f2] 73)) := B9.alloc B9.size _
      obtain ⟨F', hw', hT'⟩ := HW10.out
      obtain ⟨hD1, hD2⟩ := HD10.out hc
      exact ⟨by rw [hc]; rfl, ((Off.of_below B1).trans hD2 (fun x q => .inl q)).mono (fun x q => by
        rcases q with q | rfl
        · exact .inr q
        · exact .inl HV.out.1), F', hw'.first B1.size, hT', .inr (.inr ⟨hc, hD1⟩)⟩
    · skip
      refine step_of rfl (wp_alloc68 rfl ?_)
      have HRn := Lib.hid (Row.new w.drew 68 #[.int .i64 0, .slice none 0 0])
      have H6 : Hid (w.heap.size ≤ w.drew.heap.size) := Lib.hid Z0.size
      have B5 : Below w.heap.size w (w.drew.alloc (.cells #[.int .i64 0, .slice none 0 0] 68)) := Z0.alloc Z0.size _
      obtain ⟨h6, hh6⟩ : ∃ h6, w.drew.heap.size = h6 := ⟨_, rfl⟩
      obtain ⟨w5, hw5⟩ : ∃ w5, w.drew.alloc (.cells #[.int .i64 0, .slice none 0 0] 68) = w5 := ⟨_, rfl⟩
      rw [hh6, hw5] at HRn
      rw [hw5] at B5
      rw [hh6] at H6
      rw [hh6, hw5]
      clear hh6 hw5
      refine hK.out _ _ (k1.out _ B5) (fun hHeld1 => ?_)
      clear hK
      (try simp only [List.getElem_toArray, List.getElem_cons_succ, List.getElem_cons_zero, Act.put, List.setIfInBounds_toArray, List.set_cons_zero, List.set_cons_succ])
      refine wpAnyH_ready (rs := [6]) (by kernel_rfl) (by decide) ?_
      refine AllReadyH.cons rfl (fun K' hK => ?_) AllReadyH.nil
      go_simp
      refine (HCl.out w5 (HB.out _ B5)).mono ?_
      rintro e3 w3 ⟨A3, c3, rfl, hc3, hb3, ho3⟩
      have B3 : Below w.heap.size w w3 := B5.trans (hb3.mono B5.size)
      have HO3 := Lib.hid (show Own w3 w.heap.size 5 (.slice A3 m c3) m t from ho3.mono B5.size)
      have HRa := Lib.hid (HRn.out.below hb3 HRn.out.lt)
      clear ho3 hc3 hb3
      refine hK.out _ _ (k1.out _ B3) (fun hHeld2 => ?_)
      clear hK
      refine takeD (i := 7) (some 21) (.agg #[.int .i64 (V.gen : Int), .slice A3 m c3]) rfl rfl (by kernel_rfl) (by kernel_rfl) (by kernel_rfl) (fun _ _ _ h => h) (yields_build68 (by rfl) _ _ rfl _ _ _ _ rfl rfl) hHeld2 ?_
      simp only [Act.put, List.setIfInBounds_toArray, List.set_cons_zero, List.set_cons_succ]
      refine wpAnyH_ready (rs := [9]) (by kernel_rfl) (by decide) ?_
      refine AllReadyH.cons rfl (fun K' hK => ?_) AllReadyH.nil
      refine step_store_row Tryd.agg68 rfl (.tmp 6) (.tmp 21) rfl h6 #[.int .i64 (V.gen : Int), .slice A3 m c3] rfl rfl 68 #[.int .i64 0, .slice none 0 0] HRa.out (size2 _ _ _ _) (size2 _ _ _ _) (one2 _ _ _ _) ?_
      intro w7 hr7 ho7
      have HR7 := Lib.hid hr7
      have B7 : Below w.heap.size w w7 := B3.trans (ho7.below H6.out B3.size)
      have HO7 : Hid (Own w7 w.heap.size 5 (.slice A3 m c3) m t) := Lib.hid (Own.onlyA HO3.out ho7 (fun b hb => by have q1 := HRa.out; exact Own.row_ne HO3.out q1 b hb))
      clear hr7 ho7
      refine hK.out _ _ (k1.out _ B7) (fun hHeld3 => ?_)
      clear hK
      (try simp only [Act.put, List.setIfInBounds_toArray])
      refine wpAnyH_done (by kernel_rfl) ?_ _
      refine NoPanic.normal ?_
      have dr : (r.2 == 0) = false := by rw [hc]; rfl
      have q60 : w7.cell? ⟨h6, 0, none⟩ = some (.int .i64 (V.gen : Int)) := HR7.out.cell 0
      have q61 : w7.cell? ⟨h6, 1, none⟩ = some (.slice A3 m c3) := HR7.out.cell 1
      go_wp2_with (first
        | (go_at_call 39; refine (put_any v V.gen w.heap.size m c3 0 A3 t w7 HO7.out B7.size).mono ?_; rintro e8 w8 ⟨f1, rfl, hf1, hb8⟩; have HF1 := Lib.hid hf1; have B8 : Below w.heap.size w w8 := B7.trans (hb8.mono B7.size); have HR8 := Lib.hid (HR7.out.below hb8 HR7.out.lt); have HO8 := Lib.hid (HO7.out.below hb8); clear hf1)
        | (go_at_call 35; refine (sync_any v 0 w8).mono ?_; rintro e9 w9 ⟨f2, rfl, hf2, hb9⟩; have B9 : Below w.heap.size w w9 := B8.trans (hb9.mono B8.size); have HF2 := Lib.hid (hf2.mono B8.size); have HF19 := Lib.hid (HF1.out.below hb9); have HR9 := Lib.hid (HR8.out.below hb9 HR8.out.lt); have HO9 := Lib.hid (HO8.out.below hb9); clear hf2; obtain ⟨p1, p2, p3, Aq, nq, cq, hp, _⟩ := HF19.out; obtain ⟨p4, p5, hp2, _⟩ := HF2.out; have Hp := Lib.hid (show isFn f1 from ⟨_, _, _, hp⟩); have Hp2 := Lib.hid (show isFn f2 from ⟨_, _, _, hp2⟩); clear hp hp2)
        | ((with_reducible refine wpList_buildF2 rfl (.tmp 25) (.tmp 27) rfl f1 f2 rfl rfl Hp.out Hp2.out ?_))
        | (go_at_call 32; refine (HRun.out f1 f2 w9 B9 HF19.out HF2.out).mono ?_; rintro e10 w10 ⟨rfl, hw10, hoff10, hdn10⟩; have HW10 := Lib.hid hw10; have HO10 := Lib.hid hoff10; have HD10 := Lib.hid hdn10; clear hw10 hoff10 hdn10))
      go_ret
      have B1 : Below w.heap.size w (w9.alloc (.cells #[f1, f2] 73)) := B9.alloc B9.size _
      obtain ⟨F', hw', hT'⟩ := HW10.out
      obtain ⟨hD1, hD2⟩ := HD10.out hc
      exact ⟨by rw [hc]; rfl, ((Off.of_below B1).trans hD2 (fun x q => .inl q)).mono (fun x q => by
        rcases q with q | rfl
        · exact .inr q
        · exact .inl HV.out.1), F', hw'.first B1.size, hT', .inr (.inr ⟨hc, hD1⟩)⟩
end Go.Proofs.YtgiobcpljbpmiaaDoor
