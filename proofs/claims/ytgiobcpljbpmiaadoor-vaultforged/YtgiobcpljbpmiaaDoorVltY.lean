/-
  A vault is opened, whatever stands on the tape, with open steps.
-/
import Derived.Test.YtgiobcpljbpmiaaDoorVltW
namespace Go.Proofs.YtgiobcpljbpmiaaDoor
open Go.RowKit
theorem Half.recallK {S : Tp} {w1 wr : World} {B v g i odd : Nat} {F : Nat → Nat → Prop} {V : Vs} {f : Value} (hi : (i = 1 ∧ odd = 1) ∨ (i = 2 ∧ odd = 0)) (hc : Clo w1 B 49 v (i : Int) f) (hB : ∀ b, Foot g F b → b < B) (hvB : v < B) {K : Nat} (hok : S.ok K) (hK : K ≤ 90000000) (hd : S.down = false) (hTb : Tab 2 w1) (hF2 : ¬ Foot g F 2) (hv2 : v ≠ 2) (h : Half w1 v g F V S wr) :
    ∃ us vs, f = .func (.func 49) us vs ∧ Calls Tryd.prog 49 (us ++ vs) wr fun e w' => ∃ x, e = .returned (.int .i64 x) ∧ (x = 0 → Half w1 v g F (V.pick (slotP (S.cont i) odd)) S w') ∧ (x ≠ 0 → False) := by
  obtain ⟨b1, b2, rfl, q1, q2, r1, r2⟩ := hc
  obtain ⟨H, F', h1, h2, h3, h4, h5, h6⟩ := h
  have n1 : ¬ (Foot g F b1 ∨ b1 = v) := fun h => by
    rcases h with h | h
    · have := hB _ h; omega
    · omega
  have n2 : ¬ (Foot g F b2 ∨ b2 = v) := fun h => by
    rcases h with h | h
    · have := hB _ h; omega
    · omega
  refine ⟨_, _, rfl, (recall1_any (S := S) b1 b2 v g K odd (i : Int) (by omega) H V F' wr (r1.off h6 n1) (r2.off h6 n2) h2 h4 hok (by omega) (hTb.off h6 (fun q => by rcases q with q | q; exact hF2 q; exact hv2 q.symm))).mono ?_⟩
  rintro e w' ⟨rfl, ho, H', k1, k2⟩
  have hi4 : i < 4 := by omega
  rw [readE_up hd i hi4]
  rw [readL_up hd i hi4] at k2
  refine ⟨0, rfl, fun _ => ⟨H', F', fun b q => ?_, k2, h3, h4.outside ho (fun b q q2 => by subst q2; exact h5 _ h2.1 q), fun b q q2 => ?_, h6.trans ho (fun x q => .inl (.inr q))⟩, fun q => q rfl⟩
  · rcases k1 b q with q | q
    · exact h1 b q
    · exact .inr (Nat.le_trans h6.size q)
  · rcases k1 b q with q | q
    · exact h5 b q q2
    · have := h4.foot q2; omega
/-- the four steps of Open are run -/
theorem runOpenK {S : Tp} (v g B n : Nat) (L : List (Nat × List UInt8)) (f1 f2 f4 : Value) (F : Nat → Nat → Prop) (w1 : World) (b : Nat) (hc1 : Clo w1 B 49 v ((1 : Nat) : Int) f1) (hc2 : Clo w1 B 49 v ((2 : Nat) : Int) f2) (hc4 : Clo w1 B 54 v 0 f4) (hB : ∀ b, Foot g F b → b < B) (hvB : v < B) (h3 : Row w1 v 70 (vNew g)) (hv : ¬ Foot g F v) (hTb : Tab 2 w1) (hF2 : ¬ Foot g F 2) (hv2 : v ≠ 2) (h : Tap w1 g F S) {K : Nat} (hok : S.ok K) (hK : K ≤ 90000000) (hd : S.down = false) (hA : codeV.All (S.cont 0) L n)
    (hb : b < w1.heap.size) (hbF : ¬ Foot g F b) (hbv : b ≠ v) (hcs : w1.cell? ⟨b, 0, none⟩ = some f1 ∧ w1.cell? ⟨b, 1, none⟩ = some f2 ∧ w1.cell? ⟨b, 2, none⟩ = some (.func (.func 34) #[.pointer (some ⟨v, 0, none⟩)] #[]) ∧ w1.cell? ⟨b, 3, none⟩ = some f4) :
    Calls Tryd.prog 32 #[.pointer (some ⟨v, 0, none⟩), .slice (some ⟨b, 0, none⟩) 4 4] w1 fun e w' => e = .returned (.int .i64 (S.mendV n).2) ∧ ((S.mendV n).2 = 0 → Half w1 v g F ⟨(snapP (S.cont 1) (S.cont 2)).1, (snapP (S.cont 1) (S.cont 2)).2, recsP (snapP (S.cont 1) (S.cont 2)).1 L⟩ (S.mendV n).1 w') ∧ (∃ F', Within w1 F F' ∧ Tap w' g F' (S.mendV n).1) ∧ Off (fun b => Foot g F b ∨ b = v) w1 w' := by
  have hVn : Vlt w1 v g (· = v) Vs.new := ⟨rfl, fun b q => by subst q; exact h3.lt, none, 0, 0, .slice none 0 0, h3, Own.nil _ _ _, fun b q => by simp [Value.ownBlock] at q, Texts.nil _ _⟩
  obtain ⟨fs, hfs⟩ : ∃ fs : Nat → Value, fs = fun k => if k = 0 then f1 else if k = 1 then f2 else if k = 2 then .func (.func 34) #[.pointer (some ⟨v, 0, none⟩)] #[] else f4 := ⟨_, rfl⟩
  obtain ⟨V2, hV2⟩ : ∃ V2, (Vs.new.pick (slotP (S.cont 1) 1)).pick (slotP (S.cont 2) 0) = V2 := ⟨_, rfl⟩
  obtain ⟨I, hI⟩ : ∃ I : Nat → World → Prop, I = fun k wr => (k = 0 ∧ Half w1 v g F Vs.new S wr) ∨ (k = 1 ∧ Half w1 v g F (Vs.new.pick (slotP (S.cont 1) 1)) S wr) ∨ (k = 2 ∧ Half w1 v g F V2 S wr) ∨ (k = 3 ∧ (S.mendT n).2 = 0 ∧ Half w1 v g F ⟨V2.gen, V2.text, recsP V2.gen L⟩ (S.mendT n).1 wr) ∨ (k = 4 ∧ (S.mendV n).2 = 0 ∧ Half w1 v g F ⟨V2.gen, V2.text, recsP V2.gen L⟩ (S.mendV n).1 wr) := ⟨_, rfl⟩
  have hoff : ∀ k wr, I k wr → Off (fun b => Foot g F b ∨ b = v) w1 wr := fun k wr h => by
    rw [hI] at h
    rcases h with ⟨_, h⟩ | ⟨_, h⟩ | ⟨_, h⟩ | ⟨_, _, h⟩ | ⟨_, _, h⟩ <;> (obtain ⟨_, _, _, _, _, _, _, h⟩ := h; exact h)
  have hr2 : V2.recs = [] := by rw [← hV2, pick_snap]
  refine (run_any v 4 b 4 fs I (fun x wr => x = (S.mendV n).2 ∧ ∃ V, Half w1 v g F V (S.mendV n).1 wr) w1 (by omega) ?_ ?_ ?_ ?_).mono ?_
  · rw [hI]
    exact .inl ⟨rfl, (· = v), F, fun b q => .inl q, hVn, fun _ _ q => .inl q, h, fun b q q2 => by subst q; exact hv q2, Off.of_below (Below.refl _ _)⟩
  · intro k wr hk hIk
    rw [World.cell?_of_block (a := ⟨b, k, none⟩) ((hoff k wr hIk).block b hb (fun q => by rcases q with q | q; exact hbF q; exact hbv q))]
    rw [hfs]
    match k, hk with
    | 0, _ => exact hcs.1
    | 1, _ => exact hcs.2.1
    | 2, _ => exact hcs.2.2.1
    | 3, _ => exact hcs.2.2.2
  · intro k hk
    rw [hfs, hI]
    match k, hk with
    | 0, _ =>
      obtain ⟨us, vs, e, _⟩ := Half.recallK (S := S) (V := Vs.new) (wr := w1) (odd := 1) (.inl ⟨rfl, rfl⟩) hc1 hB hvB hok hK hd hTb hF2 hv2 ⟨(· = v), F, fun b q => .inl q, hVn, fun _ _ q => .inl q, h, fun b q q2 => by subst q; exact hv q2, Off.of_below (Below.refl _ _)⟩
      refine ⟨49, us, vs, e, en49, fun wr hw => ?_⟩
      rcases hw with ⟨_, hw⟩ | ⟨hw, _⟩ | ⟨hw, _⟩ | ⟨hw, _⟩ | ⟨hw, _⟩
      · obtain ⟨us', vs', e', hcall⟩ := Half.recallK (S := S) (V := Vs.new) (wr := wr) (odd := 1) (.inl ⟨rfl, rfl⟩) hc1 hB hvB hok hK hd hTb hF2 hv2 hw
        rw [e] at e'
        injection e' with _ e1 e2
        subst e1 e2
        refine hcall.mono ?_
        rintro e w' ⟨x, rfl, hx, hy⟩
        exact ⟨x, rfl, fun q => .inr (.inl ⟨rfl, hx q⟩), fun q => (hy q).elim⟩
      all_goals omega
    | 1, _ =>
      obtain ⟨b1, b2, e, _⟩ := id hc2
      refine ⟨49, _, _, e, en49, fun wr hw => ?_⟩
      rcases hw with ⟨hw, _⟩ | ⟨_, hw⟩ | ⟨hw, _⟩ | ⟨hw, _⟩ | ⟨hw, _⟩
      rotate_left
      · obtain ⟨us', vs', e', hcall⟩ := Half.recallK (S := S) (wr := wr) (odd := 0) (.inr ⟨rfl, rfl⟩) hc2 hB hvB hok hK hd hTb hF2 hv2 hw
        rw [e] at e'
        injection e' with _ e1 e2
        subst e1 e2
        refine hcall.mono ?_
        rintro e w' ⟨x, rfl, hx, hy⟩
        exact ⟨x, rfl, fun q => .inr (.inr (.inl ⟨rfl, by rw [← hV2]; exact hx q⟩)), fun q => (hy q).elim⟩
      all_goals omega
    | 2, _ =>
      refine ⟨34, _, _, rfl, en34, fun wr hw => ?_⟩
      rcases hw with ⟨hw, _⟩ | ⟨hw, _⟩ | ⟨_, hw⟩ | ⟨hw, _⟩ | ⟨hw, _⟩
      rotate_left 2
      · obtain ⟨H, F', k1, k2, k3, k4, k5, k6⟩ := hw
        refine (replay_any (S := S) v g K H V2 F' wr k2 hr2 k4 hok (by omega) (hTb.off k6 (fun q => by rcases q with q | q; exact hF2 q; exact hv2 q.symm)) k5 hd (fun q => by rcases k1 2 q with q | q; exact hv2 q.symm; have := hTb.1; omega)).mono ?_
        intro e w' hrep
        obtain ⟨rfl, hh⟩ := replayed_half hA k1 k3 k6 hrep
        refine ⟨_, rfl, fun q => .inr (.inr (.inr (.inl ⟨rfl, q, hh⟩))), fun q => ?_⟩
        have e : S.mendV n = S.mendT n := andThen_no q
        rw [e]
        exact ⟨rfl, _, hh⟩
      all_goals omega
    | 3, _ =>
      obtain ⟨b1, b2, rfl, q1, q2, r1, r2⟩ := id hc4
      refine ⟨54, _, _, rfl, en54, fun wr hw => ?_⟩
      rcases hw with ⟨hw, _⟩ | ⟨hw, _⟩ | ⟨hw, _⟩ | ⟨_, hz, hw⟩ | ⟨hw, _⟩
      rotate_left 3
      · obtain ⟨H, F', k1, k2, k3, k4, k5, k6⟩ := hw
        have n1 : ¬ (Foot g F b1 ∨ b1 = v) := fun h => by
          rcases h with h | h
          · have := hB _ h; omega
          · omega
        have n2 : ¬ (Foot g F b2 ∨ b2 = v) := fun h => by
          rcases h with h | h
          · have := hB _ h; omega
          · omega
        obtain ⟨G1, G2, A, m, c, rv, hrv, _⟩ := id k2
        have e : S.mendV n = (S.mendT n).1.syncT 0 := andThen_ok hz
        refine (sync1_any (S := (S.mendT n).1) b1 b2 v g (K + 1) 0 _ F' wr (r1.off k6 n1) (r2.off k6 n2) hrv rfl (box_free r1 (fun q => n1 (.inl q)) k3) (box_free r2 (fun q => n2 (.inl q)) k3) (k5 v G1) k4 (mendT_ok n hok) (by omega)).mono ?_
        rintro e' w' ⟨rfl, ⟨F'', j1, j2⟩, j3⟩
        have hh : Half w1 v g F ⟨V2.gen, V2.text, recsP V2.gen L⟩ ((S.mendT n).1.syncT 0).1 w' := by
          refine ⟨H, F'', k1, k2.off j3 k5, fun i b q => ?_, j2, fun b q q2 => ?_, k6.trans j3 (fun x q => ?_)⟩
          · rcases j1 i b q with q | q
            · exact k3 i b q
            · exact .inr (Nat.le_trans k6.size q)
          · rcases Foot.within j1 q2 with q2 | q2
            · exact k5 b q q2
            · have := G2 b q; omega
          · rcases Foot.within k3 q with q | q
            · exact .inl (.inl q)
            · exact .inr q
        rw [← e] at hh ⊢
        exact ⟨_, rfl, fun q => .inr (.inr (.inr (.inr ⟨rfl, q, hh⟩))), fun _ => ⟨rfl, _, hh⟩⟩
      all_goals omega
  · rintro wr ⟨_, V, H, F', _, ⟨_, _, A, m, c, rv, hrv, _⟩, _⟩
    exact ⟨_, hrv, rfl⟩
  · rintro e w' (⟨rfl, hI4⟩ | ⟨x, w2, hx, rfl, ⟨rfl, V, hh⟩, hq⟩)
    · rw [hI] at hI4
      rcases hI4 with ⟨q, _⟩ | ⟨q, _⟩ | ⟨q, _⟩ | ⟨q, _⟩ | ⟨_, q, hh⟩
      rotate_left 4
      · rw [q]
        have hh2 := hh
        rw [← hV2, pick_snap] at hh2
        obtain ⟨H, F', _, _, k3, k4, _, k6⟩ := hh
        exact ⟨rfl, fun _ => hh2, ⟨F', k3, k4⟩, k6⟩
      all_goals omega
    · obtain ⟨H, F', k1, k2, k3, k4, k5, k6⟩ := hh
      rcases hq with ⟨_, rfl⟩ | ⟨_, _, q3⟩
      · exact ⟨rfl, fun q => absurd q hx, ⟨F', k3, k4⟩, k6⟩
      · exact ⟨rfl, fun q => absurd q hx, ⟨F', k3, k4.outside q3.off (fun b q q2 => by subst q2; exact k5 _ k2.1 q)⟩, k6.trans q3.off (fun x q => .inl (.inr q))⟩
set_option maxRecDepth 100000 in
set_option maxHeartbeats 4000000 in
theorem Open_anyK {S : Tp} (g n : Nat) (V : Vs) (F : Nat → Nat → Prop) (w : World) (h : Tap w g F S) {K : Nat} (hok : S.ok K) (hK : K ≤ 90000000) (hd : S.down = false) (hTb : Tab 2 w) (hF2 : ¬ Foot g F 2) (hH : Opened (S.cont 0) (S.cont 1) (S.cont 2) V.gen V.text V.recs n) :
    Calls Tryd.prog 13 #[.pointer (some ⟨g, 0, none⟩)] w (OpenE w g F V (S.mendV n)) := by
  obtain ⟨L, hA, hs, hr⟩ := hH
  have hmf : ∀ (fn : Fn) (first cap : Array Value) (w : World), (Instr.makeFunc fn first cap).run Tryd.prog w = .ok (.func fn first cap) w := fun _ _ _ _ => rfl
  have hb0 : Below w.heap.size w (w.alloc (.cells (vNew g) 70)) := (Below.refl _ _).alloc (Nat.le_refl _) _
  have HX0 := Lib.hid (Row.new w 70 (vNew g))
  obtain ⟨wz, hwz⟩ : ∃ wz, w.alloc (.cells (vNew g) 70) = wz := ⟨_, rfl⟩
  have hlt : w.heap.size < wz.heap.size := by rw [← hwz]; simp
  have hlz : wz.heap.size = w.heap.size + 1 := by rw [← hwz]; simp
  rw [hwz] at hb0 HX0
  have h2 := hTb.1
  have HRun := Lib.hid (fun f1 f2 f4 w4 (hb : Below wz.heap.size wz w4) (a1 : Clo w4 (w.heap.size + 1) 49 w.heap.size ((1 : Nat) : Int) f1) (a2 : Clo w4 (w.heap.size + 1) 49 w.heap.size ((2 : Nat) : Int) f2) (a4 : Clo w4 (w.heap.size + 1) 54 w.heap.size 0 f4) =>
    have hq : Below w4.heap.size w4 (w4.alloc (.cells #[f1, f2, .func (.func 34) #[.pointer (some ⟨w.heap.size, 0, none⟩)] #[], f4] 73)) := (Below.refl _ _).alloc (Nat.le_refl _) _
    have hq1 : Below w.heap.size w (w4.alloc (.cells #[f1, f2, .func (.func 34) #[.pointer (some ⟨w.heap.size, 0, none⟩)] #[], f4] 73)) := hb0.trans ((hb.trans (hq.mono hb.size)).mono hb0.size)
    have hN := Row.new w4 73 #[f1, f2, .func (.func 34) #[.pointer (some ⟨w.heap.size, 0, none⟩)] #[], f4]
    runOpenK (S := S) w.heap.size g (w.heap.size + 1) n L f1 f2 f4 F _ w4.heap.size (a1.below hq) (a2.below hq) (a4.below hq) (fun b q => by have := h.foot q; omega) (by omega) ((HX0.out.below hb hlt).below hq (by have := hb.size; omega)) (fun q => by have := h.foot q; omega) (hTb.below hq1) hF2 (by omega) (h.below hq1) hok hK hd hA hN.lt (fun q => by have := h.foot q; have := hb.size; omega) (by have := hb.size; omega) ⟨hN.cell 0, hN.cell 1, hN.cell 2, hN.cell 3⟩)
  rw [hs] at HRun
  rw [show (⟨(V.gen, V.text).1, (V.gen, V.text).2, recsP (V.gen, V.text).1 L⟩ : Vs) = V by rw [← hr]] at HRun
  have HT := Lib.hid h
  have HZ := Lib.hid hb0
  generalize S.mendV n = r at *
  clear h hok hK hd hTb hF2 hA hs hr hb0 HX0
  obtain ⟨v, hv⟩ : ∃ v, w.heap.size = v := ⟨_, rfl⟩
  have hvw : w.heap.size ≤ v := by omega
  have HV := Lib.hid hv
  rw [hv] at HRun hlz
  unfold vNew at hwz
  have fin : ∀ (w4 w10 : World) (e : Ending) (f1 f2 f4 : Value), Below wz.heap.size wz w4 → (∃ F', Within (w4.alloc (.cells #[f1, f2, .func (.func 34) #[.pointer (some ⟨v, 0, none⟩)] #[], f4] 73)) F F' ∧ Tap w10 g F' r.1) → Off (fun b => Foot g F b ∨ b = v) (w4.alloc (.cells #[f1, f2, .func (.func 34) #[.pointer (some ⟨v, 0, none⟩)] #[], f4] 73)) w10 → (r.2 = 0 → Half (w4.alloc (.cells #[f1, f2, .func (.func 34) #[.pointer (some ⟨v, 0, none⟩)] #[], f4] 73)) v g F V r.1 w10) → ((r.2 = 0 ∧ e = .returned (.tuple #[.pointer (some ⟨v, 0, none⟩), .int .i64 0])) ∨ (r.2 ≠ 0 ∧ e = .returned (.tuple #[.pointer none, .int .i64 r.2]))) → OpenE w g F V r e w10 := fun w4 w10 e f1 f2 f4 hb k1 k2 k3 k4 => by
    obtain ⟨w5, hw5⟩ : ∃ w5, w4.alloc (.cells #[f1, f2, .func (.func 34) #[.pointer (some ⟨v, 0, none⟩)] #[], f4] 73) = w5 := ⟨_, rfl⟩
    have hb5 : Below w.heap.size w w5 := by rw [← hw5]; exact HZ.out.trans ((hb.alloc hb.size _).mono HZ.out.size)
    rw [hw5] at k1 k2 k3
    have hO : Off (Foot g F) w w10 := (Off.of_below hb5).trans k2 (fun x q => by rcases q with q | q; exact .inl q; exact .inr (by omega))
    rcases k4 with ⟨c1, c2⟩ | ⟨c1, c2⟩
    · obtain ⟨H, F', j1, j2, j3, j4, j5, j6⟩ := k3 c1
      exact ⟨hO, F', j3.first hb5.size, j4, .inl ⟨c1, v, H, c2, fun b q => by rcases j1 b q with q | q; omega; exact Nat.le_trans hb5.size q, j2, j5⟩⟩
    · obtain ⟨F', j3, j4⟩ := k1
      exact ⟨hO, F', j3.first hb5.size, j4, .inr ⟨c1, c2⟩⟩
  have HFin := Lib.hid fin
  clear fin HT
  by_cases hc : r.2 = 0
  · have dr : (r.2 != 0) = false := by rw [hc]; rfl
    go_enter Tryd.func13, Tryd.ntmps13
    go_wp2_with (first
      | (go_at_call 33; have hz := B1; clear hz; refine (recall_any v 2 w1).mono ?_; rintro e2 w2 ⟨f2, rfl, hf2, hb2⟩; have B2 : Below wz.heap.size wz w2 := B1.trans (hb2.mono B1.size); have HG2 := Lib.hid (hf2.mono (B' := v + 1) (by have := B1.size; omega)); have HG1 := Lib.hid (HF1.out.below hb2); clear hf2)
      | (go_at_call 33; refine (recall_any v 1 wz).mono ?_; rintro e1 w1 ⟨f1, rfl, hf1, hb1⟩; have B1 : Below wz.heap.size wz w1 := hb1; have HF1 := Lib.hid (hf1.mono (B' := v + 1) (by omega)); clear hf1)
      | (go_at_call 35; refine (sync_any v 0 w2).mono ?_; rintro e4 w4 ⟨f4, rfl, hf4, hb4⟩; have B4 : Below wz.heap.size wz w4 := B2.trans (hb4.mono B2.size); have HF4 := Lib.hid (hf4.mono (B' := v + 1) (by have := B2.size; omega)); have HK1 := Lib.hid (HG1.out.below hb4); have HK2 := Lib.hid (HG2.out.below hb4); have Hp3 := Lib.hid (show isFn (.func (.func 34) #[.pointer (some ⟨v, 0, none⟩)] #[]) from ⟨_, _, _, rfl⟩); clear hf4)
      | ((with_reducible refine wpList_buildF4 rfl (.tmp 11) (.tmp 13) (.tmp 15) (.tmp 17) rfl f1 f2 (.func (.func 34) #[.pointer (some ⟨v, 0, none⟩)] #[]) f4 rfl rfl rfl rfl HK1.out.fn HK2.out.fn Hp3.out HF4.out.fn ?_))
      | (go_at_call 32; refine (HRun.out f1 f2 f4 w4 B4 HK1.out HK2.out HF4.out).mono ?_; rintro e10 w10 ⟨rfl, hh10, ht10, ho10⟩; have HH10 := Lib.hid hh10; have HT10 := Lib.hid ht10; have HO10 := Lib.hid ho10; clear hh10 ht10 ho10))
    go_ret2
    exact HFin.out w4 w10 _ f1 f2 f4 B4 HT10.out HO10.out HH10.out (.inl ⟨hc, rfl⟩)
  · have dr : (r.2 != 0) = true := by simpa using hc
    go_enter Tryd.func13, Tryd.ntmps13
    go_wp2_with (first
      | (go_at_call 33; have hz := B1; clear hz; refine (recall_any v 2 w1).mono ?_; rintro e2 w2 ⟨f2, rfl, hf2, hb2⟩; have B2 : Below wz.heap.size wz w2 := B1.trans (hb2.mono B1.size); have HG2 := Lib.hid (hf2.mono (B' := v + 1) (by have := B1.size; omega)); have HG1 := Lib.hid (HF1.out.below hb2); clear hf2)
      | (go_at_call 33; refine (recall_any v 1 wz).mono ?_; rintro e1 w1 ⟨f1, rfl, hf1, hb1⟩; have B1 : Below wz.heap.size wz w1 := hb1; have HF1 := Lib.hid (hf1.mono (B' := v + 1) (by omega)); clear hf1)
      | (go_at_call 35; refine (sync_any v 0 w2).mono ?_; rintro e4 w4 ⟨f4, rfl, hf4, hb4⟩; have B4 : Below wz.heap.size wz w4 := B2.trans (hb4.mono B2.size); have HF4 := Lib.hid (hf4.mono (B' := v + 1) (by have := B2.size; omega)); have HK1 := Lib.hid (HG1.out.below hb4); have HK2 := Lib.hid (HG2.out.below hb4); have Hp3 := Lib.hid (show isFn (.func (.func 34) #[.pointer (some ⟨v, 0, none⟩)] #[]) from ⟨_, _, _, rfl⟩); clear hf4)
      | ((with_reducible refine wpList_buildF4 rfl (.tmp 11) (.tmp 13) (.tmp 15) (.tmp 17) rfl f1 f2 (.func (.func 34) #[.pointer (some ⟨v, 0, none⟩)] #[]) f4 rfl rfl rfl rfl HK1.out.fn HK2.out.fn Hp3.out HF4.out.fn ?_))
      | (go_at_call 32; refine (HRun.out f1 f2 f4 w4 B4 HK1.out HK2.out HF4.out).mono ?_; rintro e10 w10 ⟨rfl, hh10, ht10, ho10⟩; have HH10 := Lib.hid hh10; have HT10 := Lib.hid ht10; have HO10 := Lib.hid ho10; clear hh10 ht10 ho10))
    go_ret2
    exact HFin.out w4 w10 _ f1 f2 f4 B4 HT10.out HO10.out HH10.out (.inr ⟨hc, rfl⟩)
theorem live_mend_cont {S : Tp} (n : Nat) (h : S.live) (hn : n ≤ (S.cont 0).length) : (S.mendV n).1.cont = put S.cont 0 ((S.cont 0).take n) ∧ (S.mendV n).2 = 0 ∧ (S.mendV n).1.live := by
  have hs : ∀ X : Tp, X.live → (X.syncT 0).1.cont = X.cont ∧ (X.syncT 0).2 = 0 ∧ (X.syncT 0).1.live := fun X hX => by
    unfold Tp.syncT
    rw [if_pos ⟨by omega, by omega⟩, live_pow hX]
    refine ⟨?_, rfl, hX⟩
    funext i
    unfold Tp.cont Tp.settle
    simp only
    unfold upd
    split
    · rename_i hi
      rw [hi]
      rfl
    · rfl
  by_cases hq : n = (S.cont 0).length
  · have e : S.mendV n = S.syncT 0 := by unfold Tp.mendV Tp.mendT; rw [if_pos hq]; rfl
    rw [e, hq, List.take_length, put_eta]
    exact hs S h
  · have hc : (S.cutT 0 (n : Int)).2 = 0 ∧ (S.cutT 0 (n : Int)).1.live ∧ (S.cutT 0 (n : Int)).1.cont = put S.cont 0 ((S.cont 0).take n) := by
      rcases cut_cases (S := S) 0 (n : Int) 0 n rfl rfl (by omega) hn h.1 with ⟨a1, a2, a3⟩ | ⟨a1, _⟩
      · refine ⟨a1, (live_cut 0 _ h).2, ?_⟩
        rw [cont_upd 0 _ a2]
        congr 1
        show play _ (_ ++ [Stp.cut n]) = _
        rw [play_snoc]
        rfl
      · exact absurd a1 (live_cut 0 _ h).1
    have e : S.mendV n = (S.cutT 0 (n : Int)).1.syncT 0 := by
      unfold Tp.mendV Tp.mendT
      rw [if_neg hq]
      exact andThen_ok hc.1
    rw [e]
    obtain ⟨s1, s2, s3⟩ := hs _ hc.2.1
    exact ⟨by rw [s1, hc.2.2], s2, s3⟩
/-- what is opened, whatever stands on the tape -/
theorem VOpenK {S : Tp} (g n : Nat) (P : Nat → Prop) (V : Vs) (w : World) (h : TP w g P S) {K : Nat} (hok : S.ok K) (hK : K ≤ 90000000) (hl : S.live) (hTb : Tab 2 w) (hH : Opened (S.cont 0) (S.cont 1) (S.cont 2) V.gen V.text V.recs n) :
    Calls Tryd.prog 13 #[.pointer (some ⟨g, 0, none⟩)] w fun e w' => ∃ v H, e = .returned (.tuple #[.pointer (some ⟨v, 0, none⟩), .int .i64 0]) ∧ Off P w w' ∧ Vlt w' v g H V ∧ (∀ b, H b → w.heap.size ≤ b) ∧ ∃ P', Grows w P P' ∧ TP w' g P' (S.mendV n).1 ∧ ∀ b, H b → ¬ Foot g (fun _ b => P' b ∧ False) b ∧ b < w'.heap.size := by
  obtain ⟨h1, h2, F, k2, k4⟩ := h
  have hn : n ≤ (S.cont 0).length := by
    obtain ⟨L, q, _⟩ := hH
    exact q.1.2.1
  have hm := live_mend_cont n hl hn
  refine (Open_anyK g n V F w k4 hok hK hl.1 hTb (fun q => h2 (k2 _ q)) hH).mono ?_
  rintro e w' ⟨hO, F', hw, hT, hcase⟩
  rcases hcase with ⟨c1, v, H, rfl, j1, j2, j3⟩ | ⟨c1, _⟩
  · refine ⟨v, H, rfl, hO.mono (fun x q => k2 x q), j2, j1, fun b => (P b ∨ w.heap.size ≤ b) ∧ b < w'.heap.size, fun b q => q.1, ⟨fun b q => q.2, fun q => ?_, F', fun b q => ⟨?_, hT.foot q⟩, hT⟩, fun b q => ⟨fun q2 => ?_, j2.2.1 b q⟩⟩
    · rcases q.1 with q | q
      · exact h2 q
      · have := hTb.1; omega
    · rcases Foot.within hw q with q | q
      · exact .inl (k2 b q)
      · exact .inr q
    · rcases q2 with rfl | ⟨i, q2⟩
      · exact j3 _ q (.inl rfl)
      · exact q2.2
  · exact absurd hm.2.1 c1
end Go.Proofs.YtgiobcpljbpmiaaDoor
