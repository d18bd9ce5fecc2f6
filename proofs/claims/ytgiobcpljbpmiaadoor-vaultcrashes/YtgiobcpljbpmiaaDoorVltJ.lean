/-
  A vault is opened.
-/
import Derived.Test.YtgiobcpljbpmiaaDoorVltI
namespace Go.Proofs.YtgiobcpljbpmiaaDoor
open Go.RowKit
def Tp.mendV (S : Tp) (n : Nat) : Tp × Int := andThen (S.mendT n) fun X => X.syncT 0
theorem Tp.ok.sure {S : Tp} {K : Nat} (h : S.ok K) (hS : S.Sure) : S.ok 0 := fun i => ⟨(h i).1, by rw [hS i]; exact Nat.le_refl _⟩
theorem mendT_ok {S : Tp} {K : Nat} (n : Nat) (h : S.ok K) : (S.mendT n).1.ok (K + 1) := by
  unfold Tp.mendT
  split
  · exact h.mono (by omega)
  · exact cut_ok _ _ h
theorem mendV_ok {S : Tp} {K : Nat} (n : Nat) (h : S.ok K) : (S.mendV n).1.ok (K + 1) := by
  unfold Tp.mendV andThen
  split
  · exact sync_ok 0 (mendT_ok n h)
  · exact mendT_ok n h
theorem mendV_cases {S : Tp} {V : Vs} {n : Nat} (hS : S.Sure) (hd : S.down = false) (hH : Has S.cont V n) :
    ((S.mendV n).2 = 0 ∧ (S.mendV n).1.Sure ∧ (S.mendV n).1.down = false ∧ (S.mendV n).1.cont = put S.cont 0 ((S.cont 0).take n) ∧ Has (S.mendV n).1.cont V ((S.mendV n).1.cont 0).length) ∨
    ((S.mendV n).2 = 100 ∧ (S.mendV n).1.down = true ∧ After (S.mendV n).1 V) := by
  by_cases hn : n = (S.cont 0).length
  · have e : S.mendV n = S.syncT 0 := by unfold Tp.mendV Tp.mendT; rw [if_pos hn]; rfl
    rw [e]
    rcases sync_cases (S := S) 0 0 rfl (by omega) hd with ⟨r1, r2, r3⟩ | ⟨r1, r2, r3⟩
    · have hc : (S.syncT 0).1.cont = S.cont := by
        rw [cont_upd 0 _ r2]
        show put S.cont 0 (play (S.f 0).now []) = S.cont
        exact put_eta S.cont 0
      refine .inl ⟨r1, fun j => ?_, r3, ?_, ?_⟩
      · rw [r2]; unfold upd; split
        · rfl
        · exact hS j
      · rw [hc, hn, List.take_length, put_eta]
      · rw [hc, ← hn]; exact hH
    · refine .inr ⟨r1, r3, fun kept => ⟨n, ?_⟩⟩
      obtain ⟨m, m1, m2⟩ := cont_crash (S := S) (X := (S.syncT 0).1) hS 0 (S.f 0) (by rw [r2, upd_eta]) kept
      rw [hS 0, List.take_nil, play_nil, ← hS.now 0, put_eta] at m2
      rw [m2]; exact hH
  · have e : S.mendV n = S.cutV n := by unfold Tp.mendV Tp.mendT Tp.cutV; rw [if_neg hn]
    rw [e]
    exact openV_cases hS hd hH
theorem slotP_zero {b : List UInt8} {odd : Nat} (h : (slotP b odd).1 = 0) : slotP b odd = (0, []) := by
  unfold slotP at *
  split at h
  · rename_i hc
    have := hc.2.1
    omega
  · rename_i hc
    rw [if_neg hc]
/-- the greater one of both -/
theorem pick_snap (one two : List UInt8) : (Vs.new.pick (slotP one 1)).pick (slotP two 0) = ⟨(snapP one two).1, (snapP one two).2, []⟩ := by
  unfold snapP pickP Vs.pick Vs.new
  simp only
  by_cases h : 0 < (slotP one 1).1
  · rw [if_pos h]
    simp only
    split <;> rfl
  · rw [if_neg h]
    have h0 : slotP one 1 = (0, []) := slotP_zero (by omega)
    rw [h0]
    simp only
    split <;> rfl
theorem run_buildF4 (f1 f2 f3 f4 : Value) (h1 : isFn f1) (h2 : isFn f2) (h3 : isFn f3) (h4 : isFn f4) (w : World) : (Instr.buildSlice 91 4 #[(0, f1), (1, f2), (2, f3), (3, f4)]).run Tryd.prog w = .ok (.slice (some ⟨w.heap.size, 0, none⟩) 4 4) (w.alloc (.cells #[f1, f2, f3, f4] 73)) := by
  obtain ⟨i, hi, hz, hsize, hby⟩ := info_parts info73
  refine run_buildSlice w 91 73 4 _ _ i _ Tryd.underlying91 hi hz (by rw [hsize]; decide) (by rw [hsize]; decide) ?_
  rw [hsize]
  obtain ⟨a1, b1, c1, rfl⟩ := h1
  obtain ⟨a2, b2, c2, rfl⟩ := h2
  obtain ⟨a3, b3, c3, rfl⟩ := h3
  obtain ⟨a4, b4, c4, rfl⟩ := h4
  have hf := Great.fill_whole (s := 1) (by omega) [.func a1 b1 c1, .func a2 b2 c2, .func a3 b3 c3, .func a4 b4 c4] ((Array.range (4 * 1)).map (Value.nilFunc.cells[· % Value.nilFunc.cells.size]!))
    (fun v hv => by simp at hv; rcases hv with rfl | rfl | rfl | rfl <;> rfl) (by simp)
  exact hf
theorem wpList_buildF4 {ops : Array Oper} {rest : List Oper} {o : Oper} {a : Act} {w : World} {Q : Exit → Act → World → Prop} (hgd : o.guard = none) (x y z u : Operand) (ho : o.op = .buildSlice 91 4 #[(0, x), (1, y), (2, z), (3, u)]) (f1 f2 f3 f4 : Value) (hx : a.eval x = f1) (hy : a.eval y = f2) (hz : a.eval z = f3) (hu : a.eval u = f4) (h1 : isFn f1) (h2 : isFn f2) (h3 : isFn f3) (h4 : isFn f4)
    (h : wpList Tryd.prog ops Q rest (a.put o.dst (.slice (some ⟨w.heap.size, 0, none⟩) 4 4)) (w.alloc (.cells #[f1, f2, f3, f4] 73))) : wpList Tryd.prog ops Q (o :: rest) a w := by
  refine wpList_plain hgd fun K hK => ?_
  unfold Oper.wp execOp
  simp only [ho, List.map_toArray, List.map_cons, List.map_nil, hx, hy, hz, hu, Sem.run_bind, run_buildF4 f1 f2 f3 f4 h1 h2 h3 h4, Result.andThen_ok]
  exact hK _ _ h
/-- the vault while it is opened -/
def Half (w1 : World) (v g : Nat) (F : Nat → Nat → Prop) (V : Vs) (X : Tp) (wr : World) : Prop :=
  ∃ (H : Nat → Prop) (F' : Nat → Nat → Prop), (∀ b, H b → b = v ∨ w1.heap.size ≤ b) ∧ Vlt wr v g H V ∧ Within w1 F F' ∧ Tap wr g F' X ∧ (∀ b, H b → ¬ Foot g F' b) ∧ Off (fun b => Foot g F b ∨ b = v) w1 wr
def vNew (g : Nat) : Array Value := #[.pointer (some ⟨g, 0, none⟩), .int .i64 0, .slice none 0 0, .slice none 0 0, .bool false]
theorem readL_up {S : Tp} (hd : S.down = false) (i : Nat) (hi : i < 4) : S.readL (i : Int) = S.cont i := by
  unfold Tp.readL; rw [if_pos ⟨⟨by omega, by omega⟩, hd⟩]; unfold Tp.now; simp only [Int.toNat_natCast]; rfl
theorem readE_up {S : Tp} (hd : S.down = false) (i : Nat) (hi : i < 4) : S.readE (i : Int) = 0 := by
  unfold Tp.readE; rw [if_pos ⟨by omega, by omega⟩, if_neg (by rw [hd]; simp)]
/-- a slot is recalled -/
theorem Half.recall {S : Tp} {w1 wr : World} {B v g i odd : Nat} {F : Nat → Nat → Prop} {V : Vs} {f : Value} (hi : (i = 1 ∧ odd = 1) ∨ (i = 2 ∧ odd = 0)) (hc : Clo w1 B 49 v (i : Int) f) (hB : ∀ b, Foot g F b → b < B) (hvB : v < B) (hok : S.ok 0) (hd : S.down = false) (hTb : Tab 2 w1) (hF2 : ¬ Foot g F 2) (hv2 : v ≠ 2) (h : Half w1 v g F V S wr) :
    ∃ us vs, f = .func (.func 49) us vs ∧ Calls Tryd.prog 49 (us ++ vs) wr fun e w' => ∃ x, e = .returned (.int .i64 x) ∧ (x = 0 → Half w1 v g F (V.pick (slotP (S.cont i) odd)) S w') ∧ (x ≠ 0 → False) := by
  obtain ⟨b1, b2, rfl, q1, q2, r1, r2⟩ := hc
  obtain ⟨H, F', h1, h2, h3, h4, h5, h6⟩ := h
  have n1 : ¬ (Foot g F b1 ∨ b1 = v) := fun h => by
    rcases h with h | h
    · have := hB _ h; omega
    · omega
  have n2 : ¬ (Foot g F b2 ∨ b2 = v) := fun h => by
    rcases h with h | h
    · have := hB _ h; omega
    · omega
  refine ⟨_, _, rfl, (recall1_any (S := S) b1 b2 v g 0 odd (i : Int) (by omega) H V F' wr (r1.off h6 n1) (r2.off h6 n2) h2 h4 hok (by omega) (hTb.off h6 (fun q => by rcases q with q | q; exact hF2 q; exact hv2 q.symm))).mono ?_⟩
  rintro e w' ⟨rfl, ho, H', k1, k2⟩
  have hi4 : i < 4 := by omega
  rw [readE_up hd i hi4]
  rw [readL_up hd i hi4] at k2
  refine ⟨0, rfl, fun _ => ⟨H', F', fun b q => ?_, k2, h3, h4.outside ho (fun b q q2 => by subst q2; exact h5 _ h2.1 q), fun b q q2 => ?_, h6.trans ho (fun x q => .inl (.inr q))⟩, fun q => q rfl⟩
  · rcases k1 b q with q | q
    · exact h1 b q
    · exact .inr (Nat.le_trans h6.size q)
  · rcases k1 b q with q | q
    · exact h5 b q q2
    · have := h4.foot q2; omega
/-- what is opened -/
def OpenE (w : World) (g : Nat) (F : Nat → Nat → Prop) (V : Vs) (r : Tp × Int) (e : Ending) (w' : World) : Prop :=
  Off (Foot g F) w w' ∧ ∃ F', Within w F F' ∧ Tap w' g F' r.1 ∧ ((r.2 = 0 ∧ ∃ v H, e = .returned (.tuple #[.pointer (some ⟨v, 0, none⟩), .int .i64 0]) ∧ (∀ b, H b → w.heap.size ≤ b) ∧ Vlt w' v g H V ∧ ∀ b, H b → ¬ Foot g F' b) ∨ (r.2 ≠ 0 ∧ e = .returned (.tuple #[.pointer none, .int .i64 r.2])))
theorem replayed_half {S : Tp} {w1 wr w' : World} {v g n : Nat} {F F' : Nat → Nat → Prop} {H : Nat → Prop} {V : Vs} {L : List (Nat × List UInt8)} {e : Ending} (hA : codeV.All (S.cont 0) L n) (h1 : ∀ b, H b → b = v ∨ w1.heap.size ≤ b) (h3 : Within w1 F F') (h6 : Off (fun b => Foot g F b ∨ b = v) w1 wr) (h : Replayed wr v g S H F' V e w') :
    e = .returned (.int .i64 (S.mendT n).2) ∧ Half w1 v g F ⟨V.gen, V.text, recsP V.gen L⟩ (S.mendT n).1 w' := by
  obtain ⟨L', n', k1, rfl, k2, H', F'', k3, k4, k5, k6, k7⟩ := h
  obtain ⟨rfl, rfl⟩ := Code.All.one hA k1
  refine ⟨rfl, H', F'', fun b q => ?_, k5, fun i b q => ?_, k6, k7, ?_⟩
  · rcases k3 b q with q | q
    · exact h1 b q
    · exact .inr (Nat.le_trans h6.size q)
  · rcases k4 i b q with q | q
    · exact h3 i b q
    · exact .inr (Nat.le_trans h6.size q)
  · refine h6.trans k2 (fun x q => ?_)
    rcases q with q | q
    · rcases h1 x q with q | q
      · exact .inl (.inr q)
      · exact .inr q
    · rcases Foot.within h3 q with q | q
      · exact .inl (.inl q)
      · exact .inr q
/-- the four steps of Open are run -/
theorem runOpen {S : Tp} (v g B n : Nat) (L : List (Nat × List UInt8)) (f1 f2 f4 : Value) (F : Nat → Nat → Prop) (w1 : World) (b : Nat) (hc1 : Clo w1 B 49 v ((1 : Nat) : Int) f1) (hc2 : Clo w1 B 49 v ((2 : Nat) : Int) f2) (hc4 : Clo w1 B 54 v 0 f4) (hB : ∀ b, Foot g F b → b < B) (hvB : v < B) (h3 : Row w1 v 70 (vNew g)) (hv : ¬ Foot g F v) (hTb : Tab 2 w1) (hF2 : ¬ Foot g F 2) (hv2 : v ≠ 2) (h : Tap w1 g F S) (hok : S.ok 0) (hd : S.down = false) (hA : codeV.All (S.cont 0) L n)
    (hb : b < w1.heap.size) (hbF : ¬ Foot g F b) (hbv : b ≠ v) (hcs : w1.cell? ⟨b, 0, none⟩ = some f1 ∧ w1.cell? ⟨b, 1, none⟩ = some f2 ∧ w1.cell? ⟨b, 2, none⟩ = some (.func (.func 34) #[.pointer (some ⟨v, 0, none⟩)] #[]) ∧ w1.cell? ⟨b, 3, none⟩ = some f4) :
    Calls Tryd.prog 32 #[.pointer (some ⟨v, 0, none⟩), .slice (some ⟨b, 0, none⟩) 4 4] w1 fun e w' => e = .returned (.int .i64 (S.mendV n).2) ∧ ((S.mendV n).2 = 0 → Half w1 v g F ⟨(snapP (S.cont 1) (S.cont 2)).1, (snapP (S.cont 1) (S.cont 2)).2, recsP (snapP (S.cont 1) (S.cont 2)).1 L⟩ (S.mendV n).1 w') ∧ (∃ F', Within w1 F F' ∧ Tap w' g F' (S.mendV n).1) ∧ Off (fun b => Foot g F b ∨ b = v) w1 w' := by
  have hVn : Vlt w1 v g (· = v) Vs.new := ⟨rfl, fun b q => by subst q; exact h3.lt, none, 0, 0, .slice none 0 0, h3, Own.nil _ _ _, fun b q => by simp [Value.ownBlock] at q, Texts.nil _ _⟩
  obtain ⟨fs, hfs⟩ : ∃ fs : Nat → Value, fs = fun k => if k = 0 then f1 else if k = 1 then f2 else if k = 2 then .func (.func 34) #[.pointer (some ⟨v, 0, none⟩)] #[] else f4 := ⟨_, rfl⟩
  obtain ⟨V2, hV2⟩ : ∃ V2, (Vs.new.pick (slotP (S.cont 1) 1)).pick (slotP (S.cont 2) 0) = V2 := ⟨_, rfl⟩
  obtain ⟨I, hI⟩ : ∃ I : Nat → World → Prop, I = fun k wr => (k = 0 ∧ Half w1 v g F Vs.new S wr) ∨ (k = 1 ∧ Half w1 v g F (Vs.new.pick (slotP (S.cont 1) 1)) S wr) ∨ (k = 2 ∧ Half w1 v g F V2 S wr) ∨ (k = 3 ∧ (S.mendT n).2 = 0 ∧ Half w1 v g F ⟨V2.gen, V2.text, recsP V2.gen L⟩ (S.mendT n).1 wr) ∨ (k = 4 ∧ (S.mendV n).2 = 0 ∧ Half w1 v g F ⟨V2.gen, V2.text, recsP V2.gen L⟩ (S.mendV n).1 wr) := ⟨_, rfl⟩
  have hoff : ∀ k wr, I k wr → Off (fun b => Foot g F b ∨ b = v) w1 wr := fun k wr h => by
    rw [hI] at h
    rcases h with ⟨_, h⟩ | ⟨_, h⟩ | ⟨_, h⟩ | ⟨_, _, h⟩ | ⟨_, _, h⟩ <;> (obtain ⟨_, _, _, _, _, _, _, h⟩ := h; exact h)
  have hr2 : V2.recs = [] := by rw [← hV2, pick_snap]
  refine (run_any v 4 b 4 fs I (fun x wr => x = (S.mendV n).2 ∧ ∃ V, Half w1 v g F V (S.mendV n).1 wr) w1 (by omega) ?_ ?_ ?_ ?_).mono ?_
  · rw [hI]
    exact .inl ⟨rfl, (· = v), F, fun b q => .inl q, hVn, fun _ _ q => .inl q, h, fun b q q2 => by subst q; exact hv q2, Off.of_below (Below.refl _ _)⟩
  · intro k wr hk hIk
    rw [World.cell?_of_block (a := ⟨b, k, none⟩) ((hoff k wr hIk).block b hb (fun q => by rcases q with q | q; exact hbF q; exact hbv q))]
    rw [hfs]
    match k, hk with
    | 0, _ => exact hcs.1
    | 1, _ => exact hcs.2.1
    | 2, _ => exact hcs.2.2.1
    | 3, _ => exact hcs.2.2.2
  · intro k hk
    rw [hfs, hI]
    match k, hk with
    | 0, _ =>
      obtain ⟨us, vs, e, _⟩ := Half.recall (S := S) (V := Vs.new) (wr := w1) (odd := 1) (.inl ⟨rfl, rfl⟩) hc1 hB hvB hok hd hTb hF2 hv2 ⟨(· = v), F, fun b q => .inl q, hVn, fun _ _ q => .inl q, h, fun b q q2 => by subst q; exact hv q2, Off.of_below (Below.refl _ _)⟩
      refine ⟨49, us, vs, e, en49, fun wr hw => ?_⟩
      rcases hw with ⟨_, hw⟩ | ⟨hw, _⟩ | ⟨hw, _⟩ | ⟨hw, _⟩ | ⟨hw, _⟩
      · obtain ⟨us', vs', e', hcall⟩ := Half.recall (S := S) (V := Vs.new) (wr := wr) (odd := 1) (.inl ⟨rfl, rfl⟩) hc1 hB hvB hok hd hTb hF2 hv2 hw
        rw [e] at e'
        injection e' with _ e1 e2
        subst e1 e2
        refine hcall.mono ?_
        rintro e w' ⟨x, rfl, hx, hy⟩
        exact ⟨x, rfl, fun q => .inr (.inl ⟨rfl, hx q⟩), fun q => (hy q).elim⟩
      all_goals omega
    | 1, _ =>
      obtain ⟨b1, b2, e, _⟩ := id hc2
      refine ⟨49, _, _, e, en49, fun wr hw => ?_⟩
      rcases hw with ⟨hw, _⟩ | ⟨_, hw⟩ | ⟨hw, _⟩ | ⟨hw, _⟩ | ⟨hw, _⟩
      rotate_left
      · obtain ⟨us', vs', e', hcall⟩ := Half.recall (S := S) (wr := wr) (odd := 0) (.inr ⟨rfl, rfl⟩) hc2 hB hvB hok hd hTb hF2 hv2 hw
        rw [e] at e'
        injection e' with _ e1 e2
        subst e1 e2
        refine hcall.mono ?_
        rintro e w' ⟨x, rfl, hx, hy⟩
        exact ⟨x, rfl, fun q => .inr (.inr (.inl ⟨rfl, by rw [← hV2]; exact hx q⟩)), fun q => (hy q).elim⟩
      all_goals omega
    | 2, _ =>
      refine ⟨34, _, _, rfl, en34, fun wr hw => ?_⟩
      rcases hw with ⟨hw, _⟩ | ⟨hw, _⟩ | ⟨_, hw⟩ | ⟨hw, _⟩ | ⟨hw, _⟩
      rotate_left 2
      · obtain ⟨H, F', k1, k2, k3, k4, k5, k6⟩ := hw
        refine (replay_any (S := S) v g 0 H V2 F' wr k2 hr2 k4 hok (by omega) (hTb.off k6 (fun q => by rcases q with q | q; exact hF2 q; exact hv2 q.symm)) k5 hd (fun q => by rcases k1 2 q with q | q; exact hv2 q.symm; have := hTb.1; omega)).mono ?_
        intro e w' hrep
        obtain ⟨rfl, hh⟩ := replayed_half hA k1 k3 k6 hrep
        refine ⟨_, rfl, fun q => .inr (.inr (.inr (.inl ⟨rfl, q, hh⟩))), fun q => ?_⟩
        have e : S.mendV n = S.mendT n := andThen_no q
        rw [e]
        exact ⟨rfl, _, hh⟩
      all_goals omega
    | 3, _ =>
      obtain ⟨b1, b2, rfl, q1, q2, r1, r2⟩ := id hc4
      refine ⟨54, _, _, rfl, en54, fun wr hw => ?_⟩
      rcases hw with ⟨hw, _⟩ | ⟨hw, _⟩ | ⟨hw, _⟩ | ⟨_, hz, hw⟩ | ⟨hw, _⟩
      rotate_left 3
      · obtain ⟨H, F', k1, k2, k3, k4, k5, k6⟩ := hw
        have n1 : ¬ (Foot g F b1 ∨ b1 = v) := fun h => by
          rcases h with h | h
          · have := hB _ h; omega
          · omega
        have n2 : ¬ (Foot g F b2 ∨ b2 = v) := fun h => by
          rcases h with h | h
          · have := hB _ h; omega
          · omega
        obtain ⟨G1, G2, A, m, c, rv, hrv, _⟩ := id k2
        have e : S.mendV n = (S.mendT n).1.syncT 0 := andThen_ok hz
        refine (sync1_any (S := (S.mendT n).1) b1 b2 v g 1 0 _ F' wr (r1.off k6 n1) (r2.off k6 n2) hrv rfl (box_free r1 (fun q => n1 (.inl q)) k3) (box_free r2 (fun q => n2 (.inl q)) k3) (k5 v G1) k4 (mendT_ok n hok) (by omega)).mono ?_
        rintro e' w' ⟨rfl, ⟨F'', j1, j2⟩, j3⟩
        have hh : Half w1 v g F ⟨V2.gen, V2.text, recsP V2.gen L⟩ ((S.mendT n).1.syncT 0).1 w' := by
          refine ⟨H, F'', k1, k2.off j3 k5, fun i b q => ?_, j2, fun b q q2 => ?_, k6.trans j3 (fun x q => ?_)⟩
          · rcases j1 i b q with q | q
            · exact k3 i b q
            · exact .inr (Nat.le_trans k6.size q)
          · rcases Foot.within j1 q2 with q2 | q2
            · exact k5 b q q2
            · have := G2 b q; omega
          · rcases Foot.within k3 q with q | q
            · exact .inl (.inl q)
            · exact .inr q
        rw [← e] at hh ⊢
        exact ⟨_, rfl, fun q => .inr (.inr (.inr (.inr ⟨rfl, q, hh⟩))), fun _ => ⟨rfl, _, hh⟩⟩
      all_goals omega
  · rintro wr ⟨_, V, H, F', _, ⟨_, _, A, m, c, rv, hrv, _⟩, _⟩
    exact ⟨_, hrv, rfl⟩
  · rintro e w' (⟨rfl, hI4⟩ | ⟨x, w2, hx, rfl, ⟨rfl, V, hh⟩, hq⟩)
    · rw [hI] at hI4
      rcases hI4 with ⟨q, _⟩ | ⟨q, _⟩ | ⟨q, _⟩ | ⟨q, _⟩ | ⟨_, q, hh⟩
      rotate_left 4
      · rw [q]
        have hh2 := hh
        rw [← hV2, pick_snap] at hh2
        obtain ⟨H, F', _, _, k3, k4, _, k6⟩ := hh
        exact ⟨rfl, fun _ => hh2, ⟨F', k3, k4⟩, k6⟩
      all_goals omega
    · obtain ⟨H, F', k1, k2, k3, k4, k5, k6⟩ := hh
      rcases hq with ⟨_, rfl⟩ | ⟨_, _, q3⟩
      · exact ⟨rfl, fun q => absurd q hx, ⟨F', k3, k4⟩, k6⟩
      · exact ⟨rfl, fun q => absurd q hx, ⟨F', k3, k4.outside q3.off (fun b q q2 => by subst q2; exact k5 _ k2.1 q)⟩, k6.trans q3.off (fun x q => .inl (.inr q))⟩
end Go.Proofs.YtgiobcpljbpmiaaDoor
