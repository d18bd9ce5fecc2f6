/-
  A vault, what the document's has, and its next state side by side: a round of calls.
-/
import Derived.Test.YtgiobcpljbpmiaaDoorVltCb
import Derived.Test.YtgiobcpljbpmiaaDoorVltX
namespace Go.Proofs.YtgiobcpljbpmiaaDoor
open Go.RowKit
theorem Tryd.agg35 : AggType Tryd.prog 35 3 := ⟨_, Tryd.underlying35, rfl, by kernel_rfl⟩
theorem zero35 : (Tryd.prog.info? 35).map (fun i => (i.zero, i.size)) = some (some (.agg cl0), 3) := by kernel_rfl
theorem zero39 : (Tryd.prog.info? 39).map (fun i => (i.zero, i.size)) = some (some (.agg cl0), 3) := by kernel_rfl
theorem run_alloc0 (T : TypeId) (hT : (Tryd.prog.info? T).map (fun i => (i.zero, i.size)) = some (some (.agg cl0), 3)) (w : World) : (Instr.alloc T true (.tuple #[])).run Tryd.prog w = .ok (.pointer (some ⟨w.heap.size, 0, none⟩)) (w.alloc (.cells cl0 T)) := by
  have hz := (zero_of_info hT).1 w
  simp [Instr.alloc, hz, newVar, newRow, Value.cells]
theorem wpList_alloc0 (T : TypeId) (hT : (Tryd.prog.info? T).map (fun i => (i.zero, i.size)) = some (some (.agg cl0), 3)) {ops : Array Oper} {rest : List Oper} {o : Oper} {a : Act} {w : World} {Q : Exit → Act → World → Prop} (hgd : o.guard = none) (ho : o.op = .alloc T)
    (h : ∀ g w', w.heap.size ≤ g → Row w' g T cl0 → Below w.heap.size w w' → wpList Tryd.prog ops Q rest (a.put o.dst (.pointer (some ⟨g, 0, none⟩))) w') : wpList Tryd.prog ops Q (o :: rest) a w := by
  refine wpList_plain hgd fun K hK => ?_
  unfold Oper.wp execOp
  simp only [ho, Sem.run_bind, run_alloc0 T hT, Result.andThen_ok]
  exact hK _ _ (h _ _ (Nat.le_refl _) (Row.new w T cl0) ((Below.refl _ _).alloc (Nat.le_refl _) _))
theorem yields_build35 {ops : Array Oper} {S : World → Prop} {o : Oper} {a : Act} (hw : Region.wanted o (yielded ops a.tmps) = true) (x y z : Operand) (ho : o.op = .build 35 #[(0, x), (1, y), (2, z)]) (i : Int) (A B : Option Addr) (n c m d : Nat)
    (hx : a.eval x = .int .i64 i) (hy : a.eval y = .slice A n c) (hz : a.eval z = .slice B m d) : YieldsIf Tryd.prog ops S o (.agg #[.int .i64 i, .slice A n c, .slice B m d]) a :=
  .inl ⟨hw, fun w _ => by
    unfold execOp
    simp only [ho, List.map_toArray, List.map_cons, List.map_nil, hx, hy, hz]
    go_simp⟩
theorem mc_one (i : Int) (A B : Option Addr) (n c m d : Nat) : (#[Value.int .i64 i, .slice A n c, .slice B m d] : Array Value).all (·.oneCell') = true := by simp [Value.oneCell']
/-- what a call makes of the vault: it is made, or the power went -/
def StepR (w : World) (v g : Nat) (P : Nat → Prop) (S : Tp) (V W : Vs) (e : Ending) (w' : World) : Prop :=
  ∃ z, e = .returned (.int .i64 z) ∧ ∃ P' S', Off P w w' ∧ Grows w P P' ∧ ((z = 0 ∧ VT w' v g P' S' W ∧ (S'.cont 0).length ≤ (S.cont 0).length + 600) ∨ (z = 100 ∧ VD w' v g P' S' ∧ After2 S' V W))
theorem VAddC {S : Tp} (v g n c : Nat) (A : Option Addr) (t : List UInt8) (P : Nat → Prop) (V : Vs) (w : World) (h : VT w v g P S V) (hTb : Tab 2 w) (hB : Bs w A n t) (hn : n ≤ 500) (hg : V.gen ≤ 1000) (hc : (S.cont 0).length ≤ 100000) :
    Calls Tryd.prog 19 #[.pointer (some ⟨v, 0, none⟩), .slice A n c] w (StepR w v g P S V (V.add t)) := by
  have hl : (vFr (V.gen, t)).length ≤ 600 := vFr_small (a := (V.gen, t)) (by simp only; omega) (by simp only; rw [hB.1]; exact hn)
  refine (VAdd v g n c A t P V w h hTb hB (by omega) (by omega)).mono ?_
  rintro e w' ⟨hO, P', hG, ⟨rfl, S', h1, h2, _⟩ | ⟨_, _, h2⟩ | ⟨rfl, _, S', h1, h2⟩⟩
  · exact ⟨0, rfl, P', S', hO, hG, .inl ⟨rfl, h1, by rw [h2, put_same, List.length_append]; omega⟩⟩
  · exact absurd h2 (by omega)
  · exact ⟨100, rfl, P', S', hO, hG, .inr ⟨rfl, h1, h2⟩⟩
theorem VSaveC {S : Tp} (v g n c : Nat) (A : Option Addr) (t : List UInt8) (P : Nat → Prop) (V : Vs) (w : World) (h : VT w v g P S V) (hTb : Tab 2 w) (hB : Bs w A n t) (hn : n ≤ 500) (hg : V.gen ≤ 1000) :
    Calls Tryd.prog 22 #[.pointer (some ⟨v, 0, none⟩), .slice A n c] w (StepR w v g P S V (V.save t)) := by
  refine (VSave v g n c A t P V w h hTb hB (by omega) (by omega)).mono ?_
  rintro e w' ⟨hO, P', hG, ⟨rfl, S', h1, h2, _⟩ | ⟨rfl, _, S', h1, h2⟩⟩
  · exact ⟨0, rfl, P', S', hO, hG, .inl ⟨rfl, h1, by rw [h2, put_same]; simp⟩⟩
  · exact ⟨100, rfl, P', S', hO, hG, .inr ⟨rfl, h1, h2⟩⟩
/-- the vault, what it has (D), and a copy of it (Du) whose own blocks are u and some of B1 .. B2 -/
structure Mid (w : World) (v g u mb : Nat) (P D Du : Nat → Prop) (S : Tp) (V : Vs) (B1 B2 : Nat) : Prop where
  vt : VT w v g P S V
  dm : DM w mb D V
  du : DM w u Du V
  own : ∀ rv, w.cell? ⟨u, 2, none⟩ = some rv → ∀ b, rv.ownBlock = some b → b = u ∨ (B1 ≤ b ∧ b < B2)
  PU : ∀ b, P b → ¬ Du b
  PD : ∀ b, P b → ¬ D b
  Db : ∀ b, D b → b < B1 ∧ b ≠ u
  Pb : ∀ b, P b → b < B1
  size : B2 ≤ w.heap.size
  lt : B1 ≤ B2
theorem Mid.below {w w' : World} {v g u mb : Nat} {P D Du : Nat → Prop} {S : Tp} {V : Vs} {B1 B2 : Nat} (h : Mid w v g u mb P D Du S V B1 B2) (hb : Below w.heap.size w w') : Mid w' v g u mb P D Du S V B1 B2 :=
  ⟨h.vt.below hb, h.dm.below hb, h.du.below hb, fun rv hr => h.own rv ((World.cell?_of_block (a := ⟨u, 2, none⟩) (hb.block u (h.du.2.1 u h.du.1))).symm.trans hr), h.PU, h.PD, h.Db, h.Pb, Nat.le_trans h.size hb.size, h.lt⟩
theorem Mid.make {w w1 w2 : World} {v g u mb : Nat} {P D : Nat → Prop} {S : Tp} {V : Vs} {A A' : Option Addr} {n c k c' : Nat} {old : Array Value} (hv : VT w v g P S V) (hm : DM w mb D V) (hPD : ∀ b, P b → ¬ D b) (hru : Row w u 35 old) (hPu : ¬ P u) (hDu : ¬ D u)
    (ho : Own w 0 5 (.slice A n c) n V.text) (hf : ∀ b, (Value.slice A n c).ownBlock = some b → D b) (hb : Below w.heap.size w w1) (hk : k = V.recs.length) (hT : Texts w1 (fun b => D b ∨ w.heap.size ≤ b) (.slice A' k c') k V.recs) (hown : ∀ b, (Value.slice A' k c').ownBlock = some b → w.heap.size ≤ b)
    (hr : Row w2 u 35 #[.int .i64 (V.gen : Int), .slice A n c, .slice A' k c']) (h2 : Only u w1 w2) : Mid w2 v g u mb P D (fun b => b = u ∨ ((D b ∨ w.heap.size ≤ b) ∧ b < w2.heap.size ∧ b ≠ u)) S V w.heap.size w2.heap.size := by
  have hul := hru.lt
  have hO : Off (· = u) w w2 := (Off.of_below hb : Off (· = u) w w1).trans ⟨h2.os, h2.tape, h2.output, h2.size, h2.block⟩ (fun x q => .inl q)
  refine ⟨hv.off hO (fun b q e => hPu (by rw [← e]; exact q)), hm.off hO (fun b q e => hDu (by rw [← e]; exact q)), DM.under hm.2.1 ho hf hDu hru hb hk hT hr h2, fun rv hc b q => ?_, fun b q q2 => ?_, hPD, fun b q => ⟨hm.2.1 b q, fun e => hDu (by rw [← e]; exact q)⟩, hv.1, Nat.le_refl _, hO.size⟩
  · have e : rv = .slice A' k c' := by
      have := (hr.cell 2).symm.trans hc
      injection this with this
      exact this.symm
    subst e
    obtain ⟨vs, q1, _⟩ := id hT
    obtain ⟨_, cs, q2⟩ := ownsRow_block q1 q
    exact .inr ⟨hown b q, Nat.lt_of_lt_of_le (Array.getElem?_eq_some_iff.1 q2).1 h2.size⟩
  · rcases q2 with rfl | ⟨q2 | q2, _⟩
    · exact hPu q
    · exact hPD b q q2
    · have := hv.1 b q; omega
/-- behind the vault's call -/
structure Mid2 (w : World) (u mb : Nat) (D Du : Nat → Prop) (V : Vs) (B1 B2 : Nat) : Prop where
  dm : DM w mb D V
  du : DM w u Du V
  own : ∀ rv, w.cell? ⟨u, 2, none⟩ = some rv → ∀ b, rv.ownBlock = some b → b = u ∨ (B1 ≤ b ∧ b < B2)
theorem Mid.two {w w' : World} {v g u mb : Nat} {P D Du : Nat → Prop} {S : Tp} {V : Vs} {B1 B2 : Nat} (h : Mid w v g u mb P D Du S V B1 B2) (ho : Off P w w') : Mid2 w' u mb D Du V B1 B2 :=
  ⟨h.dm.off ho (fun b q q2 => h.PD b q2 q), h.du.off ho (fun b q q2 => h.PU b q2 q), fun rv hr => h.own rv ((World.cell?_of_block (a := ⟨u, 2, none⟩) (ho.block u (h.du.2.1 u h.du.1) (fun q => h.PU u q h.du.1))).symm.trans hr)⟩
/-- the blocks that the document's call writes -/
abbrev Wr (u B1 B2 : Nat) : Nat → Prop := fun b => b = u ∨ (B1 ≤ b ∧ b < B2)
theorem MAddC (u mb n c B1 B2 : Nat) (A : Option Addr) (t : List UInt8) (D Du : Nat → Prop) (V : Vs) (w : World) (h : Mid2 w u mb D Du V B1 B2) (hB : Bs w A n t) (hn : n ≤ 500) (hr : V.recs.length ≤ 1048576) :
    Calls Tryd.prog 21 #[.pointer (some ⟨u, 0, none⟩), .slice A n c] w (DR2 w u Du (V.add t) (Wr u B1 B2)) :=
  MAdd2_any u n c A t Du (Wr u B1 B2) V w (.inl rfl) h.own h.du hB (by omega) (by omega)
theorem MSaveC (u mb n c B1 B2 : Nat) (A : Option Addr) (t : List UInt8) (D Du : Nat → Prop) (V : Vs) (w : World) (h : Mid2 w u mb D Du V B1 B2) (hB : Bs w A n t) (hn : n ≤ 500) (hg : V.gen ≤ 1000) (hA : n = 0 ∨ ∀ b off, A = some ⟨b, off, none⟩ → b ≠ u) :
    Calls Tryd.prog 23 #[.pointer (some ⟨u, 0, none⟩), .slice A n c] w (DR2 w u Du (V.save t) (Wr u B1 B2)) := by
  refine (MSave2_any u n c A t Du V w h.du hB (by omega) (by omega) hA).mono ?_
  rintro e w' ⟨rfl, ho, D', hg, hd⟩
  exact ⟨rfl, ho.mono (fun x q => .inl q), D', hg, hd⟩
/-- up: the vault and what it has; the copy's row -/
def Up (w : World) (v g u mb B k : Nat) : Prop := ∃ (P D : Nat → Prop) (S : Tp) (V : Vs) (cs : Array Value), VT w v g P S V ∧ DM w mb D V ∧ (∀ b, P b → ¬ D b) ∧ Row w u 35 cs ∧ cs.size = 3 ∧ ¬ P u ∧ ¬ D u ∧ (∀ b, P b ∨ D b → B ≤ b) ∧ B ≤ u ∧ V.gen ≤ k ∧ (S.cont 0).length ≤ 600 * k
/-- down: what was had, and what that and the call under way made it -/
def Dn (w : World) (v g u mb : Nat) : Prop := ∃ (P D Du : Nat → Prop) (S : Tp) (V W : Vs), VD w v g P S ∧ After2 S V W ∧ DM w mb D V ∧ DM w u Du W ∧ ((∃ t, W = V.add t) ∨ ∃ t, W = V.save t)
theorem Up.mono {w : World} {v g u mb B k k' : Nat} (h : Up w v g u mb B k) (hk : k ≤ k') : Up w v g u mb B k' := by
  obtain ⟨P, D, S, V, cs, h1, h2, h3, h4, h5, h6, h7, h8, h9, h10, h11⟩ := h
  exact ⟨P, D, S, V, cs, h1, h2, h3, h4, h5, h6, h7, h8, h9, by omega, by omega⟩
theorem Up.below {w w' : World} {v g u mb B k : Nat} (h : Up w v g u mb B k) (hb : Below w.heap.size w w') : Up w' v g u mb B k := by
  obtain ⟨P, D, S, V, cs, h1, h2, h3, h4, h5, h6, h7, h8, h9, h10, h11⟩ := h
  exact ⟨P, D, S, V, cs, h1.below hb, h2.below hb, h3, h4.below hb h4.lt, h5, h6, h7, h8, h9, h10, h11⟩
theorem Dn.below {w w' : World} {v g u mb : Nat} (h : Dn w v g u mb) (hb : Below w.heap.size w w') : Dn w' v g u mb := by
  obtain ⟨P, D, Du, S, V, W, h1, h2, h3, h4, h5⟩ := h
  exact ⟨P, D, Du, S, V, W, h1.below hb, h2, h3.below hb, h4.below hb, h5⟩
/-- the next round, the call made -/
theorem Mid.up {w w' w2 : World} {v g u mb B k : Nat} {P P' D Du Du' : Nat → Prop} {S S' : Tp} {V W : Vs} {B1 B2 : Nat} {cs : Array Value} (h : Mid w v g u mb P D Du S V B1 B2) (_ho : Off P w w') (hg : Grows w P P') (hv : VT w' v g P' S' W) (hd : Off (Wr u B1 B2) w' w2) (hgd : Grows w' Du Du') (hdm : DM w2 u Du' W) (hr : Row w2 u 35 cs) (hcs : cs.size = 3)
    (hB : ∀ b, P b ∨ D b → B ≤ b) (hBu : ∀ b, Du b → B ≤ b) (hBw : B ≤ w.heap.size) (hBw' : w.heap.size ≤ w'.heap.size) (hk : W.gen ≤ k + 1) (hc : (S'.cont 0).length ≤ 600 * (k + 1)) :
    Up (w2.alloc (.cells cs 35)) v g u w2.heap.size B (k + 1) := by
  have hx : Below w2.heap.size w2 (w2.alloc (.cells cs 35)) := (Below.refl _ _).alloc (Nat.le_refl _) _
  have huD : Du u := h.du.1
  have hPw : ∀ b, P' b → ¬ Wr u B1 B2 b := fun b q q2 => by
    rcases hg b q with q | q
    · rcases q2 with rfl | q2
      · exact h.PU b q huD
      · have := h.Pb b q; omega
    · rcases q2 with rfl | q2
      · have := h.du.2.1 b huD; omega
      · have := h.size; omega
  have hPD : ∀ b, P' b → ¬ Du' b := fun b q q2 => by
    have := hv.1 b q
    rcases hgd b q2 with q2 | q2
    · rcases hg b q with q | q
      · exact h.PU b q q2
      · have := h.du.2.1 b q2; omega
    · omega
  have hs := hd.size
  refine ⟨P', fun b => (Du' b ∧ b ≠ u) ∨ b = w2.heap.size, S', W, cs, (hv.off hd hPw).below hx, hdm.copy hr, fun b q q2 => ?_, hr.below hx hr.lt, hcs, fun q => hPD u q hdm.1, fun q => ?_, fun b q => ?_, hBu u huD, hk, hc⟩
  · rcases q2 with q2 | rfl
    · exact hPD b q q2.1
    · have := hv.1 _ q; omega
  · rcases q with q | q
    · exact q.2 rfl
    · have := hr.lt; omega
  · rcases q with q | q | q
    · rcases hg b q with q | q
      · exact hB b (.inl q)
      · omega
    · rcases hgd b q.1 with q | q
      · exact hBu b q
      · omega
    · omega
theorem Mid.down {w w' w2 : World} {v g u mb : Nat} {P P' D Du Du' : Nat → Prop} {S S' : Tp} {V W : Vs} {B1 B2 : Nat} (h : Mid w v g u mb P D Du S V B1 B2) (ho : Off P w w') (hg : Grows w P P') (hv : VD w' v g P' S') (ha : After2 S' V W) (hd : Off (Wr u B1 B2) w' w2) (hdm : DM w2 u Du' W) (hW : (∃ t, W = V.add t) ∨ ∃ t, W = V.save t) : Dn w2 v g u mb := by
  have huD : Du u := h.du.1
  have hPw : ∀ b, P' b → ¬ Wr u B1 B2 b := fun b q q2 => by
    rcases hg b q with q | q
    · rcases q2 with rfl | q2
      · exact h.PU b q huD
      · have := h.Pb b q; omega
    · rcases q2 with rfl | q2
      · have := h.du.2.1 b huD; omega
      · have := h.size; omega
  refine ⟨P', D, Du', S', V, W, hv.off hd hPw, ha, (h.two ho).dm.off hd (fun b q q2 => ?_), hdm, hW⟩
  have := h.Db b q
  rcases q2 with q2 | q2
  · exact this.2 q2
  · omega
/-- what a vault that is down answers -/
theorem VDAdd {S : Tp} (v g : Nat) (P : Nat → Prop) (A : Option Addr) (n c : Nat) (w : World) (h : VD w v g P S) : Calls Tryd.prog 19 #[.pointer (some ⟨v, 0, none⟩), .slice A n c] w fun e w' => e = .returned (.int .i64 100) ∧ w = w' := Add_down v A n c w h.2.2.2.2.2.1
theorem VDGen {S : Tp} (v g : Nat) (P : Nat → Prop) (w : World) (h : VD w v g P S) : Calls Tryd.prog 24 #[.pointer (some ⟨v, 0, none⟩)] w fun e w' => e = .returned (.int .i64 0) ∧ w = w' := Gen_row v 0 vDown w h.2.2.2.2.2.1 rfl
theorem VDRecords {S : Tp} (v g : Nat) (P : Nat → Prop) (w : World) (h : VD w v g P S) : Calls Tryd.prog 25 #[.pointer (some ⟨v, 0, none⟩)] w fun e w' => ∃ A c, e = .returned (.slice A 0 c) ∧ Below w.heap.size w w' := by
  refine (Records_row v 0 0 none [] (fun _ => False) vDown w h.2.2.2.2.2.1 rfl (Texts.nil _ _) (by omega) (fun t q => by simp at q)).mono ?_
  rintro e w' ⟨A, c, rfl, _, _, hb⟩
  exact ⟨A, c, rfl, hb⟩
theorem VNoStep {S : Tp} (v g m : Nat) (P D : Nat → Prop) (W V : Vs) (w : World) (h : VT w v g P S W) (hm : DM w m D V) (hW : (∃ t, W = V.add t) ∨ ∃ t, W = V.save t) :
    Calls Tryd.prog 14 #[.pointer (some ⟨v, 0, none⟩), .pointer (some ⟨m, 0, none⟩)] w fun e w' => e = .returned (.bool false) ∧ Below w.heap.size w w' := by
  rcases hW with ⟨t, rfl⟩ | ⟨t, rfl⟩
  · exact VNoAdd v g m P D V t w h hm
  · exact VNoGen v g m P D (V.save t) V w h hm (by show V.gen + 1 ≠ V.gen; omega)
theorem Up.crash {w : World} {v g : Nat} {P : Nat → Prop} {S : Tp} {V : Vs} (h : VT w v g P S V) (kept : List Int) : Has (S.crash kept).cont V (S.cont 0).length := by
  rw [crash_cont h.2.2.1]; exact h.2.2.2.2.1
theorem Mid.wr {w : World} {v g u mb : Nat} {P P' D Du : Nat → Prop} {S : Tp} {V : Vs} {B1 B2 : Nat} (h : Mid w v g u mb P D Du S V B1 B2) (hg : Grows w P P') : ∀ b, P' b → ¬ Wr u B1 B2 b := fun b q q2 => by
  rcases hg b q with q | q
  · rcases q2 with rfl | q2
    · exact h.PU b q h.du.1
    · have := h.Pb b q; omega
  · rcases q2 with rfl | q2
    · have := h.du.2.1 b h.du.1; omega
    · have := h.size; omega
theorem Up.start {w4 w5 w6 : World} {v g u m0 B : Nat} {P : Nat → Prop} {S : Tp} (hv : VT w4 v g P S Vs.new) (hm : Row w4 m0 35 cl0) (hPm : ¬ P m0) (hPB : ∀ b, P b → B ≤ b) (hmB : B ≤ m0) (hu : w4.heap.size ≤ u) (hb : Below w4.heap.size w4 w5) (hr : Row w6 u 35 cl0) (ho : Only u w5 w6) (hBw : B ≤ w4.heap.size) (hc : ∀ i, S.cont i = []) : Up w6 v g u m0 B 0 := by
  have hx : Below w4.heap.size w4 w6 := hb.trans (ho.below hu hb.size)
  refine ⟨P, (· = m0), S, Vs.new, cl0, hv.below hx, ⟨rfl, fun b q => by subst q; exact Nat.lt_of_lt_of_le hm.lt hx.size, none, 0, 0, .slice none 0 0, hm.below hx hm.lt, Own.nil _ _ _, fun b q => by simp [Value.ownBlock] at q, Texts.nil _ _⟩, fun b q q2 => by subst q2; exact hPm q, hr, rfl, fun q => by have := hv.1 u q; omega, fun q => ?_, fun b q => ?_, by omega, Nat.le_refl _, by rw [hc 0]; simp⟩
  · have := hm.lt
    have q : u = m0 := q
    omega
  · rcases q with q | q
    · exact hPB b q
    · subst q; exact hmB
end Go.Proofs.YtgiobcpljbpmiaaDoor
