/-
  A vault with its tape, in blocks of their own: what each call makes of it.
-/
import Derived.Test.YtgiobcpljbpmiaaDoorVltK
namespace Go.Proofs.YtgiobcpljbpmiaaDoor
open Go.RowKit
/-- a tape that has power and no fuse -/
def Tp.live (S : Tp) : Prop := S.down = false ∧ S.fuse < 0
theorem live_pow {S : Tp} (h : S.live) : S.pow = some S := by
  unfold Tp.pow
  rw [if_neg (by rintro (q | q); rw [h.1] at q; cases q; have := h.2; omega), if_neg (by have := h.2; omega)]
  cases S
  simp only [Tp.live] at h
  rw [h.1]
def Lv (p : Tp × Int) : Prop := p.2 ≠ 100 ∧ p.1.live
theorem live_run (i : Nat) : ∀ (l : List UInt8) (S : Tp), S.live → Lv (S.run i l)
  | [], S, h => ⟨by simp [Tp.run], h⟩
  | b :: l, S, h => by
    rw [Tp.run, live_pow h]
    exact live_run i l (S.add i (.app b)) h
theorem live_append {S : Tp} (z : Int) (l : List UInt8) (h : S.live) : Lv (S.append z l) := by
  unfold Tp.append
  split
  · rw [if_neg (by rw [h.1]; simp)]
    split
    · exact ⟨by simp, h⟩
    · exact live_run _ l S h
  · exact ⟨by simp, h⟩
theorem live_cut {S : Tp} (z n : Int) (h : S.live) : Lv (S.cutT z n) := by
  unfold Tp.cutT
  split
  · rw [live_pow h]; exact ⟨by simp, h⟩
  · exact ⟨by simp, h⟩
theorem live_sync {S : Tp} (z : Int) (h : S.live) : Lv (S.syncT z) := by
  unfold Tp.syncT
  split
  · rw [live_pow h]; exact ⟨by simp, h⟩
  · exact ⟨by simp, h⟩
theorem Lv.andThen {p : Tp × Int} {f : Tp → Tp × Int} (h : Lv p) (hf : ∀ X : Tp, X.live → Lv (f X)) : Lv (andThen p f) := by
  unfold Go.Proofs.YtgiobcpljbpmiaaDoor.andThen
  split
  · exact hf _ h.2
  · exact h
theorem live_add {S : Tp} (q : Nat) (t : List UInt8) (h : S.live) : Lv (S.addV q t) := (live_append 0 _ h).andThen fun _ hX => live_sync 0 hX
theorem live_save {S : Tp} (q : Nat) (t : List UInt8) (h : S.live) : Lv (S.saveV q t) :=
  (((live_cut _ 0 h).andThen fun _ hX => live_append _ _ hX).andThen fun _ hX => live_sync _ hX).andThen fun _ hX => (live_cut 0 _ hX).andThen fun _ hY => live_sync 0 hY
theorem live_mend {S : Tp} (n : Nat) (h : S.live) : Lv (S.mendV n) := by
  refine Lv.andThen ?_ fun _ hX => live_sync 0 hX
  unfold Tp.mendT
  split
  · exact ⟨by simp, h⟩
  · exact live_cut 0 _ h
/-- a vault with its tape in the blocks P -/
def VT (w : World) (v g : Nat) (P : Nat → Prop) (S : Tp) (V : Vs) : Prop :=
  (∀ b, P b → b < w.heap.size) ∧ ¬ P 2 ∧ S.ok 0 ∧ S.down = false ∧ Has S.cont V (S.cont 0).length ∧ ∃ (H : Nat → Prop) (F : Nat → Nat → Prop), (∀ b, H b → P b) ∧ (∀ b, Foot g F b → P b) ∧ Vlt w v g H V ∧ Tap w g F S ∧ ∀ b, H b → ¬ Foot g F b
/-- a vault that is down, with its tape, in the blocks P -/
def VD (w : World) (v g : Nat) (P : Nat → Prop) (S : Tp) : Prop :=
  (∀ b, P b → b < w.heap.size) ∧ ¬ P 2 ∧ S.ok 1000000 ∧ S.down = true ∧ P v ∧ Row w v 70 vDown ∧ ∃ F : Nat → Nat → Prop, (∀ b, Foot g F b → P b) ∧ Tap w g F S ∧ ¬ Foot g F v
/-- a tape in the blocks P -/
def TP (w : World) (g : Nat) (P : Nat → Prop) (S : Tp) : Prop := (∀ b, P b → b < w.heap.size) ∧ ¬ P 2 ∧ ∃ F : Nat → Nat → Prop, (∀ b, Foot g F b → P b) ∧ Tap w g F S
theorem VT.off {w w' : World} {v g : Nat} {P G : Nat → Prop} {S : Tp} {V : Vs} (h : VT w v g P S V) (ho : Off G w w') (hG : ∀ b, P b → ¬ G b) : VT w' v g P S V := by
  obtain ⟨h1, h2, h3, h4, h5, H, F, k1, k2, k3, k4, k5⟩ := h
  exact ⟨fun b q => Nat.lt_of_lt_of_le (h1 b q) ho.size, h2, h3, h4, h5, H, F, k1, k2, k3.off ho (fun b q => hG b (k1 b q)), k4.outside ho (fun b q => hG b (k2 b q)), k5⟩
theorem VT.below {w w' : World} {v g : Nat} {P : Nat → Prop} {S : Tp} {V : Vs} (h : VT w v g P S V) (hb : Below w.heap.size w w') : VT w' v g P S V :=
  h.off (Off.of_below (F := fun _ => False) hb) (fun _ _ q => q)
theorem VD.off {w w' : World} {v g : Nat} {P G : Nat → Prop} {S : Tp} (h : VD w v g P S) (ho : Off G w w') (hG : ∀ b, P b → ¬ G b) : VD w' v g P S := by
  obtain ⟨h1, h2, h3, h4, h5, h6, F, k1, k2, k3⟩ := h
  exact ⟨fun b q => Nat.lt_of_lt_of_le (h1 b q) ho.size, h2, h3, h4, h5, h6.off ho (hG v h5), F, k1, k2.outside ho (fun b q => hG b (k1 b q)), k3⟩
theorem VD.below {w w' : World} {v g : Nat} {P : Nat → Prop} {S : Tp} (h : VD w v g P S) (hb : Below w.heap.size w w') : VD w' v g P S := h.off (Off.of_below (F := fun _ => False) hb) (fun _ _ q => q)
theorem TP.off {w w' : World} {g : Nat} {P G : Nat → Prop} {S : Tp} (h : TP w g P S) (ho : Off G w w') (hG : ∀ b, P b → ¬ G b) : TP w' g P S := by
  obtain ⟨h1, h2, F, k1, k2⟩ := h
  exact ⟨fun b q => Nat.lt_of_lt_of_le (h1 b q) ho.size, h2, F, k1, k2.outside ho (fun b q => hG b (k1 b q))⟩
theorem TP.below {w w' : World} {g : Nat} {P : Nat → Prop} {S : Tp} (h : TP w g P S) (hb : Below w.heap.size w w') : TP w' g P S := h.off (Off.of_below (F := fun _ => False) hb) (fun _ _ q => q)
theorem VT.tape {w : World} {v g : Nat} {P : Nat → Prop} {S : Tp} {V : Vs} (h : VT w v g P S V) : TP w g P S := by
  obtain ⟨h1, h2, _, _, _, H, F, _, k2, _, k4, _⟩ := h
  exact ⟨h1, h2, F, k2, k4⟩
theorem VD.tape {w : World} {v g : Nat} {P : Nat → Prop} {S : Tp} (h : VD w v g P S) : TP w g P S := by
  obtain ⟨h1, h2, _, _, _, _, F, k1, k2, _⟩ := h
  exact ⟨h1, h2, F, k1, k2⟩
def Grows (w : World) (P P' : Nat → Prop) : Prop := ∀ b, P' b → P b ∨ w.heap.size ≤ b
theorem Has.count {f : Nat → List UInt8} {V : Vs} {n : Nat} (h : Has f V n) : V.recs.length ≤ n := by
  obtain ⟨L, h1, _, h3, _⟩ := h
  rw [h3]
  exact Nat.le_trans (recsP_le _ _) h1.1.count
/-- what an Add makes of it -/
def AddR (w : World) (v g : Nat) (P : Nat → Prop) (S : Tp) (V : Vs) (t : List UInt8) (e : Ending) (w' : World) : Prop :=
  Off P w w' ∧ ∃ P', Grows w P P' ∧ ((e = .returned (.int .i64 0) ∧ ∃ S', VT w' v g P' S' (V.add t) ∧ S'.cont = put S.cont 0 (S.cont 0 ++ vFr (V.gen, t)) ∧ (S.live → S'.live)) ∨ (e = .returned (.int .i64 90) ∧ VT w' v g P' S V ∧ 1048576 < (S.cont 0).length + (vFr (V.gen, t)).length) ∨ (e = .returned (.int .i64 100) ∧ ¬ S.live ∧ ∃ S', VD w' v g P' S' ∧ After2 S' V (V.add t)))
theorem run_ok2 {S : Tp} {q : Nat} {t : List UInt8} (h : S.ok 0) (hv : okV (q, t)) : (S.addV q t).1.ok 1000000 := by
  have hl := vFr_le hv
  have h1 := append_ok 0 (vFr (q, t)) h
  unfold Tp.addV andThen
  split
  · exact (sync_ok 0 h1).mono (by omega)
  · exact h1.mono (by omega)
theorem VAdd {S : Tp} (v g n c : Nat) (A : Option Addr) (t : List UInt8) (P : Nat → Prop) (V : Vs) (w : World) (h : VT w v g P S V) (hTb : Tab 2 w) (hB : Bs w A n t) (hn : n ≤ 262080) (hg : V.gen ≤ 1099511627776) :
    Calls Tryd.prog 19 #[.pointer (some ⟨v, 0, none⟩), .slice A n c] w (AddR w v g P S V t) := by
  obtain ⟨h1, h2, h3, h4, h5, H, F, k1, k2, k3, k4, k5⟩ := h
  have hS : S.Sure := fun i => List.eq_nil_of_length_eq_zero (Nat.le_zero.1 (h3 i).2)
  have hv : okV (V.gen, t) := okV_of V.gen t hg (by rw [hB.1]; exact hn)
  have hcs := addV_cases hS h4 h5 hv
  have hcnt : V.recs.length + 1 ≤ 1000000000 := by
    have := h5.count
    have := h3.now 0
    unfold Tp.cont at *
    omega
  refine (Add_any v g n c A t H V F w k3 k4 h3 k5 hTb (fun q => h2 (k2 _ q)) hB hn hg hcnt (by rcases hcs with q | q | q; exact .inl q.1; exact .inr (.inl q.1); exact .inr (.inr q.1))).mono ?_
  rintro e w' ⟨rfl, hO, F', hw, hT, hcase⟩
  have hOP : Off P w w' := hO.mono (fun x q => by rcases q with q | q; exact k1 x q; exact k2 x q)
  rcases hcase with ⟨c1, H', j1, j2, j3⟩ | ⟨c1, j2, j3⟩ | ⟨c1, j2⟩
  · rcases hcs with q | q | q
    · rw [q.1] at c1; cases c1
    · obtain ⟨q1, q2, q3, q4, q5⟩ := q
      refine ⟨hOP, fun b => (P b ∨ w.heap.size ≤ b) ∧ b < w'.heap.size, fun b q => q.1, .inl ⟨by rw [q1], (S.addV V.gen t).1, ⟨fun b q => q.2, fun q => ?_, (run_ok2 h3 hv).sure q2, q3, ?_, H', F', fun b q => ⟨?_, j2.2.1 b q⟩, fun b q => ⟨?_, hT.foot q⟩, j2, hT, j3⟩, q4, fun hl => (live_add V.gen t hl).2⟩⟩
      · rcases q.1 with q | q
        · exact h2 q
        · have := hTb.1; omega
      · rw [q4, put_same]
        exact h5.add t hv
      · rcases j1 b q with q | q
        · exact .inl (k1 b q)
        · exact .inr q
      · rcases Foot.within hw q with q | q
        · exact .inl (k2 b q)
        · exact .inr q
    · rw [q.1] at c1; cases c1
  · rcases hcs with q | q | q
    · obtain ⟨q1, q2, q3⟩ := q
      rw [q2] at hT
      refine ⟨hOP, fun b => (P b ∨ w.heap.size ≤ b) ∧ b < w'.heap.size, fun b q => q.1, .inr (.inl ⟨by rw [q1], ⟨fun b q => q.2, fun q => ?_, h3, h4, h5, H, F', fun b q => ⟨.inl (k1 b q), j2.2.1 b q⟩, fun b q => ⟨?_, hT.foot q⟩, j2, hT, j3⟩, q3⟩)⟩
      · rcases q.1 with q | q
        · exact h2 q
        · have := hTb.1; omega
      · rcases Foot.within hw q with q | q
        · exact .inl (k2 b q)
        · exact .inr q
    · rw [q.1] at c1; cases c1
    · rw [q.1] at c1; cases c1
  · rcases hcs with q | q | q
    · rw [q.1] at c1; cases c1
    · rw [q.1] at c1; cases c1
    · obtain ⟨q1, q2, q3⟩ := q
      refine ⟨hOP, fun b => (P b ∨ w.heap.size ≤ b) ∧ b < w'.heap.size, fun b q => q.1, .inr (.inr ⟨by rw [q1], fun hl => (live_add V.gen t hl).1 q1, (S.addV V.gen t).1, ⟨fun b q => q.2, fun q => ?_, run_ok2 h3 hv, q2, ⟨.inl (k1 v k3.1), j2.lt⟩, j2, F', fun b q => ⟨?_, hT.foot q⟩, hT, fun q => ?_⟩, q3⟩)⟩
      · rcases q.1 with q | q
        · exact h2 q
        · have := hTb.1; omega
      · rcases Foot.within hw q with q | q
        · exact .inl (k2 b q)
        · exact .inr q
      · rcases Foot.within hw q with q | q
        · exact k5 v k3.1 q
        · have := k3.lt; omega
def SaveR (w : World) (v g : Nat) (P : Nat → Prop) (S : Tp) (V : Vs) (t : List UInt8) (e : Ending) (w' : World) : Prop :=
  Off P w w' ∧ ∃ P', Grows w P P' ∧ ((e = .returned (.int .i64 0) ∧ ∃ S', VT w' v g P' S' (V.save t) ∧ S'.cont = put (put S.cont (slotNo (V.gen + 1)) (vFr (V.gen + 1, t))) 0 [] ∧ (S.live → S'.live)) ∨ (e = .returned (.int .i64 100) ∧ ¬ S.live ∧ ∃ S', VD w' v g P' S' ∧ After2 S' V (V.save t)))
theorem andThen_okK {p : Tp × Int} {f : Tp → Tp × Int} {K K' : Nat} (h : p.1.ok K) (hK : K ≤ K') (hf : ∀ X : Tp, X.ok K → (f X).1.ok K') : (andThen p f).1.ok K' := by
  unfold andThen
  split
  · exact hf _ h
  · exact h.mono hK
theorem save_ok2 {S : Tp} {q : Nat} {t : List UInt8} (h : S.ok 0) (hv : okV (q + 1, t)) : (S.saveV q t).1.ok 1000000 := by
  have hl := vFr_le hv
  refine andThen_okK (K := 300000) (andThen_okK (K := 300000) (andThen_okK (K := 1) (cut_ok _ _ h) (by omega) fun X hX => (append_ok _ _ hX).mono (by omega)) (by omega) fun X hX => sync_ok _ hX) (by omega) fun X hX => ?_
  exact andThen_okK (K := 300001) (cut_ok _ _ hX) (by omega) fun Y hY => (sync_ok _ hY).mono (by omega)
theorem VSave {S : Tp} (v g n c : Nat) (A : Option Addr) (t : List UInt8) (P : Nat → Prop) (V : Vs) (w : World) (h : VT w v g P S V) (hTb : Tab 2 w) (hB : Bs w A n t) (hn : n ≤ 262080) (hg : V.gen < 1099511627776) :
    Calls Tryd.prog 22 #[.pointer (some ⟨v, 0, none⟩), .slice A n c] w (SaveR w v g P S V t) := by
  obtain ⟨h1, h2, h3, h4, h5, H, F, k1, k2, k3, k4, k5⟩ := h
  have hS : S.Sure := fun i => List.eq_nil_of_length_eq_zero (Nat.le_zero.1 (h3 i).2)
  have hv : okV (V.gen + 1, t) := okV_of (V.gen + 1) t hg (by rw [hB.1]; exact hn)
  have hcs := saveV_cases hS h4 h5 hv
  refine (Save_any v g n c A t H V F w k3 k4 h3 k5 hTb (fun q => h2 (k2 _ q)) hB hn hg (by rcases hcs with q | q; exact .inl q.1; exact .inr q.1)).mono ?_
  rintro e w' ⟨rfl, hO, F', hw, hT, hcase⟩
  have hOP : Off P w w' := hO.mono (fun x q => by rcases q with q | q; exact k1 x q; exact k2 x q)
  rcases hcase with ⟨c1, H', j1, j2, j3⟩ | ⟨c1, j2⟩
  · rcases hcs with q | q
    · obtain ⟨q1, q2, q3, q4⟩ := q
      refine ⟨hOP, fun b => (P b ∨ w.heap.size ≤ b) ∧ b < w'.heap.size, fun b q => q.1, .inl ⟨by rw [q1], (S.saveV V.gen t).1, ⟨fun b q => q.2, fun q => ?_, (save_ok2 h3 hv).sure q2, q3, ?_, H', F', fun b q => ⟨?_, j2.2.1 b q⟩, fun b q => ⟨?_, hT.foot q⟩, j2, hT, j3⟩, q4, fun hl => (live_save V.gen t hl).2⟩⟩
      · rcases q.1 with q | q
        · exact h2 q
        · have := hTb.1; omega
      · rw [q4, put_same]
        exact h5.saved hv
      · rcases j1 b q with q | q
        · exact .inl (k1 b q)
        · exact .inr q
      · rcases Foot.within hw q with q | q
        · exact .inl (k2 b q)
        · exact .inr q
    · rw [q.1] at c1; cases c1
  · rcases hcs with q | q
    · rw [q.1] at c1; cases c1
    · obtain ⟨q1, q2, q3⟩ := q
      refine ⟨hOP, fun b => (P b ∨ w.heap.size ≤ b) ∧ b < w'.heap.size, fun b q => q.1, .inr ⟨by rw [q1], fun hl => (live_save V.gen t hl).1 q1, (S.saveV V.gen t).1, ⟨fun b q => q.2, fun q => ?_, save_ok2 h3 hv, q2, ⟨.inl (k1 v k3.1), j2.lt⟩, j2, F', fun b q => ⟨?_, hT.foot q⟩, hT, fun q => ?_⟩, q3⟩⟩
      · rcases q.1 with q | q
        · exact h2 q
        · have := hTb.1; omega
      · rcases Foot.within hw q with q | q
        · exact .inl (k2 b q)
        · exact .inr q
      · rcases Foot.within hw q with q | q
        · exact k5 v k3.1 q
        · have := k3.lt; omega
/-- what an Open makes of a tape -/
def OpenR (w : World) (g : Nat) (P : Nat → Prop) (S : Tp) (V : Vs) (n : Nat) (e : Ending) (w' : World) : Prop :=
  Off P w w' ∧ ∃ P', Grows w P P' ∧ ((∃ v S', e = .returned (.tuple #[.pointer (some ⟨v, 0, none⟩), .int .i64 0]) ∧ VT w' v g P' S' V ∧ S'.cont = put S.cont 0 ((S.cont 0).take n) ∧ (S.live → S'.live)) ∨ (∃ S', e = .returned (.tuple #[.pointer none, .int .i64 100]) ∧ ¬ S.live ∧ TP w' g P' S' ∧ S'.ok 1 ∧ S'.down = true ∧ After S' V))
theorem VOpen {S : Tp} (g n : Nat) (P : Nat → Prop) (V : Vs) (w : World) (h : TP w g P S) (hok : S.ok 0) (hd : S.down = false) (hTb : Tab 2 w) (hH : Has S.cont V n) :
    Calls Tryd.prog 13 #[.pointer (some ⟨g, 0, none⟩)] w (OpenR w g P S V n) := by
  obtain ⟨h1, h2, F, k2, k4⟩ := h
  have hS : S.Sure := fun i => List.eq_nil_of_length_eq_zero (Nat.le_zero.1 (hok i).2)
  have hcs := mendV_cases hS hd hH
  refine (Open_any g n V F w k4 hok hd hTb (fun q => h2 (k2 _ q)) hH.opened).mono ?_
  rintro e w' ⟨hO, F', hw, hT, hcase⟩
  refine ⟨hO.mono (fun x q => k2 x q), fun b => (P b ∨ w.heap.size ≤ b) ∧ b < w'.heap.size, fun b q => q.1, ?_⟩
  have hP2 : ¬ ((P 2 ∨ w.heap.size ≤ 2) ∧ 2 < w'.heap.size) := fun q => by
    rcases q.1 with q | q
    · exact h2 q
    · have := hTb.1; omega
  have hFP : ∀ b, Foot g F' b → (P b ∨ w.heap.size ≤ b) ∧ b < w'.heap.size := fun b q => ⟨by
    rcases Foot.within hw q with q | q
    · exact .inl (k2 b q)
    · exact .inr q, hT.foot q⟩
  rcases hcs with ⟨q1, q2, q3, q4, q5⟩ | ⟨q1, q2, q3⟩
  · rcases hcase with ⟨c1, v, H, rfl, j1, j2, j3⟩ | ⟨c1, _⟩
    · exact .inl ⟨v, (S.mendV n).1, rfl, ⟨fun b q => q.2, hP2, (mendV_ok n hok).sure q2, q3, q5, H, F', fun b q => ⟨.inr (j1 b q), j2.2.1 b q⟩, hFP, j2, hT, j3⟩, q4, fun hl => (live_mend n hl).2⟩
    · exact absurd q1 c1
  · rcases hcase with ⟨c1, _⟩ | ⟨c1, rfl⟩
    · rw [q1] at c1; cases c1
    · rw [q1]
      exact .inr ⟨(S.mendV n).1, rfl, fun hl => (live_mend n hl).1 q1, ⟨fun b q => q.2, hP2, F', hFP, hT⟩, mendV_ok n hok, q2, q3⟩
/-- a new tape -/
theorem VNew (w : World) (hTb : Tab 2 w) : Calls Tryd.prog 12 #[] w fun e w' => ∃ (g : Nat) (P : Nat → Prop), e = .returned (.pointer (some ⟨g, 0, none⟩)) ∧ (∀ b, P b → w.heap.size ≤ b) ∧ TP w' g P Tp.new ∧ Below w.heap.size w w' := by
  refine (TNew_any w).mono ?_
  rintro e w' ⟨g, rfl, hg, hT, hb⟩
  refine ⟨g, fun b => b = g, rfl, fun b q => by subst q; exact hg, ⟨fun b q => by subst q; exact hT.glt, fun q => by have := hTb.1; omega, fun _ _ => False, fun b q => ?_, hT⟩, hb⟩
  rcases q with q | ⟨_, q⟩
  · exact q
  · exact q.elim
theorem live_new : Tp.new.live := ⟨rfl, by show (-1 : Int) < 0; omega⟩
/-- what a crash leaves -/
theorem VCrash {S : Tp} (g n c K : Nat) (A : Option Addr) (kept : List Int) (P : Nat → Prop) (w : World) (h : TP w g P S) (hok : S.ok K) (hK : K ≤ 100000000) (hI : Is w A n kept) (hTb : Tab 2 w) :
    Calls Tryd.prog 15 #[.pointer (some ⟨g, 0, none⟩), .slice A n c] w fun e w' => ∃ (g' : Nat) (P' : Nat → Prop), e = .returned (.pointer (some ⟨g', 0, none⟩)) ∧ (∀ b, P' b → w.heap.size ≤ b) ∧ TP w' g' P' (S.crash kept) ∧ Below w.heap.size w w' := by
  obtain ⟨h1, h2, F, k2, k4⟩ := h
  refine (Crash_any g K n c A kept F w k4 hok hK hI).mono ?_
  rintro e w' ⟨g', F', rfl, hT, hF, hb⟩
  exact ⟨g', Foot g' F', rfl, hF, ⟨fun b q => hT.foot q, fun q => by have := hF 2 q; have := hTb.1; omega, F', fun b q => q, hT⟩, hb⟩
theorem crash_live (S : Tp) (kept : List Int) : (S.crash kept).live := ⟨rfl, by show (-1 : Int) < 0; omega⟩
end Go.Proofs.YtgiobcpljbpmiaaDoor
