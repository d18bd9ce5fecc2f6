/-
  A vault whose tape has a fuse: up, or down; its tape behind a crash.
-/
import Derived.Test.YtgiobcpljbpmiaaDoorVltW
namespace Go.Proofs.YtgiobcpljbpmiaaDoor
open Go.RowKit
theorem fuse_cont (S : Tp) (n : Int) : (S.fuseT n).cont = S.cont := rfl
theorem fuse_okT {S : Tp} {K : Nat} (n : Int) (h : S.ok K) : (S.fuseT n).ok K := h
/-- whatever is kept, a vault is there -/
def Cr (S : Tp) : Prop := ∀ kept, ∃ V n, Has (S.crash kept).cont V n
theorem VT.cr {w : World} {v g : Nat} {P : Nat → Prop} {S : Tp} {V : Vs} (h : VT w v g P S V) : Cr S := fun kept => ⟨V, _, by rw [crash_cont h.2.2.1]; exact h.2.2.2.2.1⟩
theorem After2.cr {S : Tp} {V W : Vs} (h : After2 S V W) : Cr S := fun kept => by
  obtain ⟨n, q | q⟩ := h kept
  · exact ⟨V, n, q⟩
  · exact ⟨W, n, q⟩
theorem TP.fuse {S : Tp} (g : Nat) (n : Int) (P : Nat → Prop) (w : World) (h : TP w g P S) (hn : n < 9223372036854775808) :
    Calls Tryd.prog 17 #[.pointer (some ⟨g, 0, none⟩), .int .i64 n] w fun e w' => e = .returned (.tuple #[]) ∧ TP w' g P (S.fuseT n) ∧ Off P w w' := by
  obtain ⟨h1, h2, F, k2, k4⟩ := h
  have hP : P g := k2 g (.inl rfl)
  refine (Fuse_any g n F w k4 hn).mono ?_
  rintro e w' ⟨rfl, hT, ho⟩
  exact ⟨rfl, ⟨fun b q => Nat.lt_of_lt_of_le (h1 b q) ho.size, h2, F, k2, hT⟩, ho.mono (fun x q => by subst q; exact hP)⟩
theorem VT.fuse {S : Tp} (v g : Nat) (n : Int) (P : Nat → Prop) (V : Vs) (w : World) (h : VT w v g P S V) (hn : n < 9223372036854775808) :
    Calls Tryd.prog 17 #[.pointer (some ⟨g, 0, none⟩), .int .i64 n] w fun e w' => e = .returned (.tuple #[]) ∧ VT w' v g P (S.fuseT n) V ∧ Off P w w' := by
  obtain ⟨h1, h2, h3, h4, h5, H, F, k1, k2, k3, k4, k5⟩ := h
  refine (Fuse_any g n F w k4 hn).mono ?_
  rintro e w' ⟨rfl, hT, ho⟩
  have hg : P g := k2 g (.inl rfl)
  exact ⟨rfl, ⟨fun b q => Nat.lt_of_lt_of_le (h1 b q) ho.size, h2, h3, h4, h5, H, F, k1, k2, k3.off ho (fun b q e => by subst e; exact k5 _ q (.inl rfl)), hT, k5⟩, ho.mono (fun x q => by subst q; exact hg)⟩
theorem TP.downs {S : Tp} (g : Nat) (P : Nat → Prop) (w : World) (h : TP w g P S) : Calls Tryd.prog 18 #[.pointer (some ⟨g, 0, none⟩)] w fun e w' => e = .returned (.bool S.down) ∧ w = w' := by
  obtain ⟨_, _, F, _, k4⟩ := h
  exact Down_any g F w k4
/-- up, or down -/
def St (w : World) (v g : Nat) (P : Nat → Prop) (S : Tp) (k : Nat) : Prop := (∃ V, VT w v g P S V ∧ V.gen ≤ k) ∨ (VD w v g P S ∧ Cr S)
theorem St.tape {w : World} {v g k : Nat} {P : Nat → Prop} {S : Tp} (h : St w v g P S k) : TP w g P S ∧ S.ok 1000000 ∧ Cr S := by
  rcases h with ⟨V, h, _⟩ | ⟨h, hc⟩
  · exact ⟨h.tape, h.2.2.1.mono (by omega), h.cr⟩
  · exact ⟨h.tape, h.2.2.1, hc⟩
theorem St.below {w w' : World} {v g k : Nat} {P : Nat → Prop} {S : Tp} (h : St w v g P S k) (hb : Below w.heap.size w w') : St w' v g P S k := by
  rcases h with ⟨V, h, q⟩ | ⟨h, hc⟩
  · exact .inl ⟨V, h.below hb, q⟩
  · exact .inr ⟨h.below hb, hc⟩
theorem St.mono {w : World} {v g k k' : Nat} {P : Nat → Prop} {S : Tp} (h : St w v g P S k) (hk : k ≤ k') : St w v g P S k' := by
  rcases h with ⟨V, h, q⟩ | h
  · exact .inl ⟨V, h, Nat.le_trans q hk⟩
  · exact .inr h
def StR (w : World) (v g : Nat) (P : Nat → Prop) (k : Nat) (e : Ending) (w' : World) : Prop := ∃ x, e = .returned (.int .i64 x) ∧ Off P w w' ∧ ∃ P' S', Grows w P P' ∧ St w' v g P' S' k
theorem VAddSt {S : Tp} (v g n c k : Nat) (A : Option Addr) (t : List UInt8) (P : Nat → Prop) (w : World) (h : St w v g P S k) (hTb : Tab 2 w) (hB : Bs w A n t) (hn : n ≤ 262080) (hk : k ≤ 1000) :
    Calls Tryd.prog 19 #[.pointer (some ⟨v, 0, none⟩), .slice A n c] w (StR w v g P k) := by
  rcases h with ⟨V, h, hg⟩ | ⟨h, hc⟩
  · refine (VAdd v g n c A t P V w h hTb hB hn (by omega)).mono ?_
    rintro e w' ⟨ho, P', hgr, ⟨rfl, S', h1, _⟩ | ⟨rfl, h1, _⟩ | ⟨rfl, _, S', h1, h2⟩⟩
    · exact ⟨_, rfl, ho, P', S', hgr, .inl ⟨_, h1, hg⟩⟩
    · exact ⟨_, rfl, ho, P', S, hgr, .inl ⟨_, h1, hg⟩⟩
    · exact ⟨_, rfl, ho, P', S', hgr, .inr ⟨h1, h2.cr⟩⟩
  · refine (Add_down v A n c w h.2.2.2.2.2.1).mono ?_
    rintro e w' ⟨rfl, rfl⟩
    exact ⟨_, rfl, Off.of_below (Below.refl _ _), P, S, fun b q => .inl q, .inr ⟨h, hc⟩⟩
theorem VSaveSt {S : Tp} (v g n c k : Nat) (A : Option Addr) (t : List UInt8) (P : Nat → Prop) (w : World) (h : St w v g P S k) (hTb : Tab 2 w) (hB : Bs w A n t) (hn : n ≤ 262080) (hk : k ≤ 1000) :
    Calls Tryd.prog 22 #[.pointer (some ⟨v, 0, none⟩), .slice A n c] w (StR w v g P (k + 1)) := by
  rcases h with ⟨V, h, hg⟩ | ⟨h, hc⟩
  · refine (VSave v g n c A t P V w h hTb hB hn (by omega)).mono ?_
    rintro e w' ⟨ho, P', hgr, ⟨rfl, S', h1, _⟩ | ⟨rfl, _, S', h1, h2⟩⟩
    · exact ⟨_, rfl, ho, P', S', hgr, .inl ⟨_, h1, by show V.gen + 1 ≤ k + 1; omega⟩⟩
    · exact ⟨_, rfl, ho, P', S', hgr, .inr ⟨h1, h2.cr⟩⟩
  · refine (Save_down v A n c w h.2.2.2.2.2.1).mono ?_
    rintro e w' ⟨rfl, rfl⟩
    exact ⟨_, rfl, Off.of_below (Below.refl _ _), P, S, fun b q => .inl q, .inr ⟨h, hc⟩⟩
/-- a tape that is just behind a crash, and a vault is there -/
theorem VOpenCr {S : Tp} (g n K : Nat) (kept : List Int) (P : Nat → Prop) (V : Vs) (w : World) (h : TP w g P (S.crash kept)) (hok : S.ok K) (hTb : Tab 2 w) (hH : Has (S.crash kept).cont V n) :
    Calls Tryd.prog 13 #[.pointer (some ⟨g, 0, none⟩)] w fun e w' => ∃ v, e = .returned (.tuple #[.pointer (some ⟨v, 0, none⟩), .int .i64 0]) ∧ Off P w w' ∧ ∃ P' S', Grows w P P' ∧ VT w' v g P' S' V := by
  refine (VOpen g n P V w h (crash_ok kept 0 hok) rfl hTb hH).mono ?_
  intro e w' hr
  obtain ⟨v, he, ho, P', S', hg, hv, _, _⟩ := hr.ok (crash_live S kept)
  exact ⟨v, he, ho, P', S', hg, hv⟩
/-- a tape with a fuse is opened: the vault, or the power goes -/
theorem VOpenOk {S : Tp} (g n : Nat) (P : Nat → Prop) (V : Vs) (w : World) (h : TP w g P S) (hok : S.ok 0) (hd : S.down = false) (hTb : Tab 2 w) (hH : Has S.cont V n) (hr : (S.mendV n).2 = 0) :
    Calls Tryd.prog 13 #[.pointer (some ⟨g, 0, none⟩)] w fun e w' => ∃ v, e = .returned (.tuple #[.pointer (some ⟨v, 0, none⟩), .int .i64 0]) ∧ Off P w w' ∧ ∃ P' S', Grows w P P' ∧ TP w' g P' S' ∧ S'.ok 1 ∧ S'.down = false ∧ After S' V := by
  obtain ⟨h1, h2, F, k2, k4⟩ := h
  have hS : S.Sure := fun i => List.eq_nil_of_length_eq_zero (Nat.le_zero.1 (hok i).2)
  rcases mendV_cases hS hd hH with ⟨_, q2, q3, _, q5⟩ | ⟨q1, _⟩
  · refine (Open_any g n V F w k4 hok hd hTb (fun q => h2 (k2 _ q)) hH.opened).mono ?_
    rintro e w' ⟨hO, F', hw, hT, hcase⟩
    have hP2 : ¬ ((P 2 ∨ w.heap.size ≤ 2) ∧ 2 < w'.heap.size) := fun q => by
      rcases q.1 with q | q
      · exact h2 q
      · have := hTb.1; omega
    have hFP : ∀ b, Foot g F' b → (P b ∨ w.heap.size ≤ b) ∧ b < w'.heap.size := fun b q => ⟨by
      rcases Foot.within hw q with q | q
      · exact .inl (k2 b q)
      · exact .inr q, hT.foot q⟩
    rcases hcase with ⟨c1, v, H, rfl, _⟩ | ⟨c1, _⟩
    · refine ⟨v, rfl, hO.mono (fun x q => k2 x q), fun b => (P b ∨ w.heap.size ≤ b) ∧ b < w'.heap.size, (S.mendV n).1, fun b q => q.1, ⟨fun b q => q.2, hP2, F', hFP, hT⟩, mendV_ok n hok, q3, fun kept => ⟨((S.mendV n).1.cont 0).length, ?_⟩⟩
      rw [crash_cont ((mendV_ok n hok).sure q2)]
      exact q5
    · exact absurd hr c1
  · rw [hr] at q1; cases q1
theorem VOpenDown {S : Tp} (g n : Nat) (P : Nat → Prop) (V : Vs) (w : World) (h : TP w g P S) (hok : S.ok 0) (hd : S.down = false) (hTb : Tab 2 w) (hH : Has S.cont V n) (hr : (S.mendV n).2 ≠ 0) :
    Calls Tryd.prog 13 #[.pointer (some ⟨g, 0, none⟩)] w fun e w' => e = .returned (.tuple #[.pointer none, .int .i64 100]) ∧ Off P w w' ∧ ∃ P' S', Grows w P P' ∧ TP w' g P' S' ∧ S'.ok 1 ∧ S'.down = true ∧ After S' V := by
  obtain ⟨h1, h2, F, k2, k4⟩ := h
  have hS : S.Sure := fun i => List.eq_nil_of_length_eq_zero (Nat.le_zero.1 (hok i).2)
  rcases mendV_cases hS hd hH with ⟨q1, _⟩ | ⟨q1, q2, q3⟩
  · exact absurd q1 hr
  · refine (Open_any g n V F w k4 hok hd hTb (fun q => h2 (k2 _ q)) hH.opened).mono ?_
    rintro e w' ⟨hO, F', hw, hT, hcase⟩
    have hP2 : ¬ ((P 2 ∨ w.heap.size ≤ 2) ∧ 2 < w'.heap.size) := fun q => by
      rcases q.1 with q | q
      · exact h2 q
      · have := hTb.1; omega
    have hFP : ∀ b, Foot g F' b → (P b ∨ w.heap.size ≤ b) ∧ b < w'.heap.size := fun b q => ⟨by
      rcases Foot.within hw q with q | q
      · exact .inl (k2 b q)
      · exact .inr q, hT.foot q⟩
    rcases hcase with ⟨c1, _⟩ | ⟨_, rfl⟩
    · exact absurd c1 hr
    · exact ⟨by rw [q1], hO.mono (fun x q => k2 x q), fun b => (P b ∨ w.heap.size ≤ b) ∧ b < w'.heap.size, (S.mendV n).1, fun b q => q.1, ⟨fun b q => q.2, hP2, F', hFP, hT⟩, mendV_ok n hok, q2, q3⟩
theorem Off.base {P : Nat → Prop} {w w' : World} {B : Nat} (h : Off P w w') (hP : ∀ b, P b → B ≤ b) (hB : B ≤ w.heap.size) : Below B w w' := h.below hP hB
end Go.Proofs.YtgiobcpljbpmiaaDoor
