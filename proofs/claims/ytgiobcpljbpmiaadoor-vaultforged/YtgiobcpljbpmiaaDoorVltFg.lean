/-
  A tape onto which bytes are put, and read; a vault opened of it stands apart from it.
-/
import Derived.Test.YtgiobcpljbpmiaaDoorVltY
import Derived.Test.YtgiobcpljbpmiaaDoorVltOp
import Derived.Test.YtgiobcpljbpmiaaDoorVltN
namespace Go.Proofs.YtgiobcpljbpmiaaDoor
open Go.RowKit
theorem append_live {S : Tp} (i : Nat) (l : List UInt8) (hi : i < 4) (h : S.live) (hr : (S.cont i).length + l.length ≤ 1048576) : (S.append (i : Int) l).1.live ∧ (S.append (i : Int) l).1.cont = put S.cont i (S.cont i ++ l) := by
  refine ⟨(live_append _ _ h).2, ?_⟩
  rcases append_cases (i : Int) i l rfl hi h.1 with ⟨_, _, q⟩ | ⟨_, e⟩
  · omega
  · rw [e]
    obtain ⟨k, k1, k2, k3⟩ := run_cases i l S h.1
    rcases k3 with ⟨_, rfl, _⟩ | ⟨q, _⟩
    · rw [cont_upd i _ k2, List.take_length]
      congr 1
      show play _ (_ ++ _) = _
      rw [play_app, play_apps]
      rfl
    · exact absurd q (live_run i l S h).1
theorem TP.append {S : Tp} (g K m c : Nat) (z : Int) (A : Option Addr) (l : List UInt8) (P : Nat → Prop) (w : World) (h : TP w g P S) (hok : S.ok K) (hK : K + m ≤ 100000000) (hT : Tab 2 w) (hB : Bs w A m l) (hA : ∀ b off, A = some ⟨b, off, none⟩ → ¬ P b) :
    Calls Tryd.prog 29 #[.pointer (some ⟨g, 0, none⟩), .int .i64 z, .slice A m c] w fun e w' => ∃ x P', e = .returned (.int .i64 x) ∧ Grows w P P' ∧ TP w' g P' (S.append z l).1 ∧ Off P w w' := by
  obtain ⟨h1, h2, F, k2, k4⟩ := h
  refine (App_any g K m c z A l F w k4 hok hK hB (fun b off e q => hA b off e (k2 b q))).mono ?_
  rintro e w' ⟨rfl, ⟨F', hw, hT'⟩, ho⟩
  have hg : Grows w P (Foot g F') := fun b q => by
    rcases Foot.within hw q with q | q
    · exact .inl (k2 b q)
    · exact .inr q
  refine ⟨_, Foot g F', rfl, hg, ⟨fun b q => hT'.foot q, fun q => ?_, F', fun b q => q, hT'⟩, ho.mono k2⟩
  rcases hg 2 q with q | q
  · exact h2 q
  · have := hT.1; omega
theorem TP.read {S : Tp} (g K i : Nat) (hi : i < 4) (P : Nat → Prop) (w : World) (h : TP w g P S) (hok : S.ok K) (hK : K ≤ 100000000) (hd : S.down = false) :
    Calls Tryd.prog 31 #[.pointer (some ⟨g, 0, none⟩), .int .i64 (i : Int)] w (Got w (S.cont i) 0) := by
  obtain ⟨h1, h2, F, k2, k4⟩ := h
  have := TRead_any g K (i : Int) F w k4 hok hK
  rw [readL_up hd i hi, readE_up hd i hi] at this
  exact this
/-- what is opened, whatever stands on the tape, apart from it -/
theorem VOpenA {S : Tp} (g n : Nat) (P : Nat → Prop) (V : Vs) (w : World) (h : TP w g P S) {K : Nat} (hok : S.ok K) (hK : K ≤ 90000000) (hl : S.live) (hTb : Tab 2 w) (hH : Opened (S.cont 0) (S.cont 1) (S.cont 2) V.gen V.text V.recs n) :
    Calls Tryd.prog 13 #[.pointer (some ⟨g, 0, none⟩)] w fun e w' => ∃ v H P', e = .returned (.tuple #[.pointer (some ⟨v, 0, none⟩), .int .i64 0]) ∧ Off P w w' ∧ Vlt w' v g H V ∧ (∀ b, H b → w.heap.size ≤ b) ∧ Grows w P P' ∧ TP w' g P' (S.mendV n).1 ∧ ∀ b, H b → ¬ P' b := by
  obtain ⟨h1, h2, F, k2, k4⟩ := h
  have hn : n ≤ (S.cont 0).length := by
    obtain ⟨L, q, _⟩ := hH
    exact q.1.2.1
  have hm := live_mend_cont n hl hn
  refine (Open_anyK g n V F w k4 hok hK hl.1 hTb (fun q => h2 (k2 _ q)) hH).mono ?_
  rintro e w' ⟨hO, F', hw, hT, hcase⟩
  have hg : Grows w P (Foot g F') := fun b q => by
    rcases Foot.within hw q with q | q
    · exact .inl (k2 b q)
    · exact .inr q
  rcases hcase with ⟨c1, v, H, rfl, j1, j2, j3⟩ | ⟨c1, _⟩
  · refine ⟨v, H, Foot g F', rfl, hO.mono k2, j2, j1, hg, ⟨fun b q => hT.foot q, fun q => ?_, F', fun b q => q, hT⟩, j3⟩
    rcases hg 2 q with q | q
    · exact h2 q
    · have := hTb.1; omega
  · exact absurd hm.2.1 c1
theorem Opened.vs (j one two : List UInt8) : ∃ (V : Vs) (n : Nat), Opened j one two V.gen V.text V.recs n := by
  obtain ⟨g, t, R, n, h⟩ := Opened.exists j one two
  exact ⟨⟨g, t, R⟩, n, h⟩
theorem Opened.le {j one two : List UInt8} {g n : Nat} {t : List UInt8} {R : List (List UInt8)} (h : Opened j one two g t R n) : n ≤ j.length := by
  obtain ⟨L, q, _⟩ := h
  exact q.1.2.1
/-- three files are put onto a new tape -/
theorem three (l0 l1 l2 : List UInt8) (h0 : l0.length ≤ 3000) (h1 : l1.length ≤ 3000) (h2 : l2.length ≤ 3000) :
    ∃ S : Tp, S = (((Tp.new.append 0 l0).1.append 1 l1).1.append 2 l2).1 ∧ S.live ∧ S.ok 9000 ∧ S.cont 0 = l0 ∧ S.cont 1 = l1 ∧ S.cont 2 = l2 := by
  obtain ⟨a1, a2⟩ := append_live (S := Tp.new) 0 l0 (by omega) live_new (by rw [cont_new]; simp; omega)
  have a3 := append_ok (S := Tp.new) ((0 : Nat) : Int) l0 (ok_new 0)
  obtain ⟨b1, b2⟩ := append_live 1 l1 (by omega) a1 (by rw [a2, cont_new]; simp [put]; omega)
  have b3 := append_ok ((1 : Nat) : Int) l1 a3
  obtain ⟨c1, c2⟩ := append_live 2 l2 (by omega) b1 (by rw [b2, a2, cont_new]; simp [put]; omega)
  have c3 := append_ok ((2 : Nat) : Int) l2 b3
  refine ⟨_, rfl, c1, c3.mono (by omega), ?_, ?_, ?_⟩
  · show (((Tp.new.append ((0 : Nat) : Int) l0).1.append ((1 : Nat) : Int) l1).1.append ((2 : Nat) : Int) l2).1.cont 0 = l0
    rw [c2, b2, a2, cont_new]; simp [put]
  · show (((Tp.new.append ((0 : Nat) : Int) l0).1.append ((1 : Nat) : Int) l1).1.append ((2 : Nat) : Int) l2).1.cont 1 = l1
    rw [c2, b2, a2, cont_new]; simp [put]
  · show (((Tp.new.append ((0 : Nat) : Int) l0).1.append ((1 : Nat) : Int) l1).1.append ((2 : Nat) : Int) l2).1.cont 2 = l2
    rw [c2, b2, a2, cont_new]; simp [put]
end Go.Proofs.YtgiobcpljbpmiaaDoor
