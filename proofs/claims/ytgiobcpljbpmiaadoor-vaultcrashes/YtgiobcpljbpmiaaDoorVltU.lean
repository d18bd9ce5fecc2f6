/-
  A vault's calls, as calls of its tape: behind each, and behind a crash of each at any step.
-/
import Derived.Test.YtgiobcpljbpmiaaDoorVltT
namespace Go.Proofs.YtgiobcpljbpmiaaDoor
def Tp.cont (S : Tp) : Nat → List UInt8 := fun i => (S.f i).now
/-- no step is open -/
def Tp.Sure (S : Tp) : Prop := ∀ i, (S.f i).opn = []
theorem Tp.Sure.now {S : Tp} (h : S.Sure) (i : Nat) : S.cont i = (S.f i).sure := by
  unfold Tp.cont Fl.now; rw [h i]; rfl
theorem crash_sure (S : Tp) (kept : List Int) : (S.crash kept).Sure := fun _ => rfl
theorem new_sure : Tp.new.Sure := fun _ => rfl
theorem cont_new : Tp.new.cont = fun _ => [] := rfl
theorem play_apps : ∀ (l s : List UInt8), play s (l.map Stp.app) = s ++ l
  | [], s => by simp [play]
  | b :: l, s => by
    have h := play_apps l (s ++ [b])
    simp only [play, List.map_cons, List.foldl_cons, pstep] at h ⊢
    rw [h]; simp
theorem pow_cases {S : Tp} (_hd : S.down = false) : S.pow = none ∨ ∃ T, S.pow = some T ∧ T.f = S.f ∧ T.down = false := by
  cases h : S.pow with
  | none => exact .inl rfl
  | some T =>
    refine .inr ⟨T, rfl, pow_f h, ?_⟩
    unfold Tp.pow at h
    split at h
    · cases h
    · injection h with h; subst h; rfl
theorem upd_upd (f : Nat → Fl) (i : Nat) (x y : Fl) : upd (upd f i x) i y = upd f i y := by
  funext j; unfold upd; split <;> rfl
theorem upd_eta (f : Nat → Fl) (i : Nat) : upd f i (f i) = f := by
  funext j; unfold upd; split
  · rename_i h; rw [h]
  · rfl
theorem put_eta (f : Nat → List UInt8) (i : Nat) : put f i (f i) = f := by
  funext j; unfold put; split
  · rename_i h; rw [h]
  · rfl
theorem put_put (f : Nat → List UInt8) (i : Nat) (x y : List UInt8) : put (put f i x) i y = put f i y := by
  funext j; unfold put; split <;> rfl
/-- bytes put behind a file's: all, or the first ones till the power went -/
theorem run_cases (i : Nat) : ∀ (l : List UInt8) (S : Tp), S.down = false → ∃ k, k ≤ l.length ∧ (S.run i l).1.f = upd S.f i ⟨(S.f i).sure, (S.f i).opn ++ (l.take k).map Stp.app⟩ ∧
    (((S.run i l).2 = 0 ∧ k = l.length ∧ (S.run i l).1.down = false) ∨ ((S.run i l).2 = 100 ∧ k < l.length ∧ (S.run i l).1.down = true))
  | [], S, hd => ⟨0, Nat.le_refl _, by simp [Tp.run, upd_eta], .inl ⟨rfl, rfl, hd⟩⟩
  | b :: l, S, hd => by
    rw [Tp.run]
    rcases pow_cases hd with h | ⟨T, h, hf, hT⟩
    · rw [h]
      exact ⟨0, Nat.zero_le _, by simp [Tp.dead, upd_eta], .inr ⟨rfl, by simp, rfl⟩⟩
    · rw [h]
      obtain ⟨k, k1, k2, k3⟩ := run_cases i l (T.add i (.app b)) hT
      refine ⟨k + 1, by simp; omega, ?_, ?_⟩
      · simp only
        rw [k2]
        simp only [Tp.add, upd_same, upd_upd, hf, List.take_succ_cons, List.map_cons, List.append_assoc, List.cons_append, List.nil_append]
      · simp only [List.length_cons]
        rcases k3 with ⟨q1, q2, q3⟩ | ⟨q1, q2, q3⟩
        · exact .inl ⟨q1, by omega, q3⟩
        · exact .inr ⟨q1, by omega, q3⟩
/-- what a crash leaves, where one file alone has open steps -/
theorem cont_crash {S X : Tp} (hS : S.Sure) (i : Nat) (x : Fl) (hX : X.f = upd S.f i x) (kept : List Int) : ∃ m, m ≤ x.opn.length ∧ (X.crash kept).cont = put S.cont i (play x.sure (x.opn.take m)) := by
  refine ⟨keepN kept i x.opn.length, keepN_le _ _ _, ?_⟩
  funext j
  unfold Tp.cont Tp.crash Fl.now
  rw [hX]
  by_cases hj : j = i
  · subst hj
    rw [put_same]
    simp only [upd_same]
    rfl
  · rw [put_other _ _ hj]
    simp only [upd_other _ _ hj]
    show (S.f j).after _ = play (S.f j).sure (S.f j).opn
    unfold Fl.after
    rw [hS j, List.take_nil]
theorem cont_upd {S X : Tp} (i : Nat) (x : Fl) (hX : X.f = upd S.f i x) : X.cont = put S.cont i x.now := by
  funext j
  unfold Tp.cont
  rw [hX]
  by_cases hj : j = i
  · subst hj; rw [put_same, upd_same]
  · rw [put_other _ _ hj, upd_other _ _ hj]
/-- a sync: it is made, or the power goes at it -/
theorem sync_cases {S : Tp} (z : Int) (i : Nat) (hz : z = i) (hi : i < 4) (hd : S.down = false) : ((S.syncT z).2 = 0 ∧ (S.syncT z).1.f = upd S.f i ⟨(S.f i).now, []⟩ ∧ (S.syncT z).1.down = false) ∨ ((S.syncT z).2 = 100 ∧ (S.syncT z).1.f = S.f ∧ (S.syncT z).1.down = true) := by
  subst hz
  have hF : isF (i : Int) := ⟨by omega, by omega⟩
  unfold Tp.syncT
  rw [if_pos hF]
  rcases pow_cases hd with h | ⟨T, h, hf, hT⟩
  · rw [h]; exact .inr ⟨rfl, rfl, rfl⟩
  · rw [h]
    refine .inl ⟨rfl, ?_, hT⟩
    simp only [Tp.settle, Int.toNat_natCast, hf]
/-- a cut: it is made, or the power goes at it -/
theorem cut_cases {S : Tp} (z y : Int) (i n : Nat) (hz : z = i) (hy : y = n) (hi : i < 4) (hn : n ≤ (S.cont i).length) (hd : S.down = false) : ((S.cutT z y).2 = 0 ∧ (S.cutT z y).1.f = upd S.f i ⟨(S.f i).sure, (S.f i).opn ++ [.cut n]⟩ ∧ (S.cutT z y).1.down = false) ∨ ((S.cutT z y).2 = 100 ∧ (S.cutT z y).1.f = S.f ∧ (S.cutT z y).1.down = true) := by
  subst hz hy
  have hF : isF (i : Int) ∧ 0 ≤ (n : Int) ∧ (n : Int) ≤ (S.now (i : Int)).length := ⟨⟨by omega, by omega⟩, by omega, by unfold Tp.now; unfold Tp.cont at hn; simp only [Int.toNat_natCast]; omega⟩
  unfold Tp.cutT
  rw [if_pos hF]
  rcases pow_cases hd with h | ⟨T, h, hf, hT⟩
  · rw [h]; exact .inr ⟨rfl, rfl, rfl⟩
  · rw [h]
    refine .inl ⟨rfl, ?_, hT⟩
    simp only [Tp.add, Int.toNat_natCast, hf]
theorem append_cases {S : Tp} (z : Int) (i : Nat) (l : List UInt8) (hz : z = i) (hi : i < 4) (hd : S.down = false) : ((S.append z l).2 = 90 ∧ (S.append z l).1 = S ∧ 1048576 < (S.cont i).length + l.length) ∨
    ((S.cont i).length + l.length ≤ 1048576 ∧ S.append z l = S.run i l) := by
  subst hz
  have hF : isF (i : Int) := ⟨by omega, by omega⟩
  unfold Tp.append
  rw [if_pos hF, if_neg (by rw [hd]; simp)]
  unfold Tp.cont Tp.now
  simp only [Int.toNat_natCast]
  split
  · rename_i h; exact .inl ⟨rfl, rfl, h⟩
  · rename_i h; exact .inr ⟨by omega, rfl⟩
def andThen (p : Tp × Int) (f : Tp → Tp × Int) : Tp × Int := if p.2 = 0 then f p.1 else p
theorem andThen_ok {p : Tp × Int} {f : Tp → Tp × Int} (h : p.2 = 0) : andThen p f = f p.1 := if_pos h
theorem andThen_no {p : Tp × Int} {f : Tp → Tp × Int} (h : p.2 ≠ 0) : andThen p f = p := if_neg h
/-- behind a crash it is this one -/
def After (X : Tp) (V : Vs) : Prop := ∀ kept, ∃ n, Has (X.crash kept).cont V n
def After2 (X : Tp) (V W : Vs) : Prop := ∀ kept, ∃ n, Has (X.crash kept).cont V n ∨ Has (X.crash kept).cont W n
def Tp.addV (S : Tp) (g : Nat) (b : List UInt8) : Tp × Int := andThen (S.append 0 (vFr (g, b))) fun X => X.syncT 0
theorem addV_cases {S : Tp} {V : Vs} {b : List UInt8} (hS : S.Sure) (hd : S.down = false) (hH : Has S.cont V (S.cont 0).length) (hb : okV (V.gen, b)) :
    ((S.addV V.gen b).2 = 90 ∧ (S.addV V.gen b).1 = S ∧ 1048576 < (S.cont 0).length + (vFr (V.gen, b)).length) ∨
    ((S.addV V.gen b).2 = 0 ∧ (S.addV V.gen b).1.Sure ∧ (S.addV V.gen b).1.down = false ∧ (S.addV V.gen b).1.cont = put S.cont 0 (S.cont 0 ++ vFr (V.gen, b)) ∧ (S.cont 0).length + (vFr (V.gen, b)).length ≤ 1048576) ∨
    ((S.addV V.gen b).2 = 100 ∧ (S.addV V.gen b).1.down = true ∧ After2 (S.addV V.gen b).1 V (V.add b)) := by
  unfold Tp.addV
  rcases append_cases (S := S) 0 0 (vFr (V.gen, b)) rfl (by omega) hd with ⟨a1, a2, a3⟩ | ⟨a1, a2⟩
  · rw [andThen_no (by rw [a1]; omega)]
    exact .inl ⟨a1, a2, a3⟩
  · rw [a2]
    obtain ⟨k, k1, k2, k3⟩ := run_cases 0 (vFr (V.gen, b)) S hd
    have hcr : ∀ X : Tp, X.f = (S.run 0 (vFr (V.gen, b))).1.f → After2 X V (V.add b) := fun X hX kept => by
      rw [k2, hS 0, List.nil_append] at hX
      obtain ⟨m, m1, m2⟩ := cont_crash hS 0 _ hX kept
      simp only at m1 m2
      rw [← List.map_take, play_apps, ← hS.now 0, List.take_take] at m2
      rw [m2]
      by_cases hq : min m k < (vFr (V.gen, b)).length
      · exact ⟨_, .inl (hH.part (V.gen, b) hb _ hq)⟩
      · rw [List.take_of_length_le (by omega)]
        exact ⟨_, .inr (hH.add b hb)⟩
    rcases k3 with ⟨q1, q2, q3⟩ | ⟨q1, q2, q3⟩
    · rw [andThen_ok q1]
      rcases sync_cases (S := (S.run 0 (vFr (V.gen, b))).1) 0 0 rfl (by omega) q3 with ⟨r1, r2, r3⟩ | ⟨r1, r2, r3⟩
      · refine .inr (.inl ⟨r1, ?_, r3, ?_, a1⟩)
        · intro j
          rw [r2, k2]
          unfold upd
          split
          · rfl
          · exact hS j
        · have hnow : ((S.run 0 (vFr (V.gen, b))).1.f 0).now = S.cont 0 ++ vFr (V.gen, b) := by
            rw [k2, upd_same, hS 0, List.nil_append, q2, List.take_length]
            unfold Fl.now
            simp only
            rw [play_apps, hS.now 0]
          rw [hnow, k2, upd_upd] at r2
          exact cont_upd 0 _ r2
      · exact .inr (.inr ⟨r1, r3, hcr _ r2⟩)
    · rw [andThen_no (by rw [q1]; omega)]
      exact .inr (.inr ⟨q1, q3, hcr _ rfl⟩)
end Go.Proofs.YtgiobcpljbpmiaaDoor
