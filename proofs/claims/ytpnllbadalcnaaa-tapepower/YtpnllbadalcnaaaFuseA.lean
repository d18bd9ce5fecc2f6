/-
  A fuse in plain terms: what each call takes of it, how many steps it makes, and when the power goes.
-/
import Derived.Test.YtpnllbadalcnaaaLawA
namespace Go.Proofs.Ytpnllbadalcnaaa
/-- a fuse is laid: what is left of it, and nothing where the power is gone -/
def Tp.lit (S : Tp) : Prop := 0 ≤ S.fuse ∧ (S.down = true → S.fuse = 0)
/-- d steps were made -/
def Took (S S' : Tp) (d : Nat) : Prop := S'.lit ∧ S'.fuse + (d : Int) = S.fuse
theorem Took.refl {S : Tp} (h : S.lit) : Took S S 0 := ⟨h, by simp⟩
theorem pow_none_lit {S : Tp} (h : S.lit) (hp : S.pow = none) : Took S S.dead 0 := by
  have h0 : S.fuse = 0 := by
    unfold Tp.pow at hp
    split at hp
    · rename_i q
      rcases q with q | q
      · exact h.2 q
      · exact q
    · cases hp
  exact ⟨⟨h.1, fun _ => h0⟩, by show S.fuse + 0 = S.fuse; omega⟩
theorem pow_some_lit {S T : Tp} (h : S.lit) (hp : S.pow = some T) : T.down = false ∧ T.lit ∧ T.fuse + 1 = S.fuse := by
  unfold Tp.pow at hp
  split at hp
  · cases hp
  · rename_i q
    injection hp with hp
    subst hp
    have h1 := h.1
    have h2 : S.fuse ≠ 0 := fun e => q (.inr e)
    refine ⟨rfl, ⟨?_, fun e => by cases e⟩, ?_⟩
    · show 0 ≤ (if 0 < S.fuse then S.fuse - 1 else S.fuse)
      split <;> omega
    · show (if 0 < S.fuse then S.fuse - 1 else S.fuse) + 1 = S.fuse
      split <;> omega
theorem run_lit (i : Nat) : ∀ (l : List UInt8) (S : Tp), S.lit → S.down = false → ∃ d, d ≤ l.length ∧ Took S (S.run i l).1 d ∧ ((S.run i l).1.f i).opn.length = (S.f i).opn.length + d ∧ (((S.run i l).2 = 0 ∧ (S.run i l).1.down = false) ∨ ((S.run i l).2 = 100 ∧ (S.run i l).1.down = true))
  | [], S, h, hd => ⟨0, by simp, Took.refl h, rfl, .inl ⟨rfl, hd⟩⟩
  | b :: l, S, h, hd => by
    rw [Tp.run]
    cases hp : S.pow with
    | none => exact ⟨0, by simp, pow_none_lit h hp, rfl, .inr ⟨rfl, rfl⟩⟩
    | some T =>
      obtain ⟨t1, t2, t3⟩ := pow_some_lit h hp
      obtain ⟨d, q1, q2, q3, q4⟩ := run_lit i l (T.add i (.app b)) t2 t1
      refine ⟨d + 1, by simp; omega, ⟨q2.1, ?_⟩, ?_, q4⟩
      · have e := q2.2
        have e2 : (T.add i (.app b)).fuse = T.fuse := rfl
        show ((T.add i (.app b)).run i l).1.fuse + ((d + 1 : Nat) : Int) = S.fuse
        omega
      · show (((T.add i (.app b)).run i l).1.f i).opn.length = _
        rw [q3, add_f, pow_f hp]
        simp; omega
theorem append_lit {S : Tp} (z : Int) (l : List UInt8) (h : S.lit) : ∃ d, d ≤ l.length ∧ Took S (S.append z l).1 d ∧ (S.append z l).1.openN z = S.openN z + d ∧ ((S.append z l).2 == 100) = ((S.append z l).1.down && decide (isF z)) := by
  unfold Tp.append Tp.openN
  by_cases hz : isF z
  · rw [if_pos hz, if_pos hz]
    by_cases hd : S.down = true
    · rw [if_pos hd]
      exact ⟨0, by simp, Took.refl h, by rw [if_pos hz]; rfl, by simp [hd, hz]⟩
    · rw [if_neg hd]
      have hd' : S.down = false := by simpa using hd
      by_cases hf : 1048576 < (S.now z).length + l.length
      · rw [if_pos hf]
        exact ⟨0, by simp, Took.refl h, by rw [if_pos hz]; rfl, by simp [hd']⟩
      · rw [if_neg hf]
        obtain ⟨d, q1, q2, q3, q4⟩ := run_lit z.toNat l S h hd'
        refine ⟨d, q1, q2, by rw [if_pos hz]; exact q3, ?_⟩
        rcases q4 with ⟨e1, e2⟩ | ⟨e1, e2⟩
        · rw [e1, e2]; rfl
        · rw [e1, e2]; simp [hz]
  · rw [if_neg hz, if_neg hz]
    exact ⟨0, by simp, Took.refl h, rfl, by simp [hz]⟩
theorem cut_lit {S : Tp} (z n : Int) (h : S.lit) : ∃ d, d ≤ 1 ∧ Took S (S.cutT z n).1 d ∧ (S.cutT z n).1.openN z = S.openN z + d := by
  unfold Tp.cutT Tp.openN
  by_cases hc : isF z ∧ 0 ≤ n ∧ n ≤ (S.now z).length
  · rw [if_pos hc, if_pos hc.1]
    cases hp : S.pow with
    | none => exact ⟨0, by simp, pow_none_lit h hp, by simp only; rw [if_pos hc.1]; rfl⟩
    | some T =>
      obtain ⟨t1, t2, t3⟩ := pow_some_lit h hp
      refine ⟨1, by simp, ⟨t2, t3⟩, ?_⟩
      simp only
      rw [if_pos hc.1, add_f, pow_f hp]
      simp
  · rw [if_neg hc]
    exact ⟨0, by simp, Took.refl h, rfl⟩
theorem sync_lit {S : Tp} (z : Int) (h : S.lit) : (¬ isF z ∧ S.syncT z = (S, 1)) ∨ (isF z ∧ (S.syncT z).2 = 100 ∧ (S.syncT z).1.down = true ∧ Took S (S.syncT z).1 0) ∨ (isF z ∧ (S.syncT z).2 = 0 ∧ (S.syncT z).1.down = false ∧ Took S (S.syncT z).1 1) := by
  unfold Tp.syncT
  by_cases hz : isF z
  · rw [if_pos hz]
    right
    cases hp : S.pow with
    | none => exact .inl ⟨hz, rfl, rfl, pow_none_lit h hp⟩
    | some T =>
      obtain ⟨t1, t2, t3⟩ := pow_some_lit h hp
      exact .inr ⟨hz, rfl, t1, t2, t3⟩
  · rw [if_neg hz]
    exact .inl ⟨hz, rfl⟩
end Go.Proofs.Ytpnllbadalcnaaa
