/-
  Plain facts of tapes that have power for ever, of sizes, and of a fuse.
-/
import Derived.Test.YtpnllbadalcnaaaTapH
namespace Go.Proofs.Ytpnllbadalcnaaa
theorem play_apps (l : List UInt8) : ∀ D : List UInt8, play l (D.map Stp.app) = l ++ D
  | [] => by simp [play_nil]
  | b :: D => by
    show play (l ++ [b]) (D.map Stp.app) = _
    rw [play_apps (l ++ [b]) D, List.append_assoc]; rfl
/-- power for ever -/
def Tp.free (S : Tp) : Prop := S.down = false ∧ S.fuse = -1
theorem free_new : Tp.new.free := ⟨rfl, rfl⟩
theorem free_crash (S : Tp) (kept : List Int) : (S.crash kept).free := ⟨rfl, rfl⟩
theorem free_pow {S : Tp} (h : S.free) : S.pow = some S := by
  obtain ⟨f, z, d⟩ := S
  obtain ⟨h1, h2⟩ := h
  simp only at h1 h2
  subst h1 h2
  unfold Tp.pow
  rw [if_neg (by simp)]
  rfl
theorem free_add {S : Tp} (h : S.free) (i : Nat) (x : Stp) : (S.add i x).free := h
theorem add_f (S : Tp) (i : Nat) (x : Stp) : (S.add i x).f i = ⟨(S.f i).sure, (S.f i).opn ++ [x]⟩ := upd_same _ _ _
theorem add_other (S : Tp) {i j : Nat} (x : Stp) (h : j ≠ i) : (S.add i x).f j = S.f j := upd_other _ _ h
theorem run_free (i : Nat) : ∀ (l : List UInt8) (S : Tp), S.free → (S.run i l).2 = 0 ∧ (S.run i l).1.free ∧ (S.run i l).1.f i = ⟨(S.f i).sure, (S.f i).opn ++ l.map Stp.app⟩ ∧ ∀ j, j ≠ i → (S.run i l).1.f j = S.f j
  | [], S, h => ⟨rfl, h, by show S.f i = _; simp, fun _ _ => rfl⟩
  | b :: l, S, h => by
    rw [Tp.run, free_pow h]
    obtain ⟨q1, q2, q3, q4⟩ := run_free i l (S.add i (.app b)) (free_add h i _)
    refine ⟨q1, q2, ?_, fun j hj => (q4 j hj).trans (add_other S _ hj)⟩
    show ((S.add i (.app b)).run i l).1.f i = _
    rw [q3, add_f, List.append_assoc]; rfl
theorem append_free {S : Tp} {i : Nat} {l : List UInt8} (h : S.free) (hi : i < 4) (hl : (S.f i).now.length + l.length ≤ 1048576) :
    (S.append i l).2 = 0 ∧ (S.append i l).1.free ∧ (S.append i l).1.f i = ⟨(S.f i).sure, (S.f i).opn ++ l.map Stp.app⟩ ∧ ∀ j, j ≠ i → (S.append i l).1.f j = S.f j := by
  unfold Tp.append Tp.now
  rw [if_pos (isF_of hi), if_neg (by rw [h.1]; decide), Int.toNat_natCast, if_neg (by omega)]
  exact run_free i l S h
theorem append_full {S : Tp} {i : Nat} {l : List UInt8} (h : S.free) (hi : i < 4) (hl : 1048576 < (S.f i).now.length + l.length) : S.append i l = (S, 90) := by
  unfold Tp.append Tp.now
  rw [if_pos (isF_of hi), if_neg (by rw [h.1]; decide), Int.toNat_natCast, if_pos hl]
/-- whatever is appended: a free tape stays so; the file has it behind its steps, or is as it was -/
theorem append_any {S : Tp} (z : Int) (l : List UInt8) (h : S.free) : (S.append z l).1.free ∧ ((S.append z l).1 = S ∨ ((S.append z l).1.f z.toNat = ⟨(S.f z.toNat).sure, (S.f z.toNat).opn ++ l.map Stp.app⟩ ∧ ∀ j, j ≠ z.toNat → (S.append z l).1.f j = S.f j)) := by
  unfold Tp.append
  split
  · rw [if_neg (by rw [h.1]; decide)]
    split
    · exact ⟨h, .inl rfl⟩
    · obtain ⟨_, q2, q3, q4⟩ := run_free z.toNat l S h
      exact ⟨q2, .inr ⟨q3, q4⟩⟩
  · exact ⟨h, .inl rfl⟩
theorem cut_free {S : Tp} (z n : Int) (h : S.free) : (S.cutT z n).1.free := by
  unfold Tp.cutT
  split
  · rw [free_pow h]; exact h
  · exact h
theorem sync_free {S : Tp} (z : Int) (h : S.free) : (S.syncT z).1.free := by
  unfold Tp.syncT
  split
  · rw [free_pow h]; exact h
  · exact h
theorem sync_in {S : Tp} {i : Nat} (h : S.free) (hi : i < 4) : S.syncT i = (S.settle i, 0) := by
  unfold Tp.syncT
  rw [if_pos (isF_of hi), free_pow h]; rfl
theorem doT_free {S : Tp} (x : Cl) (h : S.free) : (doT S x).free := by
  unfold doT
  split
  · exact (append_any _ _ h).1
  · split
    · exact cut_free _ _ h
    · split
      · exact sync_free _ h
      · exact h
theorem playT_free : ∀ (L : List Cl) (S : Tp), S.free → (playT S L).free
  | [], _, h => h
  | x :: L, S, h => playT_free L (doT S x) (doT_free x h)
theorem read_free {S : Tp} {i : Nat} (h : S.free) (hi : i < 4) : S.readL i = (S.f i).now ∧ S.readE i = 0 := by
  unfold Tp.readL Tp.readE Tp.now
  rw [if_pos ⟨isF_of hi, h.1⟩, if_pos (isF_of hi), if_neg (by rw [h.1]; decide), Int.toNat_natCast]
  exact ⟨rfl, rfl⟩
theorem open_in {S : Tp} {i : Nat} (hi : i < 4) : S.openN i = (S.f i).opn.length := by
  unfold Tp.openN
  rw [if_pos (isF_of hi), Int.toNat_natCast]
/-- how great it is -/
def Tp.sz (S : Tp) (B : Nat) : Prop := ∀ i, (S.f i).sure.length + (S.f i).opn.length ≤ B
theorem play_length : ∀ (s : List Stp) (l : List UInt8), (play l s).length ≤ l.length + s.length
  | [], l => by simp [play_nil]
  | x :: s, l => by
    have h := play_length s (pstep l x)
    have h2 : (pstep l x).length ≤ l.length + 1 := by cases x <;> simp [pstep]; omega
    show (play (pstep l x) s).length ≤ _
    simp only [List.length_cons]
    omega
theorem Tp.sz.mono {S : Tp} {B B' : Nat} (h : S.sz B) (hB : B ≤ B') : S.sz B' := fun i => Nat.le_trans (h i) hB
theorem Tp.sz.now {S : Tp} {B : Nat} (h : S.sz B) (i : Nat) : (S.f i).now.length ≤ B := Nat.le_trans (play_length _ _) (h i)
theorem add_sz {S : Tp} {B : Nat} (i : Nat) (x : Stp) (h : S.sz B) : (S.add i x).sz (B + 1) := fun j => by
  by_cases hj : j = i
  · subst hj; rw [add_f]; have := h j; simp; omega
  · rw [add_other S x hj]; have := h j; omega
theorem append_sz {S : Tp} {B : Nat} (z : Int) (l : List UInt8) (hf : S.free) (h : S.sz B) : (S.append z l).1.sz (B + l.length) := fun j => by
  rcases (append_any z l hf).2 with e | ⟨e1, e2⟩
  · rw [e]; have := h j; omega
  · by_cases hj : j = z.toNat
    · subst hj; rw [e1]; have := h z.toNat; simp; omega
    · rw [e2 j hj]; have := h j; omega
theorem cut_sz {S : Tp} {B : Nat} (z n : Int) (hf : S.free) (h : S.sz B) : (S.cutT z n).1.sz (B + 1) := by
  unfold Tp.cutT
  split
  · rw [free_pow hf]; exact add_sz _ _ h
  · exact h.mono (Nat.le_succ _)
theorem settle_sz {S : Tp} {B : Nat} (i : Nat) (h : S.sz B) : (S.settle i).sz B := fun j => by
  by_cases hj : j = i
  · subst hj
    show (upd S.f j _ j).sure.length + (upd S.f j _ j).opn.length ≤ B
    rw [upd_same]
    exact h.now j
  · show (upd S.f i _ j).sure.length + (upd S.f i _ j).opn.length ≤ B
    rw [upd_other _ _ hj]
    exact h j
theorem sync_sz {S : Tp} {B : Nat} (z : Int) (hf : S.free) (h : S.sz B) : (S.syncT z).1.sz B := by
  unfold Tp.syncT
  split
  · rw [free_pow hf]; exact settle_sz _ h
  · exact h
theorem doT_sz {S : Tp} {B : Nat} (x : Cl) (hx : x.b.length ≤ 500) (hf : S.free) (h : S.sz B) : (doT S x).sz (B + 500) := by
  unfold doT
  split
  · exact (append_sz _ _ hf h).mono (by omega)
  · split
    · exact (cut_sz _ _ hf h).mono (by omega)
    · split
      · exact (sync_sz _ hf h).mono (by omega)
      · exact h.mono (by omega)
theorem playT_sz : ∀ (L : List Cl) (S : Tp) (B : Nat), (∀ x ∈ L, x.b.length ≤ 500) → S.free → S.sz B → (playT S L).sz (B + 500 * L.length)
  | [], _, B, _, _, h => h
  | x :: L, S, B, hL, hf, h => by
    have := playT_sz L (doT S x) (B + 500) (fun y hy => hL y (List.mem_cons_of_mem _ hy)) (doT_free x hf) (doT_sz x (hL x List.mem_cons_self) hf h)
    simp only [List.length_cons]
    show (playT (doT S x) L).sz _
    exact this.mono (by omega)
theorem sz_new : Tp.new.sz 0 := fun i => by show (⟨[], []⟩ : Fl).sure.length + (⟨[], []⟩ : Fl).opn.length ≤ 0; simp
end Go.Proofs.Ytpnllbadalcnaaa
