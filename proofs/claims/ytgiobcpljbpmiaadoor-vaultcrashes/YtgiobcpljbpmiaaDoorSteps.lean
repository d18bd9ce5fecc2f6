/-
  Tapes in plain terms: steps, what a file is behind them, what each call makes of a tape.
-/
import Derived.Test.YtgiobcpljbpmiaaDoorBase
namespace Go.Proofs.YtgiobcpljbpmiaaDoor
/-- a byte that was appended, or a cut -/
inductive Stp where
  | app (b : UInt8)
  | cut (n : Nat)
def pstep (l : List UInt8) : Stp → List UInt8
  | .app b => l ++ [b]
  | .cut n => l.take n
def play (l : List UInt8) (s : List Stp) : List UInt8 := s.foldl pstep l
theorem play_nil (l : List UInt8) : play l [] = l := rfl
theorem play_app (l : List UInt8) (s t : List Stp) : play l (s ++ t) = play (play l s) t := List.foldl_append
theorem play_snoc (l : List UInt8) (s : List Stp) (x : Stp) : play l (s ++ [x]) = pstep (play l s) x := by rw [play_app]; rfl
theorem play_take (l : List UInt8) {s : List Stp} {k : Nat} {x : Stp} (h : s[k]? = some x) : play l (s.take (k + 1)) = pstep (play l (s.take k)) x := by rw [take_snoc h, play_snoc]
/-- behind each step there are at most 2^20 bytes, and no cut is beyond the end -/
def okp (l : List UInt8) (s : List Stp) : Prop := ∀ k, (play l (s.take k)).length ≤ 1048576 ∧ ∀ n, s[k]? = some (.cut n) → n ≤ (play l (s.take k)).length
theorem okp_nil {l : List UInt8} (h : l.length ≤ 1048576) : okp l [] := fun k => ⟨by rw [List.take_nil]; exact h, fun n q => by simp at q⟩
theorem okp_now {l : List UInt8} {s : List Stp} (h : okp l s) : (play l s).length ≤ 1048576 := by
  have := (h s.length).1
  rwa [List.take_length] at this
theorem okp_sure {l : List UInt8} {s : List Stp} (h : okp l s) : l.length ≤ 1048576 := by
  have := (h 0).1
  rwa [List.take_zero] at this
theorem okp_take {l : List UInt8} {s : List Stp} (h : okp l s) (n : Nat) : okp l (s.take n) := fun k => by
  rw [List.take_take]
  refine ⟨(h _).1, fun m hm => ?_⟩
  rw [List.getElem?_take] at hm
  split at hm
  · rename_i hk
    rw [Nat.min_eq_left (Nat.le_of_lt hk)]
    exact (h k).2 m hm
  · cases hm
theorem okp_snoc {l : List UInt8} {s : List Stp} {x : Stp} (h : okp l s) (h1 : (pstep (play l s) x).length ≤ 1048576) (h2 : ∀ n, x = .cut n → n ≤ (play l s).length) : okp l (s ++ [x]) := fun k => by
  rcases Nat.lt_trichotomy k s.length with hk | hk | hk
  · rw [List.take_append_of_le_length (Nat.le_of_lt hk), List.getElem?_append_left hk]
    exact h k
  · subst hk
    rw [List.take_append_of_le_length (Nat.le_refl _), List.take_length, List.getElem?_append_right (Nat.le_refl _), Nat.sub_self]
    refine ⟨okp_now h, fun n hn => h2 n ?_⟩
    simpa using hn
  · rw [List.take_of_length_le (by rw [List.length_append]; simp; omega), play_snoc, List.getElem?_eq_none (by rw [List.length_append]; simp; omega)]
    exact ⟨h1, fun n hn => by cases hn⟩
/-- a file; a tape -/
structure Fl where
  sure : List UInt8
  opn : List Stp
def Fl.now (f : Fl) : List UInt8 := play f.sure f.opn
def Fl.after (f : Fl) (n : Nat) : List UInt8 := play f.sure (f.opn.take n)
structure Tp where
  f : Nat → Fl
  fuse : Int
  down : Bool
def upd (f : Nat → Fl) (i : Nat) (x : Fl) : Nat → Fl := fun j => if j = i then x else f j
theorem upd_same (f : Nat → Fl) (i : Nat) (x : Fl) : upd f i x i = x := if_pos rfl
theorem upd_other (f : Nat → Fl) {i j : Nat} (x : Fl) (h : j ≠ i) : upd f i x j = f j := if_neg h
def Tp.new : Tp := ⟨fun _ => ⟨[], []⟩, -1, false⟩
def Tp.pow (S : Tp) : Option Tp := if S.down = true ∨ S.fuse = 0 then none else some ⟨S.f, if 0 < S.fuse then S.fuse - 1 else S.fuse, false⟩
def Tp.dead (S : Tp) : Tp := ⟨S.f, S.fuse, true⟩
theorem dead_of_down {S : Tp} (h : S.down = true) : S.dead = S := by cases S; simp at h; subst h; rfl
def Tp.add (S : Tp) (i : Nat) (x : Stp) : Tp := ⟨upd S.f i ⟨(S.f i).sure, (S.f i).opn ++ [x]⟩, S.fuse, S.down⟩
def Tp.run (S : Tp) (i : Nat) : List UInt8 → Tp × Int
  | [] => (S, 0)
  | b :: l => match S.pow with
    | none => (S.dead, 100)
    | some T => (T.add i (.app b)).run i l
def isF (z : Int) : Prop := 0 ≤ z ∧ z < 4
instance (z : Int) : Decidable (isF z) := inferInstanceAs (Decidable (_ ∧ _))
def Tp.now (S : Tp) (z : Int) : List UInt8 := (S.f z.toNat).now
def Tp.append (S : Tp) (z : Int) (l : List UInt8) : Tp × Int :=
  if isF z then (if S.down = true then (S, 100) else if 1048576 < (S.now z).length + l.length then (S, 90) else S.run z.toNat l) else (S, 1)
def Tp.cutT (S : Tp) (z n : Int) : Tp × Int :=
  if isF z ∧ 0 ≤ n ∧ n ≤ (S.now z).length then (match S.pow with | none => (S.dead, 100) | some T => (T.add z.toNat (.cut n.toNat), 0)) else (S, 1)
def Tp.settle (S : Tp) (i : Nat) : Tp := ⟨upd S.f i ⟨(S.f i).now, []⟩, S.fuse, S.down⟩
def Tp.syncT (S : Tp) (z : Int) : Tp × Int :=
  if isF z then (match S.pow with | none => (S.dead, 100) | some T => (T.settle z.toNat, 0)) else (S, 1)
def Tp.readL (S : Tp) (z : Int) : List UInt8 := if isF z ∧ S.down = false then S.now z else []
def Tp.readE (S : Tp) (z : Int) : Int := if isF z then (if S.down = true then 100 else 0) else 1
def Tp.openN (S : Tp) (z : Int) : Nat := if isF z then (S.f z.toNat).opn.length else 0
def Tp.fuseT (S : Tp) (n : Int) : Tp := ⟨S.f, max n (-1), S.down⟩
def keepN (kept : List Int) (i m : Nat) : Nat := match kept[i]? with
  | none => 0
  | some z => (min (max z 0) m).toNat
theorem keepN_le (kept : List Int) (i m : Nat) : keepN kept i m ≤ m := by
  unfold keepN
  split
  · exact Nat.zero_le _
  · omega
def Tp.crash (S : Tp) (kept : List Int) : Tp := ⟨fun i => ⟨(S.f i).after (keepN kept i (S.f i).opn.length), []⟩, -1, false⟩
/-- each file is as it should be, and has at most K open steps -/
def Tp.ok (S : Tp) (K : Nat) : Prop := ∀ i, okp (S.f i).sure (S.f i).opn ∧ (S.f i).opn.length ≤ K
theorem Tp.ok.mono {S : Tp} {K K' : Nat} (h : S.ok K) (hK : K ≤ K') : S.ok K' := fun i => ⟨(h i).1, Nat.le_trans (h i).2 hK⟩
theorem ok_new (K : Nat) : Tp.new.ok K := fun i => ⟨okp_nil (by simp [Tp.new]), Nat.zero_le _⟩
theorem Tp.ok.now {S : Tp} {K : Nat} (h : S.ok K) (i : Nat) : (S.f i).now.length ≤ 1048576 := okp_now (h i).1
theorem Tp.ok.dead {S : Tp} {K : Nat} (h : S.ok K) : S.dead.ok K := h
theorem pow_f {S T : Tp} (h : S.pow = some T) : T.f = S.f := by
  unfold Tp.pow at h
  split at h
  · cases h
  · injection h with h; subst h; rfl
theorem Tp.ok.pow {S T : Tp} {K : Nat} (h : S.ok K) (hp : S.pow = some T) : T.ok K := fun i => by rw [pow_f hp]; exact h i
theorem Tp.ok.addA {S : Tp} {K i : Nat} {b : UInt8} (h : S.ok K) (hn : (S.f i).now.length + 1 ≤ 1048576) : (S.add i (.app b)).ok (K + 1) := fun j => by
  unfold Tp.add
  by_cases hj : j = i
  · subst hj
    simp only [upd_same]
    refine ⟨okp_snoc (h j).1 ?_ (fun n q => by cases q), ?_⟩
    · unfold Fl.now at hn; simp [pstep]; omega
    · have := (h j).2; simp; exact this
  · simp only [upd_other _ _ hj]
    exact ⟨(h j).1, Nat.le_succ_of_le (h j).2⟩
theorem Tp.ok.addC {S : Tp} {K i n : Nat} (h : S.ok K) (hn : n ≤ (S.f i).now.length) : (S.add i (.cut n)).ok (K + 1) := fun j => by
  unfold Tp.add
  by_cases hj : j = i
  · subst hj
    simp only [upd_same]
    have hN := okp_now (h j).1
    refine ⟨okp_snoc (h j).1 ?_ (fun m q => by cases q; exact hn), ?_⟩
    · simp [pstep]; omega
    · have := (h j).2; simp; exact this
  · simp only [upd_other _ _ hj]
    exact ⟨(h j).1, Nat.le_succ_of_le (h j).2⟩
theorem add_now (S : Tp) (i : Nat) (x : Stp) : ((S.add i x).f i).now = pstep (S.f i).now x := by
  unfold Tp.add Fl.now
  simp only [upd_same, play_snoc]
theorem run_ok (i : Nat) : ∀ (l : List UInt8) (S : Tp) (K : Nat), S.ok K → (S.f i).now.length + l.length ≤ 1048576 → (S.run i l).1.ok (K + l.length)
  | [], S, K, h, _ => h
  | b :: l, S, K, h, hn => by
    rw [Tp.run]
    cases hp : S.pow with
    | none => exact h.dead.mono (Nat.le_add_right _ _)
    | some T =>
      rw [List.length_cons] at hn
      have hT : (T.f i).now.length + 1 ≤ 1048576 := by rw [pow_f hp]; omega
      have := run_ok i l (T.add i (.app b)) (K + 1) ((h.pow hp).addA hT) (by rw [add_now, pow_f hp]; simp [pstep]; omega)
      simp only [List.length_cons]
      rw [show K + (l.length + 1) = K + 1 + l.length by omega]
      exact this
theorem append_ok {S : Tp} {K : Nat} (z : Int) (l : List UInt8) (h : S.ok K) : (S.append z l).1.ok (K + l.length) := by
  unfold Tp.append
  split
  · split
    · exact h.mono (Nat.le_add_right _ _)
    · split
      · exact h.mono (Nat.le_add_right _ _)
      · rename_i h1 h2 h3
        exact run_ok _ l S K h (by unfold Tp.now at h3; omega)
  · exact h.mono (Nat.le_add_right _ _)
theorem cut_ok {S : Tp} {K : Nat} (z n : Int) (h : S.ok K) : (S.cutT z n).1.ok (K + 1) := by
  unfold Tp.cutT
  split
  · rename_i h1
    cases hp : S.pow with
    | none => exact h.dead.mono (Nat.le_succ _)
    | some T => exact (h.pow hp).addC (by rw [pow_f hp]; obtain ⟨_, q1, q2⟩ := h1; unfold Tp.now at q2; omega)
  · exact h.mono (Nat.le_succ _)
theorem settle_ok {S : Tp} {K : Nat} (i : Nat) (h : S.ok K) : (S.settle i).ok K := fun j => by
  unfold Tp.settle
  by_cases hj : j = i
  · subst hj
    simp only [upd_same]
    exact ⟨okp_nil (h.now j), Nat.zero_le _⟩
  · simp only [upd_other _ _ hj]
    exact h j
theorem sync_ok {S : Tp} {K : Nat} (z : Int) (h : S.ok K) : (S.syncT z).1.ok K := by
  unfold Tp.syncT
  split
  · cases hp : S.pow with
    | none => exact h.dead
    | some T => exact settle_ok _ (h.pow hp)
  · exact h
theorem fuse_ok {S : Tp} {K : Nat} (n : Int) (h : S.ok K) : (S.fuseT n).ok K := h
theorem crash_ok {S : Tp} {K : Nat} (kept : List Int) (K' : Nat) (h : S.ok K) : (S.crash kept).ok K' := fun i => ⟨okp_nil ((h i).1 _).1, Nat.zero_le _⟩
end Go.Proofs.YtgiobcpljbpmiaaDoor
