/-
  WireA: ported texts, joined.
-/
import Derived.Test.YtgiobcpljbpmiaaDoorBase
import Derived.Test.YtgiobcpljbpmiaaDoorSha
import Derived.Test.YtgiobcpljbpmiaaDoorShaR
import Derived.Deep.RegionHeld3
import Derived.Deep.RegionLaw
import Derived.Deep.Matrix
import Derived.ProofKit
import Derived.ChangeOld
import Derived.Below
namespace Go.Proofs.YtgiobcpljbpmiaaDoor
section
/-- how many bytes N has -/
def wide (N : Nat) : Nat := if N = 0 then 0 else wide (N / 256) + 1
termination_by N
decreasing_by omega
theorem wide_zero : wide 0 = 0 := by rw [wide]; simp
theorem wide_pos {N : Nat} (h : N ≠ 0) : wide N = wide (N / 256) + 1 := by rw [wide, if_neg h]
theorem wide_lt (N : Nat) : N < 256 ^ wide N := by
  induction N using Nat.strongRecOn with
  | _ N ih =>
    by_cases h : N = 0
    · subst h; rw [wide_zero]; decide
    · rw [wide_pos h, Nat.pow_succ]
      have := ih (N / 256) (by omega)
      omega
theorem wide_ge (N : Nat) (h : N ≠ 0) : 256 ^ (wide N - 1) ≤ N := by
  induction N using Nat.strongRecOn with
  | _ N ih =>
    rw [wide_pos h, Nat.add_sub_cancel]
    by_cases h2 : N / 256 = 0
    · rw [h2, wide_zero]; simp; omega
    · have := ih (N / 256) (by omega) h2
      rw [wide_pos h2] at this ⊢
      rw [Nat.pow_succ]
      rw [Nat.add_sub_cancel] at this
      omega
theorem wide_le {N k : Nat} (h : N < 256 ^ k) : wide N ≤ k := by
  by_cases h0 : N = 0
  · subst h0; rw [wide_zero]; omega
  · have h1 := wide_ge N h0
    have h2 : 256 ^ (wide N - 1) < 256 ^ k := Nat.lt_of_le_of_lt h1 h
    have := (Nat.pow_lt_pow_iff_right (by decide : 1 < 256)).1 h2
    omega
theorem wide8 {N : Nat} (h : N < 18446744073709551616) : wide N ≤ 8 := wide_le (k := 8) (by omega)
theorem wide_eq {N k : Nat} (h1 : 256 ^ k ≤ N) (h2 : N < 256 ^ (k + 1)) : wide N = k + 1 := by
  have h3 := wide_le h2
  have h4 : 256 ^ k < 256 ^ wide N := Nat.lt_of_le_of_lt h1 (wide_lt N)
  have := (Nat.pow_lt_pow_iff_right (by decide : 1 < 256)).1 h4
  omega
/-- a number's bytes -/
def numB (N : Nat) : List UInt8 := UInt8.ofNat (wide N) :: bytesOf N (wide N)
theorem numB_length (N : Nat) : (numB N).length = wide N + 1 := by simp [numB, bytesOf_length]
/-- a text's -/
def textB (t : List UInt8) : List UInt8 := numB t.length ++ t
/-- texts', one behind the other -/
def textsB (L : List (List UInt8)) : List UInt8 := (L.map textB).flatten
/-- a list's -/
def listB (L : List (List UInt8)) : List UInt8 := numB L.length ++ textsB L
theorem textsB_cons (t : List UInt8) (L : List (List UInt8)) : textsB (t :: L) = textB t ++ textsB L := by simp [textsB]
theorem textsB_snoc (t : List UInt8) (L : List (List UInt8)) : textsB (L ++ [t]) = textsB L ++ textB t := by simp [textsB]
/-- a number: the error (0: none), it, and how many bytes were gone through -/
def rdNum : List UInt8 → Int × Nat × Nat
  | [] => (40, 0, 0)
  | x :: r => if 8 < x.toNat then (41, 0, 0) else if r.length < x.toNat then (40, 0, 0) else if 0 < x.toNat ∧ r.head? = some 0 then (41, 0, 0) else (0, num (r.take x.toNat), 1 + x.toNat)
/-- a number that is not above most -/
def rdLen (b : List UInt8) (most : Int) : Int × Nat × Nat :=
  if (rdNum b).1 = 0 then (if most < (rdNum b).2.1 then (42, 0, 0) else rdNum b) else rdNum b
/-- a text -/
def rdText (b : List UInt8) (most : Int) : Int × List UInt8 × Nat :=
  if (rdLen b most).1 = 0 then (if b.length < (rdLen b most).2.2 + (rdLen b most).2.1 then (40, [], 0) else (0, (b.drop (rdLen b most).2.2).take (rdLen b most).2.1, (rdLen b most).2.2 + (rdLen b most).2.1)) else ((rdLen b most).1, [], 0)
/-- k texts -/
def rdTexts (each : Int) : Nat → List UInt8 → Int × List (List UInt8) × Nat
  | 0, _ => (0, [], 0)
  | k + 1, b => if (rdText b each).1 = 0 then (if (rdTexts each k (b.drop (rdText b each).2.2)).1 = 0 then (0, (rdText b each).2.1 :: (rdTexts each k (b.drop (rdText b each).2.2)).2.1, (rdText b each).2.2 + (rdTexts each k (b.drop (rdText b each).2.2)).2.2) else ((rdTexts each k (b.drop (rdText b each).2.2)).1, [], 0)) else ((rdText b each).1, [], 0)
/-- a list -/
def rdList (b : List UInt8) (most each : Int) : Int × List (List UInt8) × Nat :=
  if (rdLen b most).1 = 0 then (if (rdTexts each (rdLen b most).2.1 (b.drop (rdLen b most).2.2)).1 = 0 then (0, (rdTexts each (rdLen b most).2.1 (b.drop (rdLen b most).2.2)).2.1, (rdLen b most).2.2 + (rdTexts each (rdLen b most).2.1 (b.drop (rdLen b most).2.2)).2.2) else ((rdTexts each (rdLen b most).2.1 (b.drop (rdLen b most).2.2)).1, [], 0)) else ((rdLen b most).1, [], 0)
theorem rdNum_cases (b : List UInt8) : ((rdNum b).1 ≠ 0 ∧ (rdNum b).2 = (0, 0)) ∨ ∃ x r, b = x :: r ∧ x.toNat ≤ 8 ∧ x.toNat ≤ r.length ∧ ¬ (0 < x.toNat ∧ r.head? = some 0) ∧ rdNum b = (0, num (r.take x.toNat), 1 + x.toNat) := by
  rcases b with _ | ⟨x, r⟩
  · exact .inl ⟨by decide, rfl⟩
  · by_cases h1 : 8 < x.toNat
    · exact .inl (by simp only [rdNum, if_pos h1]; simp)
    · by_cases h2 : r.length < x.toNat
      · exact .inl (by simp only [rdNum, if_neg h1, if_pos h2]; simp)
      · by_cases h3 : 0 < x.toNat ∧ r.head? = some 0
        · exact .inl (by simp only [rdNum, if_neg h1, if_neg h2, if_pos h3]; simp)
        · exact .inr ⟨x, r, rfl, by omega, by omega, h3, by simp only [rdNum, if_neg h1, if_neg h2, if_neg h3]⟩
theorem rdNum_lt (b : List UInt8) : (rdNum b).2.1 < 18446744073709551616 := by
  rcases rdNum_cases b with ⟨_, h⟩ | ⟨x, r, rfl, h8, hl, _, h⟩
  · rw [h]; omega
  · rw [h]; exact num_lt' _ 8 (by rw [List.length_take]; omega)
theorem rdNum_size (b : List UInt8) : (rdNum b).2.2 ≤ b.length := by
  rcases rdNum_cases b with ⟨_, h⟩ | ⟨x, r, rfl, h8, hl, _, h⟩
  · rw [h]; omega
  · rw [h, List.length_cons]; simp only; omega
theorem rdNum_ok (b : List UInt8) : (rdNum b).1 = 0 ↔ (rdNum b).2.2 ≠ 0 := by
  rcases rdNum_cases b with ⟨h1, h⟩ | ⟨x, r, rfl, h8, hl, _, h⟩
  · rw [h]; simp [h1]
  · rw [h]; simp
theorem rdLen_max (b : List UInt8) : rdLen b 18446744073709551615 = rdNum b := by
  unfold rdLen
  have := rdNum_lt b
  split
  · rw [if_neg (by omega)]
  · rfl
theorem rdLen_cases (b : List UInt8) (most : Int) : ((rdLen b most).1 ≠ 0 ∧ (rdLen b most).2 = (0, 0)) ∨ ((rdNum b).1 = 0 ∧ rdLen b most = rdNum b ∧ ((rdNum b).2.1 : Int) ≤ most) := by
  unfold rdLen
  by_cases h : (rdNum b).1 = 0
  · rw [if_pos h]
    by_cases h2 : most < (rdNum b).2.1
    · rw [if_pos h2]; exact .inl ⟨by simp, rfl⟩
    · rw [if_neg h2]; exact .inr ⟨h, rfl, by omega⟩
  · rw [if_neg h]
    rcases rdNum_cases b with ⟨_, h'⟩ | ⟨x, r, rfl, _, _, _, h'⟩
    · exact .inl ⟨h, h'⟩
    · rw [h'] at h; exact absurd rfl h
theorem rdLen_lt (b : List UInt8) (most : Int) : (rdLen b most).2.1 < 18446744073709551616 := by
  rcases rdLen_cases b most with ⟨_, h⟩ | ⟨_, h, _⟩
  · rw [h]; simp
  · rw [h]; exact rdNum_lt b
theorem rdLen_size (b : List UInt8) (most : Int) : (rdLen b most).2.2 ≤ b.length := by
  rcases rdLen_cases b most with ⟨_, h⟩ | ⟨_, h, _⟩
  · rw [h]; simp
  · rw [h]; exact rdNum_size b
theorem rdLen_ok (b : List UInt8) (most : Int) : (rdLen b most).1 = 0 ↔ (rdLen b most).2.2 ≠ 0 := by
  rcases rdLen_cases b most with ⟨h1, h⟩ | ⟨_, h, _⟩
  · rw [h]; simp [h1]
  · rw [h]; exact rdNum_ok b
theorem rdText_cases (b : List UInt8) (most : Int) : ((rdText b most).1 ≠ 0 ∧ (rdText b most).2 = ([], 0)) ∨ ((rdLen b most).1 = 0 ∧ (rdLen b most).2.2 + (rdLen b most).2.1 ≤ b.length ∧ rdText b most = (0, (b.drop (rdLen b most).2.2).take (rdLen b most).2.1, (rdLen b most).2.2 + (rdLen b most).2.1)) := by
  unfold rdText
  by_cases h : (rdLen b most).1 = 0
  · rw [if_pos h]
    by_cases h2 : b.length < (rdLen b most).2.2 + (rdLen b most).2.1
    · rw [if_pos h2]; exact .inl ⟨by simp, rfl⟩
    · rw [if_neg h2]; exact .inr ⟨h, by omega, rfl⟩
  · rw [if_neg h]; exact .inl ⟨h, rfl⟩
theorem rdText_size (b : List UInt8) (most : Int) : (rdText b most).2.2 ≤ b.length := by
  rcases rdText_cases b most with ⟨_, h⟩ | ⟨_, h, e⟩
  · rw [h]; simp
  · rw [e]; exact h
theorem rdText_ok (b : List UInt8) (most : Int) : (rdText b most).1 = 0 ↔ (rdText b most).2.2 ≠ 0 := by
  rcases rdText_cases b most with ⟨h1, h⟩ | ⟨h0, h, e⟩
  · rw [h]; simp [h1]
  · rw [e]
    have := (rdLen_ok b most).1 h0
    simp; omega
theorem rdText_len (b : List UInt8) (most : Int) : (rdText b most).2.1.length ≤ b.length := by
  rcases rdText_cases b most with ⟨_, h⟩ | ⟨_, h, e⟩
  · rw [h]; simp
  · rw [e, List.length_take, List.length_drop]; omega
/-- what is laid before -/
def pre (acc : List (List UInt8)) (s : Nat) (r : Int × List (List UInt8) × Nat) : Int × List (List UInt8) × Nat := if r.1 = 0 then (0, acc ++ r.2.1, s + r.2.2) else (r.1, [], 0)
theorem rdTexts_err (each : Int) : ∀ k b, (rdTexts each k b).1 ≠ 0 → (rdTexts each k b).2 = ([], 0)
  | 0, _, h => absurd rfl h
  | k + 1, b, h => by
    unfold rdTexts at h ⊢
    split
    · rename_i h1
      rw [if_pos h1] at h
      split
      · rename_i h2
        rw [if_pos h2] at h
        exact absurd rfl h
      · rfl
    · rfl
theorem pre_nil (each : Int) (k : Nat) (b : List UInt8) : pre [] 0 (rdTexts each k b) = rdTexts each k b := by
  unfold pre
  split
  · rename_i h; simp [← h]
  · rename_i h
    rw [← rdTexts_err each k b h]
theorem pre_step_ok (each : Int) (acc : List (List UInt8)) (s k : Nat) (b : List UInt8) (h : (rdText b each).1 = 0) :
    pre acc s (rdTexts each (k + 1) b) = pre (acc ++ [(rdText b each).2.1]) (s + (rdText b each).2.2) (rdTexts each k (b.drop (rdText b each).2.2)) := by
  unfold pre
  rw [rdTexts, if_pos h]
  by_cases h2 : (rdTexts each k (b.drop (rdText b each).2.2)).1 = 0
  · rw [if_pos h2, if_pos h2, if_pos rfl]
    simp [Nat.add_assoc]
  · rw [if_neg h2, if_neg h2, if_neg h2]
theorem pre_step_no (each : Int) (acc : List (List UInt8)) (s k : Nat) (b : List UInt8) (h : (rdText b each).1 ≠ 0) :
    pre acc s (rdTexts each (k + 1) b) = ((rdText b each).1, [], 0) := by
  unfold pre
  rw [rdTexts, if_neg h, if_neg h]
theorem pre_zero (each : Int) (acc : List (List UInt8)) (s : Nat) (b : List UInt8) : pre acc s (rdTexts each 0 b) = (0, acc, s) := by
  unfold pre
  rw [rdTexts, if_pos rfl]
  simp
theorem rdTexts_size (each : Int) : ∀ k b, (rdTexts each k b).2.2 ≤ b.length
  | 0, b => by simp [rdTexts]
  | k + 1, b => by
    have h1 := rdText_size b each
    have h2 := rdTexts_size each k (b.drop (rdText b each).2.2)
    rw [List.length_drop] at h2
    unfold rdTexts
    split
    · split
      · simp only; omega
      · simp
    · simp
theorem rdTexts_count (each : Int) : ∀ k b, (rdTexts each k b).1 = 0 → (rdTexts each k b).2.1.length = k ∧ ∀ t ∈ (rdTexts each k b).2.1, t.length ≤ b.length
  | 0, b, _ => by simp [rdTexts]
  | k + 1, b, h => by
    have hl := rdText_len b each
    unfold rdTexts at h ⊢
    split
    · rename_i h1
      rw [if_pos h1] at h
      split
      · rename_i h2
        obtain ⟨i1, i2⟩ := rdTexts_count each k _ h2
        refine ⟨by simp only [List.length_cons, i1], fun t ht => ?_⟩
        rcases List.mem_cons.1 ht with rfl | ht
        · exact hl
        · have := i2 t ht
          rw [List.length_drop] at this
          omega
      · rename_i h2
        rw [if_neg h2] at h
        exact absurd h h2
    · rename_i h1
      rw [if_neg h1] at h
      exact absurd h h1
theorem rdList_cases (b : List UInt8) (most each : Int) : ((rdList b most each).1 ≠ 0 ∧ (rdList b most each).2 = ([], 0)) ∨ ((rdLen b most).1 = 0 ∧ (rdTexts each (rdLen b most).2.1 (b.drop (rdLen b most).2.2)).1 = 0 ∧ rdList b most each = (0, (rdTexts each (rdLen b most).2.1 (b.drop (rdLen b most).2.2)).2.1, (rdLen b most).2.2 + (rdTexts each (rdLen b most).2.1 (b.drop (rdLen b most).2.2)).2.2)) := by
  unfold rdList
  by_cases h : (rdLen b most).1 = 0
  · rw [if_pos h]
    by_cases h2 : (rdTexts each (rdLen b most).2.1 (b.drop (rdLen b most).2.2)).1 = 0
    · rw [if_pos h2]; exact .inr ⟨h, h2, rfl⟩
    · rw [if_neg h2]; exact .inl ⟨h2, rfl⟩
  · rw [if_neg h]; exact .inl ⟨h, rfl⟩
theorem rdList_size (b : List UInt8) (most each : Int) : (rdList b most each).2.2 ≤ b.length := by
  rcases rdList_cases b most each with ⟨_, h⟩ | ⟨_, _, e⟩
  · rw [h]; simp
  · rw [e]
    have h1 := rdLen_size b most
    have h2 := rdTexts_size each (rdLen b most).2.1 (b.drop (rdLen b most).2.2)
    rw [List.length_drop] at h2
    simp only; omega
/-- as the loop over the texts meets it -/
theorem rdList_pre (b : List UInt8) (most each : Int) (h : (rdLen b most).1 = 0) : rdList b most each = pre [] (rdLen b most).2.2 (rdTexts each (rdLen b most).2.1 (b.drop (rdLen b most).2.2)) := by
  unfold rdList pre
  rw [if_pos h]
  split
  · simp
  · rfl
theorem rdList_no (b : List UInt8) (most each : Int) (h : (rdLen b most).1 ≠ 0) : rdList b most each = ((rdLen b most).1, [], 0) := by
  unfold rdList; rw [if_neg h]
/- there and back -/
theorem bytesOf_head (N : Nat) (h : N ≠ 0) : (bytesOf N (wide N)).head? ≠ some 0 := by
  have h1 := wide_ge N h
  have h2 := wide_lt N
  rw [wide_pos h] at h1 h2 ⊢
  rw [Nat.add_sub_cancel] at h1
  rw [bytesOf_succ, List.head?_cons]
  intro e
  injection e with e
  have e2 := congrArg UInt8.toNat e
  rw [UInt8.toNat_ofNat'] at e2
  have hp : 0 < 256 ^ wide (N / 256) := Nat.pow_pos (by decide)
  have h3 : N / 256 ^ wide (N / 256) < 256 := by
    rw [Nat.div_lt_iff_lt_mul hp]; rw [Nat.pow_succ, Nat.mul_comm] at h2; exact h2
  have h4 : 1 ≤ N / 256 ^ wide (N / 256) := by rw [Nat.le_div_iff_mul_le hp]; omega
  simp at e2
  omega
theorem wide_byte {N : Nat} (h : N < 18446744073709551616) : (UInt8.ofNat (wide N)).toNat = wide N := by
  rw [UInt8.toNat_ofNat']; have := wide8 h; exact Nat.mod_eq_of_lt (by omega)
theorem rdNum_back (N : Nat) (h : N < 18446744073709551616) (r : List UInt8) : rdNum (numB N ++ r) = (0, N, wide N + 1) := by
  have h8 := wide8 h
  unfold numB
  rw [List.cons_append, rdNum, wide_byte h, if_neg (by omega), if_neg (by rw [List.length_append, bytesOf_length]; omega), if_neg, List.take_append_of_le_length (by rw [bytesOf_length]; omega), List.take_of_length_le (by rw [bytesOf_length]; omega), num_bytesOf, Nat.mod_eq_of_lt (wide_lt N), Nat.add_comm]
  rintro ⟨h1, h2⟩
  have h0 : N ≠ 0 := by rintro rfl; rw [wide_zero] at h1; omega
  refine bytesOf_head N h0 ?_
  rw [← h2]
  cases hq : bytesOf N (wide N) with
  | nil => have := bytesOf_length N (wide N); rw [hq] at this; simp at this; omega
  | cons a t => rfl
theorem rdText_back (t r : List UInt8) (most : Int) (h : (t.length : Int) ≤ most) (hl : t.length < 18446744073709551616) : rdText (textB t ++ r) most = (0, t, (textB t).length) := by
  have e : rdLen (textB t ++ r) most = (0, t.length, wide t.length + 1) := by
    unfold rdLen textB
    rw [List.append_assoc, rdNum_back _ hl, if_pos rfl, if_neg (by simp only; omega)]
  unfold rdText
  rw [e, if_pos rfl, if_neg (by simp only [textB, List.length_append, numB_length]; omega)]
  simp only [textB, List.append_assoc, List.length_append, numB_length, Prod.mk.injEq, true_and, and_true]
  rw [← numB_length, List.drop_left', List.take_left']
  · rfl
  · rfl
theorem rdTexts_back (each : Int) : ∀ (L : List (List UInt8)) (r : List UInt8), (∀ t ∈ L, (t.length : Int) ≤ each ∧ t.length < 18446744073709551616) → rdTexts each L.length (textsB L ++ r) = (0, L, (textsB L).length)
  | [], r, _ => rfl
  | t :: L, r, h => by
    have h1 := h t (by simp)
    rw [List.length_cons, textsB_cons, List.append_assoc, rdTexts, rdText_back t _ each h1.1 h1.2, if_pos rfl, List.drop_left' rfl, rdTexts_back each L r (fun t ht => h t (by simp [ht])), if_pos rfl, List.length_append]
theorem rdList_back (L : List (List UInt8)) (r : List UInt8) (most each : Int) (h : ∀ t ∈ L, (t.length : Int) ≤ each ∧ t.length < 18446744073709551616) (hL : (L.length : Int) ≤ most) (hl : L.length < 18446744073709551616) : rdList (listB L ++ r) most each = (0, L, (listB L).length) := by
  have e : rdLen (listB L ++ r) most = (0, L.length, wide L.length + 1) := by
    unfold rdLen listB
    rw [List.append_assoc, rdNum_back _ hl, if_pos rfl, if_neg (by simp only; omega)]
  have e2 : (listB L ++ r).drop (wide L.length + 1) = textsB L ++ r := by
    unfold listB; rw [List.append_assoc, ← numB_length, List.drop_left' rfl]
  unfold rdList
  rw [e, if_pos rfl, e2, rdTexts_back each L r h, if_pos rfl]
  simp [listB, numB_length]
/- what is read has just the bytes that were gone through -/
theorem num_head_ge (x : UInt8) (r : List UInt8) (h : x ≠ 0) : 256 ^ r.length ≤ num (x :: r) := by
  rw [num_cons]
  have : 1 ≤ x.toNat := by
    rcases Nat.eq_zero_or_pos x.toNat with h0 | h0
    · exact absurd (UInt8.toNat_inj.1 (by rw [h0]; rfl)) h
    · exact h0
  have : 256 ^ r.length ≤ x.toNat * 256 ^ r.length := Nat.le_mul_of_pos_left _ this
  omega
theorem numB_one (b : List UInt8) (h : (rdNum b).1 = 0) : numB (rdNum b).2.1 = b.take (rdNum b).2.2 := by
  rcases rdNum_cases b with ⟨h1, _⟩ | ⟨x, r, rfl, h8, hl, h3, e⟩
  · exact absurd h h1
  · rw [e]
    simp only
    rw [Nat.add_comm, List.take_succ_cons]
    have hw : wide (num (r.take x.toNat)) = x.toNat := by
      rcases Nat.eq_zero_or_pos x.toNat with h0 | h0
      · rw [h0, List.take_zero]; show wide 0 = 0; exact wide_zero
      · rcases r with _ | ⟨y, r⟩
        · simp at hl; omega
        · have hy : y ≠ 0 := fun hy => h3 ⟨h0, by rw [hy]; rfl⟩
          obtain ⟨k, hk⟩ : ∃ k, x.toNat = k + 1 := ⟨x.toNat - 1, by omega⟩
          rw [hk, List.take_succ_cons]
          have hlk : (r.take k).length = k := by rw [List.length_take]; simp at hl; omega
          refine wide_eq ?_ ?_
          · have := num_head_ge y (r.take k) hy
            rwa [hlk] at this
          · have := num_lt (y :: r.take k)
            rwa [List.length_cons, hlk] at this
    unfold numB
    rw [hw, UInt8.ofNat_toNat]
    congr 1
    have hlen : (r.take x.toNat).length = x.toNat := by rw [List.length_take]; omega
    have := bytesOf_num (r.take x.toNat)
    rwa [hlen] at this
theorem take_cat (b : List UInt8) (s k : Nat) : b.take s ++ (b.drop s).take k = b.take (s + k) := by rw [List.take_add]
theorem textB_one (b : List UInt8) (most : Int) (h : (rdText b most).1 = 0) : textB (rdText b most).2.1 = b.take (rdText b most).2.2 := by
  rcases rdText_cases b most with ⟨h1, _⟩ | ⟨h0, hl, e⟩
  · exact absurd h h1
  · rw [e]
    simp only
    rcases rdLen_cases b most with ⟨h1, _⟩ | ⟨h1, e1, _⟩
    · exact absurd h0 h1
    · rw [e1] at hl ⊢
      unfold textB
      have hlen : ((b.drop (rdNum b).2.2).take (rdNum b).2.1).length = (rdNum b).2.1 := by rw [List.length_take, List.length_drop]; omega
      rw [hlen, numB_one b h1, take_cat]
theorem textsB_one (each : Int) : ∀ k b, (rdTexts each k b).1 = 0 → textsB (rdTexts each k b).2.1 = b.take (rdTexts each k b).2.2
  | 0, b, _ => by simp [rdTexts, textsB]
  | k + 1, b, h => by
    unfold rdTexts at h ⊢
    split
    · rename_i h1
      rw [if_pos h1] at h
      split
      · rename_i h2
        simp only
        rw [textsB_cons, textB_one b each h1, textsB_one each k _ h2, take_cat]
      · rename_i h2
        rw [if_neg h2] at h
        exact absurd h h2
    · rename_i h1
      rw [if_neg h1] at h
      exact absurd h h1
theorem listB_one (b : List UInt8) (most each : Int) (h : (rdList b most each).1 = 0) : listB (rdList b most each).2.1 = b.take (rdList b most each).2.2 := by
  rcases rdList_cases b most each with ⟨h1, _⟩ | ⟨h0, h2, e⟩
  · exact absurd h h1
  · rw [e]
    simp only
    rcases rdLen_cases b most with ⟨h1, _⟩ | ⟨h1, e1, _⟩
    · exact absurd h0 h1
    · rw [e1] at h2 ⊢
      unfold listB
      rw [(rdTexts_count each _ _ h2).1, numB_one b h1, textsB_one each _ _ h2, take_cat]
/- of no beginning one is read -/
theorem rdNum_cut (N k : Nat) (h : N < 18446744073709551616) (r : List UInt8) (hk : k < (numB N).length) : rdNum ((numB N ++ r).take k) = (40, 0, 0) := by
  rw [List.take_append_of_le_length (by omega)]
  rw [numB_length] at hk
  rcases k with _ | k
  · simp [rdNum]
  · unfold numB
    have h8 := wide8 h
    rw [List.take_succ_cons, rdNum, wide_byte h, if_neg (by omega), if_pos (by rw [List.length_take, bytesOf_length]; omega)]
theorem rdText_cut (t r : List UInt8) (most : Int) (h : (t.length : Int) ≤ most) (hl : t.length < 18446744073709551616) (k : Nat) (hk : k < (textB t).length) : rdText ((textB t ++ r).take k) most = (40, [], 0) := by
  unfold textB at hk ⊢
  rw [List.append_assoc]
  by_cases h1 : k < (numB t.length).length
  · unfold rdText rdLen
    rw [rdNum_cut _ k hl _ h1]; simp
  · have e : rdLen ((numB t.length ++ (t ++ r)).take k) most = (0, t.length, wide t.length + 1) := by
      unfold rdLen
      rw [List.take_append, List.take_of_length_le (by omega), rdNum_back _ hl, if_pos rfl, if_neg (by simp only; omega)]
    unfold rdText
    rw [e, if_pos rfl, if_pos]
    rw [List.length_append, numB_length] at hk
    simp only [List.length_take, List.length_append, numB_length]
    omega
theorem rdTexts_cut (each : Int) : ∀ (L : List (List UInt8)) (k : Nat), (∀ t ∈ L, (t.length : Int) ≤ each ∧ t.length < 18446744073709551616) → k < (textsB L).length → rdTexts each L.length ((textsB L).take k) = (40, [], 0)
  | [], k, _, hk => by simp [textsB] at hk
  | t :: L, k, h, hk => by
    have h1 := h t (by simp)
    rw [List.length_cons, textsB_cons, rdTexts]
    by_cases hkt : k < (textB t).length
    · rw [rdText_cut t _ each h1.1 h1.2 k hkt]; simp
    · have e : (textB t ++ textsB L).take k = textB t ++ (textsB L).take (k - (textB t).length) := by
        rw [List.take_append, List.take_of_length_le (by omega)]
      rw [textsB_cons, List.length_append] at hk
      rw [e, rdText_back t _ each h1.1 h1.2, if_pos rfl, List.drop_left' rfl, rdTexts_cut each L _ (fun t ht => h t (by simp [ht])) (by omega)]
      simp
theorem rdList_cut (L : List (List UInt8)) (most each : Int) (h : ∀ t ∈ L, (t.length : Int) ≤ each ∧ t.length < 18446744073709551616) (hL : (L.length : Int) ≤ most) (hl : L.length < 18446744073709551616) (k : Nat) (hk : k < (listB L).length) : rdList ((listB L).take k) most each = (40, [], 0) := by
  unfold listB at hk ⊢
  by_cases h1 : k < (numB L.length).length
  · unfold rdList rdLen
    rw [rdNum_cut _ k hl _ h1]; simp
  · have e : (numB L.length ++ textsB L).take k = numB L.length ++ (textsB L).take (k - (numB L.length).length) := by
      rw [List.take_append, List.take_of_length_le (by omega)]
    rw [List.length_append] at hk
    have e2 : rdLen (numB L.length ++ (textsB L).take (k - (numB L.length).length)) most = (0, L.length, wide L.length + 1) := by
      unfold rdLen
      rw [rdNum_back _ hl, if_pos rfl, if_neg (by simp only; omega)]
    unfold rdList
    rw [e, e2, if_pos rfl]
    simp only
    rw [← numB_length, List.drop_left' rfl, rdTexts_cut each L _ h (by omega)]
    simp
/-- how long they get -/
theorem textB_length (t : List UInt8) : (textB t).length = wide t.length + 1 + t.length := by rw [textB, List.length_append, numB_length]
theorem textsB_le (M : Nat) (hM : M < 18446744073709551616) : ∀ L : List (List UInt8), (∀ t ∈ L, t.length ≤ M) → (textsB L).length ≤ L.length * (9 + M)
  | [], _ => by simp [textsB]
  | t :: L, h => by
    have h1 := h t (by simp)
    have h2 := textsB_le M hM L (fun t ht => h t (by simp [ht]))
    have h8 := wide8 (N := t.length) (by omega)
    rw [textsB_cons, List.length_append, textB_length, List.length_cons, Nat.add_mul]
    omega
theorem textsB_take (L : List (List UInt8)) (k : Nat) (t : List UInt8) (h : L[k]? = some t) : textsB (L.take (k + 1)) = textsB (L.take k) ++ textB t := by rw [take_snoc h, textsB_snoc]
theorem num256 : numB 256 = [2, 1, 0] := by
  have : wide 256 = 2 := by rw [wide_pos (by decide), show 256 / 256 = 1 from rfl, wide_pos (by decide), show 1 / 256 = 0 from rfl, wide_zero]
  rw [numB, this]; rfl
end
section
open Go.RowKit
set_option maxHeartbeats 400000 in
theorem Number_ok (A : Option Addr) (n c : Nat) (l : List UInt8) (w : World) (h : Bs w A n l) (hn : n ≤ 8) :
    Calls Tryd.prog 90 #[.slice A n c] w fun e w' => e = .returned (.tuple #[.int .u64 (num l : Int), .int .i64 0]) ∧ w = w' := by
  have h' := Lib.hid h
  clear h
  go_enter Tryd.func90, Tryd.ntmps90
  go_wp2_with (go_at_call 95; refine (join_any _ _ _ _ _ h'.out hn).mono ?_; rintro e w' ⟨rfl, rfl⟩)
  go_ret2
  exact ⟨rfl, rfl⟩
set_option maxHeartbeats 400000 in
theorem RefNumber_ok (A : Option Addr) (n c : Nat) (l : List UInt8) (w : World) (h : Bs w A n l) (hn : n ≤ 8) :
    Calls Tryd.prog 75 #[.slice A n c] w fun e w' => e = .returned (.tuple #[.int .u64 (num l : Int), .int .i64 0]) ∧ w = w' := by
  go_enter Tryd.func75, Tryd.ntmps75
  go_wp2
  go_loop [4, 5] (fun t i => ∃ k : Nat, k ≤ n ∧ i = .int .i64 k ∧ t = .int .u64 (num (l.take k) : Int)) (fun _ i => n - (intOf i).toNat)
  case atStart => exact ⟨0, Nat.zero_le _, rfl, rfl⟩
  case round =>
    obtain ⟨k, hk, rfl, rfl⟩ := hrel
    have HL := Lib.hid h.1
    by_cases hlt : k < n
    · obtain ⟨b, off, x, rfl, hb, hx, hc⟩ := h.get hlt
      have hx256 := byte_lt x
      have hN : num (l.take k) < 72057594037927936 := num_lt' _ 7 (by rw [List.length_take]; omega)
      have HT := Lib.hid (num_take hx)
      have h' := Lib.hid h
      clear hx h
      generalize num (l.take k) = N at *
      go_wp2
      go_round
      case rel => exact ⟨k + 1, by omega, by go_num, by rw [HT.out]; go_num⟩
      case measure => simp [intOf]; omega
    · go_wp2
      go_ret2
      exact ⟨ret2 (by rw [List.take_of_length_le (by rw [HL.out]; omega)]), rfl⟩
set_option maxHeartbeats 400000 in
theorem countOf_any (N : Nat) (w : World) (hN : N < 18446744073709551616) :
    Calls Tryd.prog 83 #[.int .u64 (N : Int)] w fun e w' => e = .returned (.int .i64 (wide N : Int)) ∧ w = w' := by
  have h8 := wide8 hN
  go_enter Tryd.func83, Tryd.ntmps83
  go_wp2
  go_step3
  go_wp2
  go_step3
  go_wp2
  go_loop [0, 3] (fun n i => ∃ M k : Nat, n = .int .u64 M ∧ i = .int .i64 k ∧ M ≤ N ∧ k ≤ 8 ∧ Hid (k + wide M = wide N)) (fun n _ => (intOf n).toNat)
  case atStart => exact ⟨N, 0, rfl, rfl, Nat.le_refl _, by omega, Lib.hid (Nat.zero_add _)⟩
  case round =>
    obtain ⟨M, k, rfl, rfl, hM, hk, HK⟩ := hrel
    by_cases hz : M = 0
    · subst hz
      have e : k = wide N := by have := HK.out; rw [wide_zero] at this; omega
      have HE := Lib.hid e
      clear e
      go_wp2
      try rw [Exit.noGoto_ret]
      go_ret
      exact ⟨retI (by rw [HE.out]), rfl⟩
    · have hK2 : k + 1 + wide (M / 256) = wide N := by have := HK.out; rw [wide_pos hz] at this; omega
      have hk2 : k + 1 ≤ 8 := by omega
      have HK2 := Lib.hid hK2
      clear hK2
      have hz2 : ((M : Int) == 0) = false := by simp; omega
      go_wp2
      go_round
      case rel => exact ⟨M / 256, k + 1, by go_num, by go_num, by omega, by omega, HK2⟩
      case measure => simp [intOf]; omega
/-- a slice of bytes in new memory -/
def S4NewSlice (w : World) (l : List UInt8) (e : Ending) (w' : World) : Prop :=
  ∃ A c, e = .returned (.slice A l.length c) ∧ l.length ≤ c ∧ Below w.heap.size w w' ∧ Own w' w.heap.size 5 (.slice A l.length c) l.length l
theorem byte_new (w : World) (z : Int) (x : UInt8) (h : z = (x.toNat : Int)) : Own (w.alloc (.cells #[.int .u8 z] 5)) w.heap.size 5 (.slice (some ⟨w.heap.size, 0, none⟩) 1 1) 1 [x] := by
  subst h
  refine (Row.new w 5 _).own (Nat.le_refl _) rfl rfl (by omega) ?_
  intro j y hy
  rcases j with _ | j
  · simp at hy; subst hy; rfl
  · simp at hy
theorem Own.newSlice {w w' : World} {A : Option Addr} {n c : Nat} {l : List UInt8} (h : Own w' w.heap.size 5 (.slice A n c) n l) (hb : Below w.heap.size w w') : S4NewSlice w l (.returned (.slice A n c)) w' := by
  have hl := h.length
  subst hl
  obtain ⟨A', c', hv, hc⟩ := h.form
  injection hv with h1 h2 h3
  subst h1 h3
  exact ⟨A, c, rfl, hc, hb, h⟩
set_option maxHeartbeats 400000 in
theorem Num_any (N : Nat) (w : World) (hN : N < 18446744073709551616) : Calls Tryd.prog 70 #[.int .u64 (N : Int)] w (S4NewSlice w (numB N)) := by
  have h8 := wide8 hN
  have HW := Lib.hid (wide_byte hN)
  have HB := Lib.hid (show numB N = UInt8.ofNat (wide N) :: bytesOf N (wide N) from rfl)
  generalize numB N = q at *
  have HC := Lib.hid (countOf_any N w hN)
  have HY := Lib.hid (fun w => Bytes_ok N (wide N) w hN h8)
  generalize wide N = k at *
  generalize bytesOf N k = bs at *
  go_enter Tryd.func70, Tryd.ntmps70
  go_wp2_with (first
    | (go_at_call 83; refine HC.out.mono ?_; rintro e w' ⟨rfl, rfl⟩)
    | (go_at_call 84; refine (HY.out _).mono ?_; rintro e w1 ⟨A, c, rfl, ho, hb⟩; have hs1 := hb.size)
    | (at_builtin; refine wpList_app Tryd.byteTypes rfl (.tmp 16) (.tmp 17) rfl w.heap.size _ 1 [UInt8.ofNat k] rfl ((byte_new w1 _ (UInt8.ofNat k) (by rw [HW.out])).mono hs1) A k c bs rfl (ho.bs.below ((Below.refl _ _).alloc (Nat.le_refl _) _)) (by omega) (by simp; omega) ?_; intro A' c' w' hown hbel hgr))
  go_ret
  rw [HB.out]
  exact Own.newSlice (l := UInt8.ofNat k :: bs) hown ((hb.alloc hs1 _).trans hbel)
theorem bytes_nil (w : World) (A : Option Addr) (n c : Nat) : (binOp .eql 32 (.slice A n c) (.slice none 0 0)).run Tryd.prog w = .ok (.bool A.isNone) w := by
  have h : ∀ d : Nat, (Op.equalIn (d + 1) 32 (.slice A n c) (.slice none 0 0)).run Tryd.prog w = .ok A.isNone w := fun d => by
    cases A <;> simp [Op.equalIn, run_underlying Tryd.underlying32]
  simp only [binOp]
  simp [Op.equal, Op.maxDepth, h 9999]
set_option maxHeartbeats 400000 in
theorem Clone_any (A : Option Addr) (n c : Nat) (l : List UInt8) (w : World) (hB : Bs w A n l) (hn : n ≤ 140737488355328) : Calls Tryd.prog 38 #[.slice A n c] w (S4NewSlice w l) := by
  have HB := Lib.hid hB
  clear hB
  rcases A with _ | a
  · have h0 : n = 0 := by
      rcases Nat.eq_zero_or_pos n with h | h
      · exact h
      · obtain ⟨b, off, x, e, _⟩ := HB.out.get h
        cases e
    subst h0
    have HL := Lib.hid (HB.out.empty rfl)
    have hnil := fun w => bytes_nil w none 0 c
    go_enter Tryd.func38, Tryd.ntmps38
    go_wp2
    go_ret
    rw [HL.out]
    exact (Own.nil w w.heap.size 5).newSlice (Below.refl _ _)
  · have hnil := fun w => bytes_nil w (some a) n c
    go_enter Tryd.func38, Tryd.ntmps38
    go_wp2_with (at_builtin; refine wpList_copy Tryd.byteTypes rfl (.tmp 5) (.tmp 6) rfl rfl (some a) n c l rfl HB.out (by omega) ?_; intro A1 c1 w1 hB1 hc1 hb1 ho1)
    go_ret
    exact ho1.newSlice hb1
end
section
open Go.RowKit
/-- the slice of slices at A holds the texts L -/
def Bss (w : World) (A : Option Addr) (n : Nat) (L : List (List UInt8)) : Prop :=
  L.length = n ∧ ∀ k l, L[k]? = some l → ∃ b off A' c', A = some ⟨b, off, none⟩ ∧ b < w.heap.size ∧ w.cell? ⟨b, off + k, none⟩ = some (.slice A' l.length c') ∧ l.length ≤ c' ∧ Bs w A' l.length l
theorem Bss.nil (w : World) (A : Option Addr) : Bss w A 0 [] := ⟨rfl, fun k l h => by simp at h⟩
theorem Bss.get {w : World} {A : Option Addr} {n k : Nat} {L : List (List UInt8)} (h : Bss w A n L) (hk : k < n) :
    ∃ b off A' c' l, A = some ⟨b, off, none⟩ ∧ b < w.heap.size ∧ L[k]? = some l ∧ w.cell? ⟨b, off + k, none⟩ = some (.slice A' l.length c') ∧ l.length ≤ c' ∧ Bs w A' l.length l := by
  have hl : k < L.length := by rw [h.1]; exact hk
  obtain ⟨b, off, A', c', e, hb, hc, hn, hB⟩ := h.2 k L[k] (List.getElem?_eq_getElem hl)
  exact ⟨b, off, A', c', L[k], e, hb, List.getElem?_eq_getElem hl, hc, hn, hB⟩
theorem Bss.below {w w' : World} {A : Option Addr} {n : Nat} {L : List (List UInt8)} (h : Bss w A n L) (hb : Below w.heap.size w w') : Bss w' A n L :=
  ⟨h.1, fun k l hl => by
    obtain ⟨b, off, A', c', e, hlt, hc, hn, hB⟩ := h.2 k l hl
    exact ⟨b, off, A', c', e, Nat.lt_of_lt_of_le hlt hb.size, (hb.cell (p := ⟨b, off + k, none⟩) hlt).trans hc, hn, hB.below hb⟩⟩
theorem Bss.drewN {w : World} {A : Option Addr} {n : Nat} {L : List (List UInt8)} (h : Bss w A n L) (k : Nat) : Bss (w.drewN k) A n L := h
theorem ownsRow.belowS {w w' : World} {base size : Nat} {e : TypeId} {v : Value} {n : Nat} {xs : List Value} (h : w.ownsRow base e size v n xs) (hb : Below w.heap.size w w') : w'.ownsRow base e size v n xs := by
  refine ⟨h.1, ?_⟩
  rcases h.2 with h0 | ⟨g, cap, cur, hv, hge, hg, hr⟩
  · exact .inl h0
  · exact .inr ⟨g, cap, cur, hv, hge, (hb.block g (Array.getElem?_eq_some_iff.1 hg).1).trans hg, hr⟩
theorem Own.belowS {w w' : World} {base : Nat} {e : TypeId} {v : Value} {n : Nat} {l : List UInt8} (h : Own w base e v n l) (hb : Below w.heap.size w w') : Own w' base e v n l := ownsRow.belowS h hb
/-- a list of texts, all of the call's own -/
def OwnL (w : World) (base : Nat) (v : Value) (n : Nat) (L : List (List UInt8)) : Prop :=
  ∃ vs, w.ownsRow base 32 1 v n vs ∧ vs.length = L.length ∧ ∀ (k : Nat) (x : Value) (l : List UInt8), vs[k]? = some x → L[k]? = some l → Own w base 5 x l.length l
theorem OwnL.nil (w : World) (base : Nat) : OwnL w base (.slice none 0 0) 0 [] := ⟨[], World.ownsRow_nil w base 32 1, rfl, fun k x l h => by simp at h⟩
theorem OwnL.length {w : World} {base : Nat} {v : Value} {n : Nat} {L : List (List UInt8)} (h : OwnL w base v n L) : L.length = n := by
  obtain ⟨vs, h1, h2, _⟩ := h
  have := h1.1
  omega
theorem OwnL.form {w : World} {base : Nat} {v : Value} {n : Nat} {L : List (List UInt8)} (h : OwnL w base v n L) : ∃ A c, v = .slice A n c ∧ n ≤ c := by
  obtain ⟨vs, h1, _⟩ := h
  rcases h1.2 with ⟨hv, hn⟩ | ⟨g, cap, cur, hv, _, hg, hnc, _, hcs, ht⟩
  · exact ⟨none, 0, by rw [hv, hn], by omega⟩
  · exact ⟨_, _, hv, hnc⟩
theorem OwnL.below {w w' : World} {base : Nat} {v : Value} {n : Nat} {L : List (List UInt8)} (h : OwnL w base v n L) (hb : Below w.heap.size w w') : OwnL w' base v n L := by
  obtain ⟨vs, h1, h2, h3⟩ := h
  exact ⟨vs, ownsRow.belowS h1 hb, h2, fun k x l hx hl => (h3 k x l hx hl).belowS hb⟩
theorem OwnL.mono {w : World} {base base' : Nat} {v : Value} {n : Nat} {L : List (List UInt8)} (h : OwnL w base v n L) (hb : base' ≤ base) : OwnL w base' v n L := by
  obtain ⟨vs, h1, h2, h3⟩ := h
  refine ⟨vs, ⟨h1.1, ?_⟩, h2, fun k x l hx hl => (h3 k x l hx hl).mono hb⟩
  rcases h1.2 with h0 | ⟨g, cap, cur, hv, hge, hr⟩
  · exact .inl h0
  · exact .inr ⟨g, cap, cur, hv, Nat.le_trans hb hge, hr⟩
theorem OwnL.bss {w : World} {base : Nat} {A : Option Addr} {n c : Nat} {L : List (List UInt8)} (h : OwnL w base (.slice A n c) n L) : Bss w A n L := by
  have hlen := h.length
  obtain ⟨vs, h1, h2, h3⟩ := h
  refine ⟨hlen, fun k l hl => ?_⟩
  have hk : k < vs.length := by rw [h2]; exact (List.getElem?_eq_some_iff.1 hl).1
  have hx := List.getElem?_eq_getElem hk
  have ho := h3 k _ l hx hl
  rcases h1.2 with ⟨hv, hn⟩ | ⟨g, cap, cur, hv, _, hg, hnc, _, hcs, ht⟩
  · have := (List.getElem?_eq_some_iff.1 hl).1; omega
  · injection hv with q1 q2 q3
    subst q1 q3
    obtain ⟨A', c', hv', hc'⟩ := ho.form
    refine ⟨g, 0, A', c', rfl, (Array.getElem?_eq_some_iff.1 hg).1, ?_, hc', ?_⟩
    · rw [Nat.zero_add, cell_of_row w g k cur 32 (0, 0) hg, ← hv', ← hx, ← ht, List.getElem?_take, if_pos (by omega)]; simp
    · rw [hv'] at ho; exact ho.bs
theorem own_types {w : World} {base base' : Nat} {e e' : TypeId} {size size' : Nat} {u v : Value} {n m : Nat} {xs ys : List Value} (hu : w.ownsRow base e size u n xs) (hv : w.ownsRow base' e' size' v m ys) (hne : e ≠ e') : u.ownBlock = none ∨ u.ownBlock ≠ v.ownBlock := by
  rcases hu.2 with ⟨hu, _⟩ | ⟨g, cap, cur, hu, _, hg, _⟩
  · exact .inl (by rw [hu]; rfl)
  · refine .inr fun h => ?_
    rcases hv.2 with ⟨hv, _⟩ | ⟨g', cap', cur', hv, _, hg', _⟩
    · rw [hu, hv] at h; cases h
    · rw [hu, hv] at h
      simp only [Value.ownBlock, Option.some.injEq] at h
      subst h
      rw [hg] at hg'
      injection hg' with q
      injection q with _ q
      exact hne q
/-- a list of texts in new memory -/
def NewList (w : World) (L : List (List UInt8)) (e : Ending) (w' : World) : Prop :=
  ∃ A c, e = .returned (.slice A L.length c) ∧ L.length ≤ c ∧ Below w.heap.size w w' ∧ OwnL w' w.heap.size (.slice A L.length c) L.length L
theorem OwnL.newList {w w' : World} {A : Option Addr} {n c : Nat} {L : List (List UInt8)} (h : OwnL w' w.heap.size (.slice A n c) n L) (hb : Below w.heap.size w w') : NewList w L (.returned (.slice A n c)) w' := by
  have hl := h.length
  subst hl
  obtain ⟨A', c', hv, hc⟩ := h.form
  injection hv with h1 h2 h3
  subst h1 h3
  exact ⟨A, c, rfl, hc, hb, h⟩
def longL (L : List (List UInt8)) : Bool := decide (100 < L.length) || L.any fun l => decide (500 < l.length)
theorem longL_no {L : List (List UInt8)} (h : longL L = false) : L.length ≤ 100 ∧ ∀ l ∈ L, l.length ≤ 500 := by
  unfold longL at h
  simp only [Bool.or_eq_false_iff, decide_eq_false_iff_not, List.any_eq_false, decide_eq_true_eq] at h
  exact ⟨by omega, fun l hl => by have := h.2 l hl; omega⟩
/-- as long as they can get -/
theorem texts_take_le {L : List (List UInt8)} (hL : L.length ≤ 1000000) (hM : ∀ l ∈ L, l.length ≤ 1000000) (k : Nat) : (numB L.length ++ textsB (L.take k)).length ≤ 1000010000000 := by
  have h1 := textsB_le 1000000 (by omega) (L.take k) (fun l hl => hM l (List.mem_of_mem_take hl))
  have h2 : (L.take k).length * (9 + 1000000) ≤ 1000000 * (9 + 1000000) := Nat.mul_le_mul_right _ (by rw [List.length_take]; omega)
  have h3 := wide8 (N := L.length) (by omega)
  rw [List.length_append, numB_length]
  omega
end
section
open Go.RowKit
/-- the slice lies in block b -/
def InB (A : Option Addr) (n b : Nat) : Prop := n = 0 ∨ ∃ off, A = some ⟨b, off, none⟩
theorem InB.apart {A : Option Addr} {n b g : Nat} (h : InB A n b) (hg : b ≠ g) : Apart A n g := by
  rcases h with h | ⟨off, h⟩
  · exact .inl h
  · exact .inr ⟨b, off, h, hg⟩
/-- a reader (type t) at block g, whose bytes lie in block b: the error E (0: none), the bytes l are left -/
def Rdr (w : World) (t : TypeId) (g b : Nat) (E : Int) (l : List UInt8) : Prop :=
  ∃ A n c, Row w g t #[.slice A n c, .int .i64 E] ∧ Bs w A n l ∧ n ≤ c ∧ InB A n b ∧ b ≠ g
theorem Rdr.only {w w' : World} {t : TypeId} {g b k : Nat} {E : Int} {l : List UInt8} (h : Rdr w t g b E l) (ho : Only k w w') (hg : g ≠ k) (hb : b ≠ k) : Rdr w' t g b E l := by
  obtain ⟨A, n, c, h1, h2, h3, h4, h5⟩ := h
  exact ⟨A, n, c, h1.only ho hg, h2.only (h4.apart hb) ho, h3, h4, h5⟩
theorem Rdr.below {w w' : World} {t : TypeId} {g b : Nat} {E : Int} {l : List UInt8} (h : Rdr w t g b E l) (hb : Below w.heap.size w w') : Rdr w' t g b E l := by
  obtain ⟨A, n, c, h1, h2, h3, h4, h5⟩ := h
  exact ⟨A, n, c, h1.below hb h1.lt, h2.below hb, h3, h4, h5⟩
theorem Rdr.drewN {w : World} {t : TypeId} {g b : Nat} {E : Int} {l : List UInt8} (h : Rdr w t g b E l) (k : Nat) : Rdr (w.drewN k) t g b E l := h
theorem Rdr.lt {w : World} {t : TypeId} {g b : Nat} {E : Int} {l : List UInt8} (h : Rdr w t g b E l) : g < w.heap.size := by
  obtain ⟨A, n, c, h1, _⟩ := h; exact h1.lt
theorem OwnL.only {w w' : World} {base g : Nat} {v : Value} {n : Nat} {L : List (List UInt8)} (h : OwnL w base v n L) (ho : Only g w w') (hg : g < base) : OwnL w' base v n L := by
  obtain ⟨vs, h1, h2, h3⟩ := h
  refine ⟨vs, ⟨h1.1, ?_⟩, h2, fun k x l hx hl => own_only (h3 k x l hx hl) ho hg⟩
  rcases h1.2 with h0 | ⟨b, cap, cur, hv, hge, hb, hr⟩
  · exact .inl h0
  · exact .inr ⟨b, cap, cur, hv, hge, (ho.block b ((Array.getElem?_eq_some_iff.1 hb).1) (by omega)).trans hb, hr⟩
section
variable {P : Program}
theorem size_of {t e : TypeId} (T : ByteTypes P t e) (w : World) : (sizeOf e).run P w = .ok 1 w := by
  obtain ⟨i, hi, hz, hsize, hby⟩ := info_parts T.hi
  simp [sizeOf, typeInfo, hi, hsize]
/-- 'x[k:]', 'x[lo:hi]', 'x[:hi]' -/
theorem cut_from {t e : TypeId} (T : ByteTypes P t e) (A : Option Addr) (n c k : Nat) (hk : k ≤ n) (hnc : n ≤ c) :
    ∃ A', (∀ w, (Instr.sliceAt t (.slice A n c) (some (.int .i64 (k : Int))) none none).run P w = .ok (.slice A' (n - k) (c - k)) w) ∧ (∀ w l, Bs w A n l → Bs w A' (n - k) (l.drop k)) ∧ (∀ b, InB A n b → InB A' (n - k) b) := by
  obtain ⟨A', h1, h2, h3⟩ := cut_tail T A n c k hk hnc
  refine ⟨if c = k then A else A.map (·.add (k * 1)), fun w => ?_, fun w l hb => ?_, fun b hb => ?_⟩
  · have h1 : (k : Int) ≤ n := by omega
    simp [Instr.sliceAt, Instr.slice, run_underlying T.ht, Instr.sliceBounds, run_sliceBound, size_of T w, h1]
  · by_cases hck : c = k
    · obtain rfl : n = k := by omega
      rw [List.drop_eq_nil_of_le (by rw [hb.1]; exact Nat.le_refl _), Nat.sub_self]
      exact Bs.nil _ _
    · rw [if_neg hck]
      by_cases hn : n = 0
      · subst hn
        obtain rfl : k = 0 := by omega
        rw [hb.empty rfl]; exact Bs.nil _ _
      · obtain ⟨b, off, x, hA, _⟩ := hb.get (k := 0) (by omega)
        subst hA
        rw [Nat.mul_one, Option.map_some, Addr.add_mid]
        exact hb.drop
  · rcases hb with h0 | ⟨off, rfl⟩
    · exact .inl (by omega)
    · by_cases hck : c = k
      · exact .inl (by omega)
      · rw [if_neg hck, Option.map_some, Addr.add_mid]
        exact .inr ⟨_, rfl⟩
theorem wpList_from {t e : TypeId} (T : ByteTypes P t e) {ops : Array Oper} {rest : List Oper} {o : Oper} {a : Act} {w : World} {Q : Exit → Act → World → Prop} (hgd : o.guard = none) (x y : Operand)
    (ho : o.op = .slice t x (some y) none none) (A : Option Addr) (n c k : Nat) (hx : a.eval x = .slice A n c) (hy : a.eval y = .int .i64 (k : Int)) (hk : k ≤ n) (hnc : n ≤ c)
    (h : ∀ A', (∀ w l, Bs w A n l → Bs w A' (n - k) (l.drop k)) → (∀ b, InB A n b → InB A' (n - k) b) → wpList P ops Q rest (a.put o.dst (.slice A' (n - k) (c - k))) w) : wpList P ops Q (o :: rest) a w := by
  obtain ⟨A', hrun, h1, h2⟩ := cut_from T A n c k hk hnc
  refine wpList_plain hgd fun K hK => ?_
  unfold Oper.wp execOp
  simp [ho, hx, hy, hrun, Result.andThen]
  exact hK _ _ (h A' h1 h2)
theorem wpList_mid {t e : TypeId} (T : ByteTypes P t e) {ops : Array Oper} {rest : List Oper} {o : Oper} {a : Act} {w : World} {Q : Exit → Act → World → Prop} (hgd : o.guard = none) (x y z : Operand)
    (ho : o.op = .slice t x (some y) (some z) none) (A : Option Addr) (n c k m : Nat) (hx : a.eval x = .slice A n c) (hy : a.eval y = .int .i64 (k : Int)) (zi : Int) (hz : a.eval z = .int .i64 zi) (hzi : zi = m) (hk : k ≤ m) (hm : m ≤ n) (hnc : n ≤ c)
    (h : ∀ A', (∀ w l, Bs w A n l → Bs w A' (m - k) ((l.drop k).take (m - k))) → wpList P ops Q rest (a.put o.dst (.slice A' (m - k) (c - k))) w) : wpList P ops Q (o :: rest) a w := by
  subst hzi
  have hrun : ∀ w, (Instr.sliceAt t (.slice A n c) (some (.int .i64 (k : Int))) (some (.int .i64 (m : Int))) none).run P w = .ok (.slice (if c = k then A else A.map (·.add (k * 1))) (m - k) (c - k)) w := fun w => by
    have h1 : (k : Int) ≤ m := by omega
    have h2 : (m : Int) ≤ c := by omega
    simp [Instr.sliceAt, Instr.slice, run_underlying T.ht, Instr.sliceBounds, run_sliceBound, size_of T w, h1, h2]
  refine wpList_plain hgd fun K hK => ?_
  unfold Oper.wp execOp
  simp [ho, hx, hy, hz, hrun, Result.andThen]
  refine hK _ _ ?_
  rw [show k * 1 = k by omega] at *
  refine h _ fun w l hb => ?_
  by_cases hck : c = k
  · obtain rfl : m = k := by omega
    rw [Nat.sub_self, List.take_zero]; exact Bs.nil _ _
  · rw [if_neg hck]
    by_cases hn : n = 0
    · rw [show m - k = 0 by omega, List.take_zero]; exact Bs.nil _ _
    · obtain ⟨b, off, x, hA, _⟩ := hb.get (k := 0) (by omega)
      subst hA
      rw [Option.map_some, Addr.add_mid]
      exact hb.drop.take (by omega)
end
/-- the method value r.fail -/
def failV (g : Nat) : Value := .func (.func 81) #[.pointer (some ⟨g, 0, none⟩)] #[]
theorem row2_set1 {w : World} {g : Nat} {t : TypeId} {v x : Value} (h : Row w g t #[v, x]) (u : Value) : Row (w.setCell ⟨g, 1, none⟩ u) g t #[v, u] := h.set 1 u
theorem row2_set0 {w : World} {g : Nat} {t : TypeId} {v x : Value} (h : Row w g t #[v, x]) (u : Value) : Row (w.setCell ⟨g, 0, none⟩ u) g t #[u, x] := h.set 0 u
set_option maxHeartbeats 400000 in
theorem fail_any (g : Nat) (v x : Value) (E : Int) (w : World) (h : Row w g 123 #[v, x]) :
    Calls Tryd.prog 81 #[.pointer (some ⟨g, 0, none⟩), .int .i64 E] w fun e w' => e = .returned (.tuple #[]) ∧ Row w' g 123 #[v, .int .i64 E] ∧ Only g w w' := by
  have h1 : w.cell? ⟨g, 1, none⟩ = some x := h.cell 1
  have f1 := h.frozen 1
  have H := Lib.hid h
  clear h
  go_enter Tryd.func81, Tryd.ntmps81
  go_wp2
  exact bodyPost_end (v := .tuple #[]) (by simp [results, Tryd.results81]) rfl ⟨rfl, row2_set1 H.out _, Only.setCell g 1 w _⟩
set_option maxHeartbeats 400000 in
theorem Err_any (g : Nat) (v : Value) (E : Int) (w : World) (h : Row w g 123 #[v, .int .i64 E]) :
    Calls Tryd.prog 76 #[.pointer (some ⟨g, 0, none⟩)] w fun e w' => e = .returned (.int .i64 E) ∧ w = w' := by
  have h1 : w.cell? ⟨g, 1, none⟩ = some (.int .i64 E) := h.cell 1
  clear h
  go_enter Tryd.func76, Tryd.ntmps76
  go_wp2
  go_ret
  exact ⟨rfl, rfl⟩
set_option maxHeartbeats 400000 in
theorem Err_nil (w : World) : Calls Tryd.prog 76 #[.pointer none] w fun e w' => e = .returned (.int .i64 2) ∧ w = w' := by
  go_enter Tryd.func76, Tryd.ntmps76
  go_wp2
  go_ret
  exact ⟨rfl, rfl⟩
/-- a number's reading: two numbers come back, the error is met -/
def Rd2 (w : World) (g : Nat) (v : Value) (k : IntKind) (r : Int × Nat × Nat) (e : Ending) (w' : World) : Prop :=
  e = .returned (.tuple #[.int k (r.2.1 : Int), .int .i64 (r.2.2 : Int)]) ∧ Row w' g 123 #[v, .int .i64 r.1] ∧ Only g w w'
set_option maxHeartbeats 1000000 in
theorem readNum_any (A : Option Addr) (n c : Nat) (l : List UInt8) (g : Nat) (v : Value) (w : World) (hB : Bs w A n l) (hnc : n ≤ c) (hn : n ≤ 1000000000000) (hr : Row w g 123 #[v, .int .i64 0]) :
    Calls Tryd.prog 80 #[.slice A n c, failV g] w (Rd2 w g v .u64 (rdNum l)) := by
  have HR := Lib.hid hr
  have HB := Lib.hid hB
  have HL := Lib.hid hB.1
  clear hr
  rcases l with _ | ⟨x, r⟩
  · obtain rfl : n = 0 := hB.1.symm
    clear hB
    have HQ := Lib.hid (show rdNum [] = (40, 0, 0) from rfl)
    generalize rdNum [] = q at *
    unfold failV
    go_enter Tryd.func80, Tryd.ntmps80
    go_wp2_with (go_at_call 81; refine (fail_any g v _ 40 _ HR.out).mono ?_; rintro e w1 ⟨rfl, h1, h2⟩)
    go_ret2
    rw [HQ.out]
    exact ⟨rfl, h1, h2⟩
  · obtain ⟨b, off, x', rfl, hb, hx, hc0⟩ := hB.get (k := 0) (by rw [← hB.1]; simp)
    obtain rfl : x' = x := by simpa using hx.symm
    rw [Nat.add_zero] at hc0
    have hx256 := byte_lt x'
    have hn1 : r.length + 1 = n := HL.out
    have hnpos : (0 : Int) < (n : Int) := by omega
    have hz : ((n : Int) == 0) = false := by simp; omega
    clear hx
    by_cases h8 : 8 < x'.toNat
    · have HQ := Lib.hid (show rdNum (x' :: r) = (41, 0, 0) by simp only [rdNum, if_pos h8])
      clear hB
      generalize rdNum (x' :: r) = q at *
      unfold failV
      go_enter Tryd.func80, Tryd.ntmps80
      go_wp2_with (go_at_call 81; refine (fail_any g v _ 41 _ HR.out).mono ?_; rintro e w1 ⟨rfl, h1, h2⟩)
      go_ret2
      rw [HQ.out]
      exact ⟨rfl, h1, h2⟩
    · by_cases hs : r.length < x'.toNat
      · have HQ := Lib.hid (show rdNum (x' :: r) = (40, 0, 0) by simp only [rdNum, if_neg h8, if_pos hs])
        have hs' : (n : Int) ≤ (x'.toNat : Int) := by omega
        clear hB
        generalize rdNum (x' :: r) = q at *
        unfold failV
        go_enter Tryd.func80, Tryd.ntmps80
        go_wp2_with (go_at_call 81; refine (fail_any g v _ 40 _ HR.out).mono ?_; rintro e w1 ⟨rfl, h1, h2⟩)
        go_ret2
        rw [HQ.out]
        exact ⟨rfl, h1, h2⟩
      · have hs' : (x'.toNat : Int) < (n : Int) := by omega
        by_cases h0 : x'.toNat = 0
        · have HQ := Lib.hid (show rdNum (x' :: r) = (0, num [], 1 + 0) by simp [rdNum, h0])
          have HZ := Lib.hid h0
          rw [h0] at hc0
          have HN := Lib.hid (fun A c => Number_ok A 0 c [] w (Bs.nil _ _) (by omega))
          clear hB h0 hs' hs h8 hx256
          generalize rdNum (x' :: r) = q at *
          generalize num [] = N at *
          unfold failV
          go_enter Tryd.func80, Tryd.ntmps80
          go_wp2_with (first
            | ((with_reducible refine wpList_mid Tryd.byteTypes rfl (.tmp 15) (.const (.int .i64 1)) (.tmp 16) rfl (some ⟨b, off, none⟩) n c 1 1 rfl rfl _ rfl (by omega) (by omega) (by omega) (by omega) ?_); intro A1 hA1)
            | (go_at_call 90; refine (HN.out _ _).mono ?_; rintro e w1 ⟨rfl, rfl⟩))
          go_ret2
          rw [HQ.out]
          exact ⟨rfl, HR.out, Only.refl _ _⟩
        · obtain ⟨y, r', rfl⟩ : ∃ y r', r = y :: r' := by
            rcases r with _ | ⟨y, r'⟩
            · simp at hs; omega
            · exact ⟨y, r', rfl⟩
          obtain ⟨b', off', y', e', hb', hy, hc1⟩ := hB.get (k := 1) (by omega)
          simp only [Option.some.injEq, Addr.mk.injEq, and_true] at e'
          obtain ⟨rfl, rfl⟩ := e'
          obtain rfl : y' = y := by simpa using hy.symm
          have hxp : (0 : Int) < (x'.toNat : Int) := by omega
          have h1n : (1 : Int) < (n : Int) := by omega
          clear hy
          by_cases hy0 : y' = 0
          · subst hy0
            have HQ := Lib.hid (show rdNum (x' :: 0 :: r') = (41, 0, 0) by simp only [rdNum, if_neg h8, if_neg hs]; rw [if_pos ⟨by omega, rfl⟩])
            clear hB
            generalize rdNum (x' :: 0 :: r') = q at *
            simp only [show (0 : UInt8).toNat = 0 from rfl] at hc1
            unfold failV
            go_enter Tryd.func80, Tryd.ntmps80
            go_wp2_with (go_at_call 81; refine (fail_any g v _ 41 _ HR.out).mono ?_; rintro e w1 ⟨rfl, h1, h2⟩)
            go_ret2
            rw [HQ.out]
            exact ⟨rfl, h1, h2⟩
          · have hy1 : ((y'.toNat : Int) == 0) = false := by
              simp only [beq_eq_false_iff_ne, ne_eq]
              intro e
              exact hy0 (UInt8.toNat_inj.1 (by show y'.toNat = 0; omega))
            have HQ := Lib.hid (show rdNum (x' :: y' :: r') = (0, num ((y' :: r').take x'.toNat), 1 + x'.toNat) by
              simp only [rdNum, if_neg h8, if_neg hs]
              rw [if_neg]
              rintro ⟨_, h⟩
              exact hy0 (by simpa using h))
            obtain ⟨k, hk⟩ : ∃ k, x'.toNat = k := ⟨_, rfl⟩
            have HBB := Lib.hid hB
            have HN := Lib.hid (fun A c h => Number_ok A k c ((y' :: r').take k) w h (by omega))
            rw [hk] at HQ hxp hs' hc0 h8 hx256
            have e9 : (x' :: y' :: r').drop 1 = y' :: r' := rfl
            have HLK := Lib.hid hs
            clear hB h0 hs hk hn1
            generalize rdNum (x' :: y' :: r') = q at *
            generalize num ((y' :: r').take k) = N at *
            unfold failV
            go_enter Tryd.func80, Tryd.ntmps80
            go_wp2_with (first
              | ((with_reducible refine wpList_mid Tryd.byteTypes rfl (.tmp 15) (.const (.int .i64 1)) (.tmp 16) rfl (some ⟨b, off, none⟩) n c 1 (1 + k) rfl rfl _ rfl (by omega) (by omega) (by omega) (by omega) ?_); intro A1 hA1; rw [show 1 + k - 1 = k by omega] at *)
              | (go_at_call 90; refine (HN.out _ _ (hA1 _ _ HBB.out)).mono ?_; rintro e w1 ⟨rfl, rfl⟩))
            go_ret2
            rw [HQ.out]
            exact ⟨by simp, HR.out, Only.refl _ _⟩
end
section
open Go.RowKit
section
variable {P : Program}
theorem wpList_head {t e : TypeId} (T : ByteTypes P t e) {ops : Array Oper} {rest : List Oper} {o : Oper} {a : Act} {w : World} {Q : Exit → Act → World → Prop} (hgd : o.guard = none) (x z : Operand)
    (ho : o.op = .slice t x none (some z) none) (A : Option Addr) (n c m : Nat) (hx : a.eval x = .slice A n c) (hz : a.eval z = .int .i64 (m : Int)) (hm : m ≤ n) (hnc : n ≤ c)
    (h : ∀ A', (∀ w l, Bs w A n l → Bs w A' m (l.take m)) → wpList P ops Q rest (a.put o.dst (.slice A' m c)) w) : wpList P ops Q (o :: rest) a w := by
  have hrun : ∃ A', (∀ w, (Instr.sliceAt t (.slice A n c) none (some (.int .i64 (m : Int))) none).run P w = .ok (.slice A' m c) w) ∧ (∀ w l, Bs w A n l → Bs w A' m (l.take m)) := by
    refine ⟨if c = 0 then A else A.map (·.add (0 * 1)), fun w => ?_, fun w l hb => ?_⟩
    · have h2 : (m : Int) ≤ c := by omega
      simp [Instr.sliceAt, Instr.slice, run_underlying T.ht, Instr.sliceBounds, run_sliceBound, size_of T w, h2]
    · by_cases hc : c = 0
      · rw [if_pos hc]; exact hb.take hm
      · rw [if_neg hc]
        by_cases hn : n = 0
        · rw [show m = 0 by omega, List.take_zero]; exact Bs.nil _ _
        · obtain ⟨b, off, x, hA, _⟩ := hb.get (k := 0) (by omega)
          subst hA
          rw [Option.map_some, Addr.add_mid]
          exact hb.take hm
  obtain ⟨A', hrun, hA'⟩ := hrun
  refine wpList_plain hgd fun K hK => ?_
  unfold Oper.wp execOp
  simp [ho, hx, hz, hrun, Result.andThen]
  exact hK _ _ (h A' hA')
end
theorem triple {α β : Type} (r : Int × α × β) : ∃ E V S, r = (E, V, S) := ⟨r.1, r.2.1, r.2.2, rfl⟩
/-- a text's reading -/
def RdT (w : World) (g : Nat) (v : Value) (r : Int × List UInt8 × Nat) (e : Ending) (w' : World) : Prop :=
  ∃ A c, e = .returned (.tuple #[.slice A r.2.1.length c, .int .i64 (r.2.2 : Int)]) ∧ r.2.1.length ≤ c ∧ Own w' w.heap.size 5 (.slice A r.2.1.length c) r.2.1.length r.2.1 ∧ Row w' g 123 #[v, .int .i64 r.1] ∧ Only g w w'
theorem Only.then_below {g : Nat} {a b c : World} (h : Only g a b) (k : Below a.heap.size b c) : Only g a c :=
  ⟨k.os.trans h.os, k.tape.trans h.tape, k.output.trans h.output, Nat.le_trans h.size k.size, fun i hi hg => (k.block i hi).trans (h.block i hi hg)⟩
/-- a list's reading -/
def RdL (w : World) (g : Nat) (v : Value) (r : Int × List (List UInt8) × Nat) (e : Ending) (w' : World) : Prop :=
  ∃ A c, e = .returned (.tuple #[.slice A r.2.1.length c, .int .i64 (r.2.2 : Int)]) ∧ r.2.1.length ≤ c ∧ OwnL w' w.heap.size (.slice A r.2.1.length c) r.2.1.length r.2.1 ∧ Row w' g 123 #[v, .int .i64 r.1] ∧ Only g w w'
theorem OwnL.rdl {w w' : World} {g : Nat} {v : Value} {A : Option Addr} {k c S : Nat} {L : List (List UInt8)} (h : OwnL w' w.heap.size (.slice A k c) k L) (hr : Row w' g 123 #[v, .int .i64 0]) (ho : Only g w w') : RdL w g v (0, L, S) (.returned (.tuple #[.slice A k c, .int .i64 (S : Int)])) w' := by
  have hl := h.length
  subst hl
  obtain ⟨A', c', hv, hc⟩ := h.form
  injection hv with h1 h2 h3
  subst h1 h3
  exact ⟨A, c, rfl, hc, h, hr, ho⟩
end
section
open Go.RowKit
theorem Own.inB {w : World} {base : Nat} {e : TypeId} {A : Option Addr} {n c : Nat} {l : List UInt8} (h : Own w base e (.slice A n c) n l) (g : Nat) (hg : w.heap.size ≤ g) (hb : base ≤ g) : ∃ b, base ≤ b ∧ b ≠ g ∧ InB A n b := by
  rcases h.2 with ⟨_, hn⟩ | ⟨k, cap, cur, hv, hge, hk, _⟩
  · exact ⟨g + 1, by omega, by omega, .inl hn⟩
  · injection hv with h1 _ _
    subst h1
    have := (Array.getElem?_eq_some_iff.1 hk).1
    exact ⟨k, hge, by omega, .inr ⟨0, rfl⟩⟩
/-- a reader in new memory -/
def NewRdr (w : World) (l : List UInt8) (e : Ending) (w' : World) : Prop :=
  ∃ g b, e = .returned (.pointer (some ⟨g, 0, none⟩)) ∧ w.heap.size ≤ g ∧ w.heap.size ≤ b ∧ Rdr w' 123 g b 0 l ∧ Below w.heap.size w w'
set_option maxHeartbeats 400000 in
theorem Read_any (A : Option Addr) (n c : Nat) (l : List UInt8) (w : World) (hB : Bs w A n l) (hn : n ≤ 140737488355328) : Calls Tryd.prog 65 #[.slice A n c] w (NewRdr w l) := by
  have HC := Lib.hid (Clone_any A n c l w hB hn)
  have hl := hB.1
  unfold S4NewSlice at HC
  rw [hl] at HC
  clear hB
  go_enter Tryd.func65, Tryd.ntmps65
  go_wp2_with (go_at_call 38; refine HC.out.mono ?_; rintro e w1 ⟨A1, c1, rfl, hc1, hb1, ho1⟩; have hs1 := hb1.size)
  go_ret
  obtain ⟨b, hb, hbg, hI⟩ := ho1.inB w1.heap.size (Nat.le_refl _) hs1
  exact ⟨w1.heap.size, b, rfl, hs1, hb, ⟨A1, n, c1, Row.new w1 123 _, ho1.bs.below ((Below.refl _ _).alloc (Nat.le_refl _) _), hc1, hI, hbg⟩, hb1.alloc hs1 _⟩
def sNum (E : Int) (l : List UInt8) (most : Int) : Int × Nat × Nat := if E = 0 then rdLen l most else (E, 0, 0)
def sText (E : Int) (l : List UInt8) (most : Int) : Int × List UInt8 × Nat := if E = 0 then rdText l most else (E, [], 0)
def sList (E : Int) (l : List UInt8) (most each : Int) : Int × List (List UInt8) × Nat := if E = 0 then rdList l most each else (E, [], 0)
def sEnd (E : Int) (l : List UInt8) : Int := if E = 0 ∧ l ≠ [] then 43 else E
/-- the answer of Num -/
def RNum (w : World) (t : TypeId) (g b : Nat) (l : List UInt8) (r : Int × Nat × Nat) (e : Ending) (w' : World) : Prop :=
  e = .returned (.int .u64 (r.2.1 : Int)) ∧ Rdr w' t g b r.1 (l.drop r.2.2) ∧ Only g w w'
/-- the answer of Text -/
def RText (w : World) (t : TypeId) (g b : Nat) (l : List UInt8) (r : Int × List UInt8 × Nat) (e : Ending) (w' : World) : Prop :=
  ∃ A c, e = .returned (.slice A r.2.1.length c) ∧ r.2.1.length ≤ c ∧ Own w' w.heap.size 5 (.slice A r.2.1.length c) r.2.1.length r.2.1 ∧ Rdr w' t g b r.1 (l.drop r.2.2) ∧ Only g w w'
/-- the answer of List -/
def RList (w : World) (t : TypeId) (g b : Nat) (l : List UInt8) (r : Int × List (List UInt8) × Nat) (e : Ending) (w' : World) : Prop :=
  ∃ A c, e = .returned (.slice A r.2.1.length c) ∧ r.2.1.length ≤ c ∧ OwnL w' w.heap.size (.slice A r.2.1.length c) r.2.1.length r.2.1 ∧ Rdr w' t g b r.1 (l.drop r.2.2) ∧ Only g w w'
theorem bne0 {E : Int} (h : E ≠ 0) : (E != 0) = true := by simp [h]
set_option maxHeartbeats 1000000 in
theorem RNum_any (g b : Nat) (E : Int) (l : List UInt8) (most : Int) (w : World) (h : Rdr w 123 g b E l) (hl : l.length ≤ 1000000000) (h0 : 0 ≤ most) (hm : most < 18446744073709551616) :
    Calls Tryd.prog 66 #[.pointer (some ⟨g, 0, none⟩), .int .u64 most] w (RNum w 123 g b l (sNum E l most)) := by
  have H := Lib.hid h
  obtain ⟨A, n, c, hr, hB, hnc, hI, hbg⟩ := h
  have HR := Lib.hid hr
  have HB := Lib.hid hB
  have HI := Lib.hid hI
  have hn := hB.1
  clear hI
  by_cases hE : E = 0
  · subst hE
    have HN := Lib.hid (readNum_any A n c l g (.slice A n c) w hB hnc (by omega) hr)
    have hsz := rdNum_size l
    have hlt := rdNum_lt l
    have hE0 := rdNum_ok l
    have hcs := rdNum_cases l
    have HS := Lib.hid (show sNum 0 l most = rdLen l most from rfl)
    have c0 : w.cell? ⟨g, 0, none⟩ = some (.slice A n c) := hr.cell 0
    obtain ⟨E1, V1, S1, hq⟩ := triple (rdNum l)
    have HD : Hid (rdLen l most = if E1 = 0 then (if most < V1 then (42, 0, 0) else (E1, V1, S1)) else (E1, V1, S1)) := Lib.hid (by unfold rdLen; rw [hq])
    rw [hq] at HN hsz hlt hE0 hcs
    rw [hn] at hsz
    simp only at hsz hlt hE0
    have hV0 : E1 ≠ 0 → V1 = 0 := fun hx => by
      rcases hcs with ⟨_, h2⟩ | ⟨x, r, _, _, _, _, h2⟩
      · exact congrArg Prod.fst h2
      · exact absurd (congrArg Prod.fst h2) hx
    unfold Rd2 failV at HN
    simp only at HN
    generalize sNum 0 l most = q at *
    clear hr hB hq hcs
    by_cases hV : most < (V1 : Int)
    · have hE1 : E1 = 0 := by
        by_cases h : E1 = 0
        · exact h
        · have := hV0 h; omega
      have HQ := Lib.hid (show q = (42, 0, 0) by rw [HS.out, HD.out, if_pos hE1, if_pos hV])
      clear HD HS hE0 hV0
      go_enter Tryd.func66, Tryd.ntmps66
      go_wp2_with (first
        | (go_at_call 76; refine (Err_any g _ 0 _ HR.out).mono ?_; rintro e w1 ⟨rfl, rfl⟩)
        | (go_at_call 80; refine HN.out.mono ?_; rintro e w1 ⟨rfl, h1, h2⟩)
        | (go_at_call 81; refine (fail_any g _ _ 42 _ h1).mono ?_; rintro e w2 ⟨rfl, h3, h4⟩))
      go_ret
      rw [HQ.out]
      have ho := h2.trans h4
      exact ⟨rfl, ⟨A, n, c, h3, HB.out.only (HI.out.apart hbg) ho, hnc, HI.out, hbg⟩, ho⟩
    · have HQ := Lib.hid (show q = (E1, V1, S1) by rw [HS.out, HD.out, if_neg hV]; simp)
      clear HD HS hE0 hV0
      have hsnw : S1 ≤ n := hsz
      go_enter Tryd.func66, Tryd.ntmps66
      go_wp2_with (first
        | (go_at_call 76; refine (Err_any g _ 0 _ HR.out).mono ?_; rintro e w1 ⟨rfl, rfl⟩)
        | (go_at_call 80; refine HN.out.mono ?_; rintro e w1 ⟨rfl, h1, h2⟩; have k0 := h1.cell 0; have f0 := h1.frozen 0; have H1 := Lib.hid h1; have H2 := Lib.hid h2; simp only [List.getElem?_toArray, List.getElem?_cons_zero] at k0; clear h1 h2)
        | ((with_reducible refine wpList_from Tryd.byteTypes rfl (.tmp 29) (.tmp 30) rfl A n c S1 rfl rfl hsnw hnc ?_); intro A1 hA1 hI1))
      go_ret
      rw [HQ.out]
      have ho := H2.out.trans (Only.setCell g 0 w1 (.slice A1 (n - S1) (c - S1)))
      exact ⟨rfl, ⟨A1, n - S1, c - S1, row2_set0 H1.out _, (hA1 _ _ HB.out).only ((hI1 b HI.out).apart hbg) ho, by omega, hI1 b HI.out, hbg⟩, ho⟩
  · have HQ := Lib.hid (show sNum E l most = (E, 0, 0) by unfold sNum; rw [if_neg hE])
    have hE2 := bne0 hE
    generalize sNum E l most = q at *
    clear hr hB
    go_enter Tryd.func66, Tryd.ntmps66
    go_wp2_with (go_at_call 76; refine (Err_any g _ E _ HR.out).mono ?_; rintro e w1 ⟨rfl, rfl⟩)
    go_ret
    rw [HQ.out]
    exact ⟨rfl, H.out, Only.refl _ _⟩
/-- the answer of End -/
def REnd (w : World) (t : TypeId) (g b : Nat) (l : List UInt8) (r : Int) (e : Ending) (w' : World) : Prop :=
  e = .returned (.int .i64 r) ∧ Rdr w' t g b r l ∧ Only g w w'
set_option maxHeartbeats 1000000 in
theorem REnd_any (g b : Nat) (E : Int) (l : List UInt8) (w : World) (h : Rdr w 123 g b E l) :
    Calls Tryd.prog 68 #[.pointer (some ⟨g, 0, none⟩)] w (REnd w 123 g b l (sEnd E l)) := by
  have H := Lib.hid h
  obtain ⟨A, n, c, hr, hB, hnc, hI, hbg⟩ := h
  have HR := Lib.hid hr
  have HB := Lib.hid hB
  have HI := Lib.hid hI
  have hn := hB.1
  by_cases hE : E = 0
  · subst hE
    have c0 : w.cell? ⟨g, 0, none⟩ = some (.slice A n c) := hr.cell 0
    by_cases hz : n = 0
    · have HQ := Lib.hid (show sEnd 0 l = 0 by unfold sEnd; rw [if_neg]; rintro ⟨_, h⟩; exact h (hB.empty hz))
      subst hz
      generalize sEnd 0 l = q at *
      clear hr hB hI
      go_enter Tryd.func68, Tryd.ntmps68
      go_wp2_with (go_at_call 76; refine (Err_any g _ 0 _ HR.out).mono ?_; rintro e w1 ⟨rfl, rfl⟩)
      go_ret
      rw [HQ.out]
      exact ⟨rfl, H.out, Only.refl _ _⟩
    · have HQ := Lib.hid (show sEnd 0 l = 43 by unfold sEnd; rw [if_pos]; exact ⟨rfl, fun h => hz (by rw [← hn, h]; rfl)⟩)
      have hz2 : (0 : Int) < (n : Int) := by omega
      generalize sEnd 0 l = q at *
      clear hr hB hI hn hz
      go_enter Tryd.func68, Tryd.ntmps68
      go_wp2_with (first
        | (go_at_call 76; refine (Err_any g _ 0 _ HR.out).mono ?_; rintro e w1 ⟨rfl, rfl⟩)
        | (go_at_call 81; refine (fail_any g _ _ 43 _ HR.out).mono ?_; rintro e w2 ⟨rfl, h3, h4⟩; have H3 := Lib.hid h3; have H4 := Lib.hid h4; clear h3 h4)
        | (go_at_call 76; refine (Err_any g _ 43 _ H3.out).mono ?_; rintro e w3 ⟨rfl, rfl⟩))
      go_ret
      rw [HQ.out]
      exact ⟨rfl, ⟨A, n, c, H3.out, HB.out.only (HI.out.apart hbg) H4.out, hnc, HI.out, hbg⟩, H4.out⟩
  · have HQ := Lib.hid (show sEnd E l = E by unfold sEnd; rw [if_neg]; rintro ⟨h, _⟩; exact hE h)
    have hE2 : (E == 0) = false := by simp [hE]
    generalize sEnd E l = q at *
    clear hr hB hI
    go_enter Tryd.func68, Tryd.ntmps68
    go_wp2_with (go_at_call 76; refine (Err_any g _ E _ HR.out).mono ?_; rintro e w1 ⟨rfl, rfl⟩)
    go_ret
    rw [HQ.out]
    exact ⟨rfl, H.out, Only.refl _ _⟩
end
section
open Go.RowKit
/-- but for the blocks g and G the world is as it was -/
structure Only2 (g G : Nat) (w w' : World) : Prop where
  os : w'.os = w.os
  tape : w'.tape = w.tape
  output : w'.output = w.output
  size : w.heap.size ≤ w'.heap.size
  block : ∀ k, k < w.heap.size → k ≠ g → k ≠ G → w'.heap[k]? = w.heap[k]?
theorem Only2.refl (g G : Nat) (w : World) : Only2 g G w w := ⟨rfl, rfl, rfl, Nat.le_refl _, fun _ _ _ _ => rfl⟩
theorem Only.two {g G : Nat} {w w' : World} (h : Only g w w') : Only2 g G w w' := ⟨h.os, h.tape, h.output, h.size, fun k hk hg _ => h.block k hk hg⟩
theorem Only.two' {g G : Nat} {w w' : World} (h : Only G w w') : Only2 g G w w' := ⟨h.os, h.tape, h.output, h.size, fun k hk _ hG => h.block k hk hG⟩
theorem Only2.trans {g G : Nat} {a b c : World} (h : Only2 g G a b) (k : Only2 g G b c) : Only2 g G a c :=
  ⟨k.os.trans h.os, k.tape.trans h.tape, k.output.trans h.output, Nat.le_trans h.size k.size, fun i hi hg hG => (k.block i (Nat.lt_of_lt_of_le hi h.size) hg hG).trans (h.block i hi hg hG)⟩
/-- where G is new -/
theorem Only2.one {g G : Nat} {a b c : World} (h : Below a.heap.size a b) (k : Only2 g G b c) (hG : a.heap.size ≤ G) : Only g a c :=
  ⟨k.os.trans h.os, k.tape.trans h.tape, k.output.trans h.output, Nat.le_trans h.size k.size, fun i hi hg => (k.block i (Nat.lt_of_lt_of_le hi h.size) hg (by omega)).trans (h.block i hi)⟩
/-- m bytes, or none -/
def sFill (E : Int) (l : List UInt8) (m : Nat) : Int × List UInt8 × Nat :=
  if E = 0 then (if l.length < m then (40, List.replicate m 0, 0) else (0, l.take m, m)) else (E, List.replicate m 0, 0)
theorem sFill_length (E : Int) (l : List UInt8) (m : Nat) : (sFill E l m).2.1.length = m := by
  unfold sFill
  split
  · split
    · simp
    · rw [List.length_take]; omega
  · simp
theorem spl_all (cur : Array Value) (l : List UInt8) (h : l.length = cur.size) : spl cur 0 l = bcells l := by
  apply Array.ext_getElem?
  intro j
  rw [spl_get _ _ _ (by omega), bcells_get?]
  by_cases hj : j < l.length
  · rw [if_pos (by omega), Nat.sub_zero]
  · rw [if_neg (by omega), Array.getElem?_eq_none (by omega), List.getElem?_eq_none (by omega)]; rfl
set_option maxHeartbeats 2000000 in
theorem fill_any (g b : Nat) (E : Int) (l : List UInt8) (w : World) (h : Rdr w 123 g b E l) (G m : Nat) (t : TypeId) (hG : Row w G t (bcells (List.replicate m 0))) (hGg : G ≠ g) (hGb : G ≠ b) :
    Calls Tryd.prog 89 #[.pointer (some ⟨g, 0, none⟩), .slice (some ⟨G, 0, none⟩) m m] w fun e w' => e = .returned (.tuple #[]) ∧ Row w' G t (bcells (sFill E l m).2.1) ∧ Rdr w' 123 g b (sFill E l m).1 (l.drop (sFill E l m).2.2) ∧ Only2 g G w w' := by
  have H := Lib.hid h
  obtain ⟨A, n, c, hr, hB, hnc, hI, hbg⟩ := h
  have HR := Lib.hid hr
  have HB := Lib.hid hB
  have HI := Lib.hid hI
  have HG := Lib.hid hG
  have hn := hB.1
  clear hG
  by_cases hE : E = 0
  · subst hE
    have c0 : w.cell? ⟨g, 0, none⟩ = some (.slice A n c) := hr.cell 0
    have f0 := hr.frozen 0
    by_cases hlt : n < m
    · have HQ := Lib.hid (show sFill 0 l m = (40, List.replicate m 0, 0) by unfold sFill; rw [if_pos rfl, if_pos (by omega)])
      generalize sFill 0 l m = q at *
      clear hr hB hI hn
      go_enter Tryd.func89, Tryd.ntmps89
      go_wp2_with (first
        | (go_at_call 76; refine (Err_any g _ 0 _ HR.out).mono ?_; rintro e w1 ⟨rfl, rfl⟩)
        | (go_at_call 81; refine (fail_any g _ _ 40 _ HR.out).mono ?_; rintro e w2 ⟨rfl, h3, h4⟩))
      refine bodyPost_ret (v := .tuple #[]) (by simp [results, Tryd.results89]) rfl ?_
      rw [HQ.out]
      exact ⟨rfl, HG.out.only h4 hGg, ⟨A, n, c, h3, HB.out.only (HI.out.apart hbg) h4, hnc, HI.out, hbg⟩, h4.two⟩
    · have HQ := Lib.hid (show sFill 0 l m = (0, l.take m, m) by unfold sFill; rw [if_pos rfl, if_neg (by omega)])
      obtain ⟨A1, hsl, hA1, hI1⟩ := cut_from Tryd.byteTypes A n c m (by omega) hnc
      have HSP := Lib.hid (spl_all (bcells (List.replicate m 0)) (l.take m) (by rw [bcells_size, List.length_replicate, List.length_take]; omega))
      have HSZ := Lib.hid (show (bcells (List.replicate m 0)).size = m by rw [bcells_size, List.length_replicate])
      have HMN := Lib.hid (show Nat.min n m = m from Nat.min_eq_right (by omega))
      generalize sFill 0 l m = q at *
      generalize bcells (List.replicate m 0) = zs at *
      have H1 := Lib.hid hA1
      have H2 := Lib.hid hI1
      clear hr hB hI hn hA1 hI1
      go_enter Tryd.func89, Tryd.ntmps89
      go_wp2_with (go_at_call 76; refine (Err_any g _ 0 _ HR.out).mono ?_; rintro e w1 ⟨rfl, rfl⟩)
      go_region_law ((refine step_copyK Tryd.byteTypes (by rfl) (.tmp 22) (.tmp 26) (by rfl) G 0 m m A n c (by rfl) (by rfl) l t zs HG.out HB.out m HMN.out (by rw [HSZ.out]; omega) ?_; intro w2 hr2 ho2'; have ho2 : Only G w w2 := ⟨ho2'.os, ho2'.tape, ho2'.output, ho2'.size, ho2'.block⟩; have k2 := HR.out.only ho2 hGg.symm; have c2 : w2.cell? ⟨g, 0, none⟩ = some (.slice A n c) := k2.cell 0; have f2 := k2.frozen 0; have HR2 := Lib.hid hr2; have HO2 := Lib.hid ho2; have HK2 := Lib.hid k2; clear hr2 ho2 ho2' k2))
      all_goals
        refine bodyPost_end (v := .tuple #[]) (by simp [results, Tryd.results89]) rfl ?_
        rw [HQ.out]
        have ho1 := Only.setCell g 0 w2 (.slice A1 (n - m) (c - m))
        exact ⟨rfl, by rw [← HSP.out]; exact HR2.out.only ho1 hGg, ⟨A1, n - m, c - m, row2_set0 HK2.out _, (((H1.out _ _ HB.out).only ((H2.out b HI.out).apart hGb.symm) HO2.out)).only ((H2.out b HI.out).apart hbg) ho1, by omega, H2.out b HI.out, hbg⟩, HO2.out.two'.trans ho1.two⟩
  · have HQ := Lib.hid (show sFill E l m = (E, List.replicate m 0, 0) by unfold sFill; rw [if_neg hE])
    have hE2 := bne0 hE
    generalize sFill E l m = q at *
    clear hr hB hI
    go_enter Tryd.func89, Tryd.ntmps89
    go_wp2_with (go_at_call 76; refine (Err_any g _ E _ HR.out).mono ?_; rintro e w1 ⟨rfl, rfl⟩)
    refine bodyPost_ret (v := .tuple #[]) (by simp [results, Tryd.results89]) rfl ?_
    rw [HQ.out]
    exact ⟨rfl, HG.out, H.out, Only2.refl _ _ _⟩
theorem Tryd.under45 : Tryd.prog.underlying 104 = some (.array 32 5) := by kernel_rfl
theorem Tryd.agg45 : AggType Tryd.prog 104 32 := ⟨_, Tryd.under45, rfl, by kernel_rfl⟩
theorem Rdr.any {w : World} {t : TypeId} {g b : Nat} {E : Int} {l : List UInt8} (h : Rdr w t g b E l) (hl : l = []) (b' : Nat) (hb : b' ≠ g) : Rdr w t g b' E l := by
  obtain ⟨A, n, c, h1, h2, h3, _, _⟩ := h
  exact ⟨A, n, c, h1, h2, h3, .inl (by rw [← h2.1, hl]; rfl), hb⟩
theorem Rdr.ne {w : World} {t : TypeId} {g b : Nat} {E : Int} {l : List UInt8} (h : Rdr w t g b E l) : b ≠ g := by
  obtain ⟨A, n, c, _, _, _, _, h5⟩ := h; exact h5
theorem Rdr.blt {w : World} {t : TypeId} {g b : Nat} {E : Int} {l : List UInt8} (h : Rdr w t g b E l) (hl : l ≠ []) : b < w.heap.size := by
  obtain ⟨A, n, c, h1, h2, h3, h4, _⟩ := h
  have hn : 0 < n := by
    rcases Nat.eq_zero_or_pos n with h0 | h0
    · exact absurd (h2.empty h0) hl
    · exact h0
  obtain ⟨b', off, x, hA, hb, _⟩ := h2.get hn
  rcases h4 with h0 | ⟨off', hA'⟩
  · omega
  · rw [hA] at hA'
    injection hA' with q
    injection q with q _
    omega
theorem Rdr.fresh {w : World} {t : TypeId} {g b : Nat} {E : Int} {l : List UInt8} (h : Rdr w t g b E l) :
    ∃ b', b' ≠ w.heap.size ∧ b' ≠ w.heap.size + 1 ∧ Rdr w t g b' E l ∧ ∀ w' E' s, Rdr w' t g b' E' (l.drop s) → Rdr w' t g b E' (l.drop s) := by
  by_cases hl : l = []
  · have := h.lt
    exact ⟨w.heap.size + 2, by omega, by omega, h.any hl _ (by omega), fun w' E' s h' => h'.any (by rw [hl]; simp) _ h.ne⟩
  · have := h.blt hl
    exact ⟨b, by omega, by omega, h, fun _ _ _ h' => h'⟩
theorem lit32_cells : lit32 = bcells (List.replicate 32 0) := rfl
set_option maxHeartbeats 400000 in
theorem Num_nil (m : Int) (w : World) : Calls Tryd.prog 66 #[.pointer none, .int .u64 m] w fun e w' => e = .returned (.int .u64 0) ∧ w = w' := by
  go_enter Tryd.func66, Tryd.ntmps66
  go_wp2_with (go_at_call 76; refine (Err_nil _).mono ?_; rintro e w1 ⟨rfl, rfl⟩)
  go_ret
  exact ⟨rfl, rfl⟩
set_option maxHeartbeats 400000 in
theorem fill_nil (v : Value) (w : World) : Calls Tryd.prog 89 #[.pointer none, v] w fun e w' => e = .returned (.tuple #[]) ∧ w = w' := by
  go_enter Tryd.func89, Tryd.ntmps89
  go_wp2_with (go_at_call 76; refine (Err_nil _).mono ?_; rintro e w1 ⟨rfl, rfl⟩)
  exact bodyPost_ret (v := .tuple #[]) (by simp [results, Tryd.results89]) rfl ⟨rfl, rfl⟩
set_option maxHeartbeats 400000 in
theorem End_nil (w : World) : Calls Tryd.prog 68 #[.pointer none] w fun e w' => e = .returned (.int .i64 2) ∧ w = w' := by
  go_enter Tryd.func68, Tryd.ntmps68
  go_wp2_with (go_at_call 76; refine (Err_nil _).mono ?_; rintro e w1 ⟨rfl, rfl⟩)
  go_ret
  exact ⟨rfl, rfl⟩
end
section
open Go.ChangeShapes Go.WideShapes Go.ChangeAt Go.RowKit
/-- a slice of numbers -/
def Is (w : World) (A : Option Addr) (n : Nat) (zs : List Int) : Prop :=
  zs.length = n ∧ ∀ k z, zs[k]? = some z → ∃ b off, A = some ⟨b, off, none⟩ ∧ b < w.heap.size ∧ w.cell? ⟨b, off + k, none⟩ = some (.int .i64 z) ∧ -9223372036854775808 ≤ z ∧ z < 9223372036854775808
theorem Is.nil (w : World) (A : Option Addr) : Is w A 0 [] := ⟨rfl, fun k z h => by simp at h⟩
theorem Is.get {w : World} {A : Option Addr} {n k : Nat} {zs : List Int} (h : Is w A n zs) (hk : k < n) :
    ∃ b off z, A = some ⟨b, off, none⟩ ∧ b < w.heap.size ∧ zs[k]? = some z ∧ w.cell? ⟨b, off + k, none⟩ = some (.int .i64 z) ∧ -9223372036854775808 ≤ z ∧ z < 9223372036854775808 := by
  have hl : k < zs.length := by rw [h.1]; exact hk
  obtain ⟨b, off, e, hb, hc, h1, h2⟩ := h.2 k zs[k] (List.getElem?_eq_getElem hl)
  exact ⟨b, off, zs[k], e, hb, List.getElem?_eq_getElem hl, hc, h1, h2⟩
theorem Is.below {w w' : World} {A : Option Addr} {n : Nat} {zs : List Int} (h : Is w A n zs) (hb : Below w.heap.size w w') : Is w' A n zs :=
  ⟨h.1, fun k z hz => by
    obtain ⟨b, off, e, hlt, hc, h1⟩ := h.2 k z hz
    exact ⟨b, off, e, Nat.lt_of_lt_of_le hlt hb.size, (hb.cell (p := ⟨b, off + k, none⟩) hlt).trans hc, h1⟩⟩
theorem quiet_drew {P : Program} {f : FuncId} {args : Array Value} {w : World} {n : Nat} {v : Value}
    (h : Calls P f args (w.drewN n) fun e w' => e = .returned v ∧ ∃ m, w' = (w.drewN n).drewN m) : Calls P f args (w.drewN n) fun e w'' => e = .returned v ∧ ∃ m, w'' = w.drewN m :=
  h.mono fun _ _ ⟨he, _, hm⟩ => ⟨he, _, hm.trans (World.drewN_drewN _ _ _)⟩
end
section
open Go.RowKit
theorem Err_rdr (g b : Nat) (E : Int) (l : List UInt8) (w : World) (h : Rdr w 123 g b E l) : Calls Tryd.prog 76 #[.pointer (some ⟨g, 0, none⟩)] w fun e w' => e = .returned (.int .i64 E) ∧ w = w' := by
  obtain ⟨A, n, c, hr, _⟩ := h; exact Err_any g _ E w hr
theorem num_step (N : Nat) (hN : N < 18446744073709551616) (M1 : List UInt8) (hl : (numB N ++ M1).length ≤ 1000000000) (g b : Nat) (w : World) (h : Rdr w 123 g b 0 (numB N ++ M1)) :
    Calls Tryd.prog 66 #[.pointer (some ⟨g, 0, none⟩), .int .u64 18446744073709551615] w fun e w' => e = .returned (.int .u64 (N : Int)) ∧ Rdr w' 123 g b 0 M1 ∧ Only g w w' := by
  have h1 := RNum_any g b 0 _ 18446744073709551615 w h hl (by omega) (by omega)
  have e : sNum 0 (numB N ++ M1) 18446744073709551615 = (0, N, wide N + 1) := by
    unfold sNum; rw [if_pos rfl, rdLen_max, rdNum_back N hN]
  rw [e] at h1
  refine h1.mono fun e w' ⟨h2, h3, h4⟩ => ⟨h2, ?_, h4⟩
  simp only at h3
  rwa [← numB_length, List.drop_left' rfl] at h3
theorem drop_texts {L : List (List UInt8)} {k : Nat} {l : List UInt8} (h : L[k]? = some l) : textsB (L.drop k) = textB l ++ textsB (L.drop (k + 1)) := by
  obtain ⟨hk, rfl⟩ := List.getElem?_eq_some_iff.1 h
  rw [List.drop_eq_getElem_cons hk, textsB_cons]
theorem texts_le {L : List (List UInt8)} (h1 : L.length ≤ 100) (h5 : ∀ l ∈ L, l.length ≤ 500) : (textsB L).length ≤ 50900 := by
  have h := textsB_le 500 (by omega) L h5
  have : L.length * (9 + 500) ≤ 100 * (9 + 500) := Nat.mul_le_mul_right _ h1
  omega
theorem lists_le {L : List (List UInt8)} (h1 : L.length ≤ 100) (h5 : ∀ l ∈ L, l.length ≤ 500) : (listB L).length ≤ 50909 := by
  have h := texts_le h1 h5
  have := wide8 (N := L.length) (by omega)
  rw [listB, List.length_append, numB_length]
  omega
end
end Go.Proofs.YtgiobcpljbpmiaaDoor
