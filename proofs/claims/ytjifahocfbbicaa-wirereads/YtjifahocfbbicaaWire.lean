/-
  Plain mathematics of layer 4 (wire): a number's, a text's and a list's bytes, and what is read of bytes. Nothing of the program is named here. No conditions.
-/
import Derived.Test.YtjifahocfbbicaaNum
namespace Go.Proofs.Ytjifahocfbbicaa
/-- how many bytes N has -/
def wide (N : Nat) : Nat := if N = 0 then 0 else wide (N / 256) + 1
termination_by N
decreasing_by omega
theorem wide_zero : wide 0 = 0 := by rw [wide]; simp
theorem wide_pos {N : Nat} (h : N ≠ 0) : wide N = wide (N / 256) + 1 := by rw [wide, if_neg h]
theorem wide_lt (N : Nat) : N < 256 ^ wide N := by
  induction N using Nat.strongRecOn with
  | _ N ih =>
    by_cases h : N = 0
    · subst h; rw [wide_zero]; decide
    · rw [wide_pos h, Nat.pow_succ]
      have := ih (N / 256) (by omega)
      omega
theorem wide_ge (N : Nat) (h : N ≠ 0) : 256 ^ (wide N - 1) ≤ N := by
  induction N using Nat.strongRecOn with
  | _ N ih =>
    rw [wide_pos h, Nat.add_sub_cancel]
    by_cases h2 : N / 256 = 0
    · rw [h2, wide_zero]; simp; omega
    · have := ih (N / 256) (by omega) h2
      rw [wide_pos h2] at this ⊢
      rw [Nat.pow_succ]
      rw [Nat.add_sub_cancel] at this
      omega
theorem wide_le {N k : Nat} (h : N < 256 ^ k) : wide N ≤ k := by
  by_cases h0 : N = 0
  · subst h0; rw [wide_zero]; omega
  · have h1 := wide_ge N h0
    have h2 : 256 ^ (wide N - 1) < 256 ^ k := Nat.lt_of_le_of_lt h1 h
    have := (Nat.pow_lt_pow_iff_right (by decide : 1 < 256)).1 h2
    omega
theorem wide8 {N : Nat} (h : N < 18446744073709551616) : wide N ≤ 8 := wide_le (k := 8) (by omega)
theorem wide_eq {N k : Nat} (h1 : 256 ^ k ≤ N) (h2 : N < 256 ^ (k + 1)) : wide N = k + 1 := by
  have h3 := wide_le h2
  have h4 : 256 ^ k < 256 ^ wide N := Nat.lt_of_le_of_lt h1 (wide_lt N)
  have := (Nat.pow_lt_pow_iff_right (by decide : 1 < 256)).1 h4
  omega
/-- a number's bytes -/
def numB (N : Nat) : List UInt8 := UInt8.ofNat (wide N) :: bytesOf N (wide N)
theorem numB_length (N : Nat) : (numB N).length = wide N + 1 := by simp [numB, bytesOf_length]
/-- a text's -/
def textB (t : List UInt8) : List UInt8 := numB t.length ++ t
/-- texts', one behind the other -/
def textsB (L : List (List UInt8)) : List UInt8 := (L.map textB).flatten
/-- a list's -/
def listB (L : List (List UInt8)) : List UInt8 := numB L.length ++ textsB L
theorem textsB_cons (t : List UInt8) (L : List (List UInt8)) : textsB (t :: L) = textB t ++ textsB L := by simp [textsB]
theorem textsB_snoc (t : List UInt8) (L : List (List UInt8)) : textsB (L ++ [t]) = textsB L ++ textB t := by simp [textsB]
/-- a number: the error (0: none), it, and how many bytes were gone through -/
def rdNum : List UInt8 → Int × Nat × Nat
  | [] => (40, 0, 0)
  | x :: r => if 8 < x.toNat then (41, 0, 0) else if r.length < x.toNat then (40, 0, 0) else if 0 < x.toNat ∧ r.head? = some 0 then (41, 0, 0) else (0, num (r.take x.toNat), 1 + x.toNat)
/-- a number that is not above most -/
def rdLen (b : List UInt8) (most : Int) : Int × Nat × Nat :=
  if (rdNum b).1 = 0 then (if most < (rdNum b).2.1 then (42, 0, 0) else rdNum b) else rdNum b
/-- a text -/
def rdText (b : List UInt8) (most : Int) : Int × List UInt8 × Nat :=
  if (rdLen b most).1 = 0 then (if b.length < (rdLen b most).2.2 + (rdLen b most).2.1 then (40, [], 0) else (0, (b.drop (rdLen b most).2.2).take (rdLen b most).2.1, (rdLen b most).2.2 + (rdLen b most).2.1)) else ((rdLen b most).1, [], 0)
/-- k texts -/
def rdTexts (each : Int) : Nat → List UInt8 → Int × List (List UInt8) × Nat
  | 0, _ => (0, [], 0)
  | k + 1, b => if (rdText b each).1 = 0 then (if (rdTexts each k (b.drop (rdText b each).2.2)).1 = 0 then (0, (rdText b each).2.1 :: (rdTexts each k (b.drop (rdText b each).2.2)).2.1, (rdText b each).2.2 + (rdTexts each k (b.drop (rdText b each).2.2)).2.2) else ((rdTexts each k (b.drop (rdText b each).2.2)).1, [], 0)) else ((rdText b each).1, [], 0)
/-- a list -/
def rdList (b : List UInt8) (most each : Int) : Int × List (List UInt8) × Nat :=
  if (rdLen b most).1 = 0 then (if (rdTexts each (rdLen b most).2.1 (b.drop (rdLen b most).2.2)).1 = 0 then (0, (rdTexts each (rdLen b most).2.1 (b.drop (rdLen b most).2.2)).2.1, (rdLen b most).2.2 + (rdTexts each (rdLen b most).2.1 (b.drop (rdLen b most).2.2)).2.2) else ((rdTexts each (rdLen b most).2.1 (b.drop (rdLen b most).2.2)).1, [], 0)) else ((rdLen b most).1, [], 0)
theorem rdNum_cases (b : List UInt8) : ((rdNum b).1 ≠ 0 ∧ (rdNum b).2 = (0, 0)) ∨ ∃ x r, b = x :: r ∧ x.toNat ≤ 8 ∧ x.toNat ≤ r.length ∧ ¬ (0 < x.toNat ∧ r.head? = some 0) ∧ rdNum b = (0, num (r.take x.toNat), 1 + x.toNat) := by
  rcases b with _ | ⟨x, r⟩
  · exact .inl ⟨by decide, rfl⟩
  · by_cases h1 : 8 < x.toNat
    · exact .inl (by simp only [rdNum, if_pos h1]; simp)
    · by_cases h2 : r.length < x.toNat
      · exact .inl (by simp only [rdNum, if_neg h1, if_pos h2]; simp)
      · by_cases h3 : 0 < x.toNat ∧ r.head? = some 0
        · exact .inl (by simp only [rdNum, if_neg h1, if_neg h2, if_pos h3]; simp)
        · exact .inr ⟨x, r, rfl, by omega, by omega, h3, by simp only [rdNum, if_neg h1, if_neg h2, if_neg h3]⟩
theorem rdNum_lt (b : List UInt8) : (rdNum b).2.1 < 18446744073709551616 := by
  rcases rdNum_cases b with ⟨_, h⟩ | ⟨x, r, rfl, h8, hl, _, h⟩
  · rw [h]; omega
  · rw [h]; exact num_lt' _ 8 (by rw [List.length_take]; omega)
theorem rdNum_size (b : List UInt8) : (rdNum b).2.2 ≤ b.length := by
  rcases rdNum_cases b with ⟨_, h⟩ | ⟨x, r, rfl, h8, hl, _, h⟩
  · rw [h]; omega
  · rw [h, List.length_cons]; simp only; omega
theorem rdNum_ok (b : List UInt8) : (rdNum b).1 = 0 ↔ (rdNum b).2.2 ≠ 0 := by
  rcases rdNum_cases b with ⟨h1, h⟩ | ⟨x, r, rfl, h8, hl, _, h⟩
  · rw [h]; simp [h1]
  · rw [h]; simp
theorem rdLen_max (b : List UInt8) : rdLen b 18446744073709551615 = rdNum b := by
  unfold rdLen
  have := rdNum_lt b
  split
  · rw [if_neg (by omega)]
  · rfl
theorem rdLen_cases (b : List UInt8) (most : Int) : ((rdLen b most).1 ≠ 0 ∧ (rdLen b most).2 = (0, 0)) ∨ ((rdNum b).1 = 0 ∧ rdLen b most = rdNum b ∧ ((rdNum b).2.1 : Int) ≤ most) := by
  unfold rdLen
  by_cases h : (rdNum b).1 = 0
  · rw [if_pos h]
    by_cases h2 : most < (rdNum b).2.1
    · rw [if_pos h2]; exact .inl ⟨by simp, rfl⟩
    · rw [if_neg h2]; exact .inr ⟨h, rfl, by omega⟩
  · rw [if_neg h]
    rcases rdNum_cases b with ⟨_, h'⟩ | ⟨x, r, rfl, _, _, _, h'⟩
    · exact .inl ⟨h, h'⟩
    · rw [h'] at h; exact absurd rfl h
theorem rdLen_lt (b : List UInt8) (most : Int) : (rdLen b most).2.1 < 18446744073709551616 := by
  rcases rdLen_cases b most with ⟨_, h⟩ | ⟨_, h, _⟩
  · rw [h]; simp
  · rw [h]; exact rdNum_lt b
theorem rdLen_size (b : List UInt8) (most : Int) : (rdLen b most).2.2 ≤ b.length := by
  rcases rdLen_cases b most with ⟨_, h⟩ | ⟨_, h, _⟩
  · rw [h]; simp
  · rw [h]; exact rdNum_size b
theorem rdLen_ok (b : List UInt8) (most : Int) : (rdLen b most).1 = 0 ↔ (rdLen b most).2.2 ≠ 0 := by
  rcases rdLen_cases b most with ⟨h1, h⟩ | ⟨_, h, _⟩
  · rw [h]; simp [h1]
  · rw [h]; exact rdNum_ok b
theorem rdText_cases (b : List UInt8) (most : Int) : ((rdText b most).1 ≠ 0 ∧ (rdText b most).2 = ([], 0)) ∨ ((rdLen b most).1 = 0 ∧ (rdLen b most).2.2 + (rdLen b most).2.1 ≤ b.length ∧ rdText b most = (0, (b.drop (rdLen b most).2.2).take (rdLen b most).2.1, (rdLen b most).2.2 + (rdLen b most).2.1)) := by
  unfold rdText
  by_cases h : (rdLen b most).1 = 0
  · rw [if_pos h]
    by_cases h2 : b.length < (rdLen b most).2.2 + (rdLen b most).2.1
    · rw [if_pos h2]; exact .inl ⟨by simp, rfl⟩
    · rw [if_neg h2]; exact .inr ⟨h, by omega, rfl⟩
  · rw [if_neg h]; exact .inl ⟨h, rfl⟩
theorem rdText_size (b : List UInt8) (most : Int) : (rdText b most).2.2 ≤ b.length := by
  rcases rdText_cases b most with ⟨_, h⟩ | ⟨_, h, e⟩
  · rw [h]; simp
  · rw [e]; exact h
theorem rdText_ok (b : List UInt8) (most : Int) : (rdText b most).1 = 0 ↔ (rdText b most).2.2 ≠ 0 := by
  rcases rdText_cases b most with ⟨h1, h⟩ | ⟨h0, h, e⟩
  · rw [h]; simp [h1]
  · rw [e]
    have := (rdLen_ok b most).1 h0
    simp; omega
theorem rdText_len (b : List UInt8) (most : Int) : (rdText b most).2.1.length ≤ b.length := by
  rcases rdText_cases b most with ⟨_, h⟩ | ⟨_, h, e⟩
  · rw [h]; simp
  · rw [e, List.length_take, List.length_drop]; omega
/-- what is laid before -/
def pre (acc : List (List UInt8)) (s : Nat) (r : Int × List (List UInt8) × Nat) : Int × List (List UInt8) × Nat := if r.1 = 0 then (0, acc ++ r.2.1, s + r.2.2) else (r.1, [], 0)
theorem rdTexts_err (each : Int) : ∀ k b, (rdTexts each k b).1 ≠ 0 → (rdTexts each k b).2 = ([], 0)
  | 0, _, h => absurd rfl h
  | k + 1, b, h => by
    unfold rdTexts at h ⊢
    split
    · rename_i h1
      rw [if_pos h1] at h
      split
      · rename_i h2
        rw [if_pos h2] at h
        exact absurd rfl h
      · rfl
    · rfl
theorem pre_nil (each : Int) (k : Nat) (b : List UInt8) : pre [] 0 (rdTexts each k b) = rdTexts each k b := by
  unfold pre
  split
  · rename_i h; simp [← h]
  · rename_i h
    rw [← rdTexts_err each k b h]
theorem pre_step_ok (each : Int) (acc : List (List UInt8)) (s k : Nat) (b : List UInt8) (h : (rdText b each).1 = 0) :
    pre acc s (rdTexts each (k + 1) b) = pre (acc ++ [(rdText b each).2.1]) (s + (rdText b each).2.2) (rdTexts each k (b.drop (rdText b each).2.2)) := by
  unfold pre
  rw [rdTexts, if_pos h]
  by_cases h2 : (rdTexts each k (b.drop (rdText b each).2.2)).1 = 0
  · rw [if_pos h2, if_pos h2, if_pos rfl]
    simp [Nat.add_assoc]
  · rw [if_neg h2, if_neg h2, if_neg h2]
theorem pre_step_no (each : Int) (acc : List (List UInt8)) (s k : Nat) (b : List UInt8) (h : (rdText b each).1 ≠ 0) :
    pre acc s (rdTexts each (k + 1) b) = ((rdText b each).1, [], 0) := by
  unfold pre
  rw [rdTexts, if_neg h, if_neg h]
theorem pre_zero (each : Int) (acc : List (List UInt8)) (s : Nat) (b : List UInt8) : pre acc s (rdTexts each 0 b) = (0, acc, s) := by
  unfold pre
  rw [rdTexts, if_pos rfl]
  simp
theorem rdTexts_size (each : Int) : ∀ k b, (rdTexts each k b).2.2 ≤ b.length
  | 0, b => by simp [rdTexts]
  | k + 1, b => by
    have h1 := rdText_size b each
    have h2 := rdTexts_size each k (b.drop (rdText b each).2.2)
    rw [List.length_drop] at h2
    unfold rdTexts
    split
    · split
      · simp only; omega
      · simp
    · simp
theorem rdTexts_count (each : Int) : ∀ k b, (rdTexts each k b).1 = 0 → (rdTexts each k b).2.1.length = k ∧ ∀ t ∈ (rdTexts each k b).2.1, t.length ≤ b.length
  | 0, b, _ => by simp [rdTexts]
  | k + 1, b, h => by
    have hl := rdText_len b each
    unfold rdTexts at h ⊢
    split
    · rename_i h1
      rw [if_pos h1] at h
      split
      · rename_i h2
        obtain ⟨i1, i2⟩ := rdTexts_count each k _ h2
        refine ⟨by simp only [List.length_cons, i1], fun t ht => ?_⟩
        rcases List.mem_cons.1 ht with rfl | ht
        · exact hl
        · have := i2 t ht
          rw [List.length_drop] at this
          omega
      · rename_i h2
        rw [if_neg h2] at h
        exact absurd h h2
    · rename_i h1
      rw [if_neg h1] at h
      exact absurd h h1
theorem rdList_cases (b : List UInt8) (most each : Int) : ((rdList b most each).1 ≠ 0 ∧ (rdList b most each).2 = ([], 0)) ∨ ((rdLen b most).1 = 0 ∧ (rdTexts each (rdLen b most).2.1 (b.drop (rdLen b most).2.2)).1 = 0 ∧ rdList b most each = (0, (rdTexts each (rdLen b most).2.1 (b.drop (rdLen b most).2.2)).2.1, (rdLen b most).2.2 + (rdTexts each (rdLen b most).2.1 (b.drop (rdLen b most).2.2)).2.2)) := by
  unfold rdList
  by_cases h : (rdLen b most).1 = 0
  · rw [if_pos h]
    by_cases h2 : (rdTexts each (rdLen b most).2.1 (b.drop (rdLen b most).2.2)).1 = 0
    · rw [if_pos h2]; exact .inr ⟨h, h2, rfl⟩
    · rw [if_neg h2]; exact .inl ⟨h2, rfl⟩
  · rw [if_neg h]; exact .inl ⟨h, rfl⟩
theorem rdList_size (b : List UInt8) (most each : Int) : (rdList b most each).2.2 ≤ b.length := by
  rcases rdList_cases b most each with ⟨_, h⟩ | ⟨_, _, e⟩
  · rw [h]; simp
  · rw [e]
    have h1 := rdLen_size b most
    have h2 := rdTexts_size each (rdLen b most).2.1 (b.drop (rdLen b most).2.2)
    rw [List.length_drop] at h2
    simp only; omega
/-- as the loop over the texts meets it -/
theorem rdList_pre (b : List UInt8) (most each : Int) (h : (rdLen b most).1 = 0) : rdList b most each = pre [] (rdLen b most).2.2 (rdTexts each (rdLen b most).2.1 (b.drop (rdLen b most).2.2)) := by
  unfold rdList pre
  rw [if_pos h]
  split
  · simp
  · rfl
theorem rdList_no (b : List UInt8) (most each : Int) (h : (rdLen b most).1 ≠ 0) : rdList b most each = ((rdLen b most).1, [], 0) := by
  unfold rdList; rw [if_neg h]
/- there and back -/
theorem bytesOf_head (N : Nat) (h : N ≠ 0) : (bytesOf N (wide N)).head? ≠ some 0 := by
  have h1 := wide_ge N h
  have h2 := wide_lt N
  rw [wide_pos h] at h1 h2 ⊢
  rw [Nat.add_sub_cancel] at h1
  rw [bytesOf_succ, List.head?_cons]
  intro e
  injection e with e
  have e2 := congrArg UInt8.toNat e
  rw [UInt8.toNat_ofNat'] at e2
  have hp : 0 < 256 ^ wide (N / 256) := Nat.pow_pos (by decide)
  have h3 : N / 256 ^ wide (N / 256) < 256 := by
    rw [Nat.div_lt_iff_lt_mul hp]; rw [Nat.pow_succ, Nat.mul_comm] at h2; exact h2
  have h4 : 1 ≤ N / 256 ^ wide (N / 256) := by rw [Nat.le_div_iff_mul_le hp]; omega
  simp at e2
  omega
theorem wide_byte {N : Nat} (h : N < 18446744073709551616) : (UInt8.ofNat (wide N)).toNat = wide N := by
  rw [UInt8.toNat_ofNat']; have := wide8 h; exact Nat.mod_eq_of_lt (by omega)
theorem rdNum_back (N : Nat) (h : N < 18446744073709551616) (r : List UInt8) : rdNum (numB N ++ r) = (0, N, wide N + 1) := by
  have h8 := wide8 h
  unfold numB
  rw [List.cons_append, rdNum, wide_byte h, if_neg (by omega), if_neg (by rw [List.length_append, bytesOf_length]; omega), if_neg, List.take_append_of_le_length (by rw [bytesOf_length]; omega), List.take_of_length_le (by rw [bytesOf_length]; omega), num_bytesOf, Nat.mod_eq_of_lt (wide_lt N), Nat.add_comm]
  rintro ⟨h1, h2⟩
  have h0 : N ≠ 0 := by rintro rfl; rw [wide_zero] at h1; omega
  refine bytesOf_head N h0 ?_
  rw [← h2]
  cases hq : bytesOf N (wide N) with
  | nil => have := bytesOf_length N (wide N); rw [hq] at this; simp at this; omega
  | cons a t => rfl
theorem rdText_back (t r : List UInt8) (most : Int) (h : (t.length : Int) ≤ most) (hl : t.length < 18446744073709551616) : rdText (textB t ++ r) most = (0, t, (textB t).length) := by
  have e : rdLen (textB t ++ r) most = (0, t.length, wide t.length + 1) := by
    unfold rdLen textB
    rw [List.append_assoc, rdNum_back _ hl, if_pos rfl, if_neg (by simp only; omega)]
  unfold rdText
  rw [e, if_pos rfl, if_neg (by simp only [textB, List.length_append, numB_length]; omega)]
  simp only [textB, List.append_assoc, List.length_append, numB_length, Prod.mk.injEq, true_and, and_true]
  rw [← numB_length, List.drop_left', List.take_left']
  · rfl
  · rfl
theorem rdTexts_back (each : Int) : ∀ (L : List (List UInt8)) (r : List UInt8), (∀ t ∈ L, (t.length : Int) ≤ each ∧ t.length < 18446744073709551616) → rdTexts each L.length (textsB L ++ r) = (0, L, (textsB L).length)
  | [], r, _ => rfl
  | t :: L, r, h => by
    have h1 := h t (by simp)
    rw [List.length_cons, textsB_cons, List.append_assoc, rdTexts, rdText_back t _ each h1.1 h1.2, if_pos rfl, List.drop_left' rfl, rdTexts_back each L r (fun t ht => h t (by simp [ht])), if_pos rfl, List.length_append]
theorem rdList_back (L : List (List UInt8)) (r : List UInt8) (most each : Int) (h : ∀ t ∈ L, (t.length : Int) ≤ each ∧ t.length < 18446744073709551616) (hL : (L.length : Int) ≤ most) (hl : L.length < 18446744073709551616) : rdList (listB L ++ r) most each = (0, L, (listB L).length) := by
  have e : rdLen (listB L ++ r) most = (0, L.length, wide L.length + 1) := by
    unfold rdLen listB
    rw [List.append_assoc, rdNum_back _ hl, if_pos rfl, if_neg (by simp only; omega)]
  have e2 : (listB L ++ r).drop (wide L.length + 1) = textsB L ++ r := by
    unfold listB; rw [List.append_assoc, ← numB_length, List.drop_left' rfl]
  unfold rdList
  rw [e, if_pos rfl, e2, rdTexts_back each L r h, if_pos rfl]
  simp [listB, numB_length]
/- what is read has just the bytes that were gone through -/
theorem num_head_ge (x : UInt8) (r : List UInt8) (h : x ≠ 0) : 256 ^ r.length ≤ num (x :: r) := by
  rw [num_cons]
  have : 1 ≤ x.toNat := by
    rcases Nat.eq_zero_or_pos x.toNat with h0 | h0
    · exact absurd (UInt8.toNat_inj.1 (by rw [h0]; rfl)) h
    · exact h0
  have : 256 ^ r.length ≤ x.toNat * 256 ^ r.length := Nat.le_mul_of_pos_left _ this
  omega
theorem numB_one (b : List UInt8) (h : (rdNum b).1 = 0) : numB (rdNum b).2.1 = b.take (rdNum b).2.2 := by
  rcases rdNum_cases b with ⟨h1, _⟩ | ⟨x, r, rfl, h8, hl, h3, e⟩
  · exact absurd h h1
  · rw [e]
    simp only
    rw [Nat.add_comm, List.take_succ_cons]
    have hw : wide (num (r.take x.toNat)) = x.toNat := by
      rcases Nat.eq_zero_or_pos x.toNat with h0 | h0
      · rw [h0, List.take_zero]; show wide 0 = 0; exact wide_zero
      · rcases r with _ | ⟨y, r⟩
        · simp at hl; omega
        · have hy : y ≠ 0 := fun hy => h3 ⟨h0, by rw [hy]; rfl⟩
          obtain ⟨k, hk⟩ : ∃ k, x.toNat = k + 1 := ⟨x.toNat - 1, by omega⟩
          rw [hk, List.take_succ_cons]
          have hlk : (r.take k).length = k := by rw [List.length_take]; simp at hl; omega
          refine wide_eq ?_ ?_
          · have := num_head_ge y (r.take k) hy
            rwa [hlk] at this
          · have := num_lt (y :: r.take k)
            rwa [List.length_cons, hlk] at this
    unfold numB
    rw [hw, UInt8.ofNat_toNat]
    congr 1
    have hlen : (r.take x.toNat).length = x.toNat := by rw [List.length_take]; omega
    have := bytesOf_num (r.take x.toNat)
    rwa [hlen] at this
theorem take_cat (b : List UInt8) (s k : Nat) : b.take s ++ (b.drop s).take k = b.take (s + k) := by rw [List.take_add]
theorem textB_one (b : List UInt8) (most : Int) (h : (rdText b most).1 = 0) : textB (rdText b most).2.1 = b.take (rdText b most).2.2 := by
  rcases rdText_cases b most with ⟨h1, _⟩ | ⟨h0, hl, e⟩
  · exact absurd h h1
  · rw [e]
    simp only
    rcases rdLen_cases b most with ⟨h1, _⟩ | ⟨h1, e1, _⟩
    · exact absurd h0 h1
    · rw [e1] at hl ⊢
      unfold textB
      have hlen : ((b.drop (rdNum b).2.2).take (rdNum b).2.1).length = (rdNum b).2.1 := by rw [List.length_take, List.length_drop]; omega
      rw [hlen, numB_one b h1, take_cat]
theorem textsB_one (each : Int) : ∀ k b, (rdTexts each k b).1 = 0 → textsB (rdTexts each k b).2.1 = b.take (rdTexts each k b).2.2
  | 0, b, _ => by simp [rdTexts, textsB]
  | k + 1, b, h => by
    unfold rdTexts at h ⊢
    split
    · rename_i h1
      rw [if_pos h1] at h
      split
      · rename_i h2
        simp only
        rw [textsB_cons, textB_one b each h1, textsB_one each k _ h2, take_cat]
      · rename_i h2
        rw [if_neg h2] at h
        exact absurd h h2
    · rename_i h1
      rw [if_neg h1] at h
      exact absurd h h1
theorem listB_one (b : List UInt8) (most each : Int) (h : (rdList b most each).1 = 0) : listB (rdList b most each).2.1 = b.take (rdList b most each).2.2 := by
  rcases rdList_cases b most each with ⟨h1, _⟩ | ⟨h0, h2, e⟩
  · exact absurd h h1
  · rw [e]
    simp only
    rcases rdLen_cases b most with ⟨h1, _⟩ | ⟨h1, e1, _⟩
    · exact absurd h0 h1
    · rw [e1] at h2 ⊢
      unfold listB
      rw [(rdTexts_count each _ _ h2).1, numB_one b h1, textsB_one each _ _ h2, take_cat]
/- of no beginning one is read -/
theorem rdNum_cut (N k : Nat) (h : N < 18446744073709551616) (r : List UInt8) (hk : k < (numB N).length) : rdNum ((numB N ++ r).take k) = (40, 0, 0) := by
  rw [List.take_append_of_le_length (by omega)]
  rw [numB_length] at hk
  rcases k with _ | k
  · simp [rdNum]
  · unfold numB
    have h8 := wide8 h
    rw [List.take_succ_cons, rdNum, wide_byte h, if_neg (by omega), if_pos (by rw [List.length_take, bytesOf_length]; omega)]
theorem rdText_cut (t r : List UInt8) (most : Int) (h : (t.length : Int) ≤ most) (hl : t.length < 18446744073709551616) (k : Nat) (hk : k < (textB t).length) : rdText ((textB t ++ r).take k) most = (40, [], 0) := by
  unfold textB at hk ⊢
  rw [List.append_assoc]
  by_cases h1 : k < (numB t.length).length
  · unfold rdText rdLen
    rw [rdNum_cut _ k hl _ h1]; simp
  · have e : rdLen ((numB t.length ++ (t ++ r)).take k) most = (0, t.length, wide t.length + 1) := by
      unfold rdLen
      rw [List.take_append, List.take_of_length_le (by omega), rdNum_back _ hl, if_pos rfl, if_neg (by simp only; omega)]
    unfold rdText
    rw [e, if_pos rfl, if_pos]
    rw [List.length_append, numB_length] at hk
    simp only [List.length_take, List.length_append, numB_length]
    omega
theorem rdTexts_cut (each : Int) : ∀ (L : List (List UInt8)) (k : Nat), (∀ t ∈ L, (t.length : Int) ≤ each ∧ t.length < 18446744073709551616) → k < (textsB L).length → rdTexts each L.length ((textsB L).take k) = (40, [], 0)
  | [], k, _, hk => by simp [textsB] at hk
  | t :: L, k, h, hk => by
    have h1 := h t (by simp)
    rw [List.length_cons, textsB_cons, rdTexts]
    by_cases hkt : k < (textB t).length
    · rw [rdText_cut t _ each h1.1 h1.2 k hkt]; simp
    · have e : (textB t ++ textsB L).take k = textB t ++ (textsB L).take (k - (textB t).length) := by
        rw [List.take_append, List.take_of_length_le (by omega)]
      rw [textsB_cons, List.length_append] at hk
      rw [e, rdText_back t _ each h1.1 h1.2, if_pos rfl, List.drop_left' rfl, rdTexts_cut each L _ (fun t ht => h t (by simp [ht])) (by omega)]
      simp
theorem rdList_cut (L : List (List UInt8)) (most each : Int) (h : ∀ t ∈ L, (t.length : Int) ≤ each ∧ t.length < 18446744073709551616) (hL : (L.length : Int) ≤ most) (hl : L.length < 18446744073709551616) (k : Nat) (hk : k < (listB L).length) : rdList ((listB L).take k) most each = (40, [], 0) := by
  unfold listB at hk ⊢
  by_cases h1 : k < (numB L.length).length
  · unfold rdList rdLen
    rw [rdNum_cut _ k hl _ h1]; simp
  · have e : (numB L.length ++ textsB L).take k = numB L.length ++ (textsB L).take (k - (numB L.length).length) := by
      rw [List.take_append, List.take_of_length_le (by omega)]
    rw [List.length_append] at hk
    have e2 : rdLen (numB L.length ++ (textsB L).take (k - (numB L.length).length)) most = (0, L.length, wide L.length + 1) := by
      unfold rdLen
      rw [rdNum_back _ hl, if_pos rfl, if_neg (by simp only; omega)]
    unfold rdList
    rw [e, e2, if_pos rfl]
    simp only
    rw [← numB_length, List.drop_left' rfl, rdTexts_cut each L _ h (by omega)]
    simp
/-- how long they get -/
theorem textB_length (t : List UInt8) : (textB t).length = wide t.length + 1 + t.length := by rw [textB, List.length_append, numB_length]
theorem textsB_le (M : Nat) (hM : M < 18446744073709551616) : ∀ L : List (List UInt8), (∀ t ∈ L, t.length ≤ M) → (textsB L).length ≤ L.length * (9 + M)
  | [], _ => by simp [textsB]
  | t :: L, h => by
    have h1 := h t (by simp)
    have h2 := textsB_le M hM L (fun t ht => h t (by simp [ht]))
    have h8 := wide8 (N := t.length) (by omega)
    rw [textsB_cons, List.length_append, textB_length, List.length_cons, Nat.add_mul]
    omega
theorem textsB_take (L : List (List UInt8)) (k : Nat) (t : List UInt8) (h : L[k]? = some t) : textsB (L.take (k + 1)) = textsB (L.take k) ++ textB t := by rw [take_snoc h, textsB_snoc]
theorem num256 : numB 256 = [2, 1, 0] := by
  have : wide 256 = 2 := by rw [wide_pos (by decide), show 256 / 256 = 1 from rfl, wide_pos (by decide), show 1 / 256 = 0 from rfl, wide_zero]
  rw [numB, this]; rfl
end Go.Proofs.Ytjifahocfbbicaa
