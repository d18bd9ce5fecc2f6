/-
  Trees, over lists of whatever (ab: the node above two): a root by halves, and level by level; a leaf's path by halves, and level by level; climbing. That they agree; that up its path each leaf leads to the root; that a path may be climbed in parts. Nothing of the program is named here. No conditions.
-/
namespace Go.Proofs.YtiidcnjhjojhoaaDoor
section
variable {α : Type} (ab : α → α → α) (z : α)
/-- the level above: each two that stand side by side -/
def levelT : List α → List α
  | a :: b :: r => ab a b :: levelT r
  | _ => []
theorem levelT_length : ∀ (m : Nat) (L : List α), L.length = 2 * m → (levelT ab L).length = m
  | 0, [], _ => rfl
  | 0, _ :: _, h => by simp at h
  | m + 1, [], h => by simp at h
  | m + 1, [_], h => by simp at h; omega
  | m + 1, a :: b :: r, h => by
    have hr : r.length = 2 * m := by simp at h; omega
    show (levelT ab r).length + 1 = m + 1
    rw [levelT_length m r hr]
theorem levelT_get : ∀ (m : Nat) (L : List α), L.length = 2 * m → ∀ i, i < m → (levelT ab L).getD i z = ab (L.getD (2 * i) z) (L.getD (2 * i + 1) z)
  | 0, _, _, i, h => by omega
  | m + 1, [], h, _, _ => by simp at h
  | m + 1, [_], h, _, _ => by simp at h; omega
  | m + 1, a :: b :: r, h, 0, _ => rfl
  | m + 1, a :: b :: r, h, i + 1, hi => by
    have hr : r.length = 2 * m := by simp at h; omega
    have := levelT_get m r hr i (by omega)
    show (levelT ab r).getD i z = _
    rw [this, show 2 * (i + 1) = 2 * i + 1 + 1 by omega, show 2 * i + 1 + 1 + 1 = (2 * i + 1) + 1 + 1 by omega]
    rfl
theorem levelT_take : ∀ (m : Nat) (L : List α), levelT ab (L.take (2 * m)) = (levelT ab L).take m
  | 0, L => by simp [levelT]
  | m + 1, [] => by simp [levelT]
  | m + 1, [a] => by
    rw [show 2 * (m + 1) = 2 * m + 1 + 1 by omega]
    simp [levelT]
  | m + 1, a :: b :: r => by
    rw [show 2 * (m + 1) = 2 * m + 1 + 1 by omega]
    show ab a b :: levelT ab (r.take (2 * m)) = ab a b :: (levelT ab r).take m
    rw [levelT_take m r]
theorem levelT_drop : ∀ (m : Nat) (L : List α), levelT ab (L.drop (2 * m)) = (levelT ab L).drop m
  | 0, L => by simp
  | m + 1, [] => by simp [levelT]
  | m + 1, [a] => by
    rw [show 2 * (m + 1) = 2 * m + 1 + 1 by omega]
    simp [levelT]
  | m + 1, a :: b :: r => by
    rw [show 2 * (m + 1) = 2 * m + 1 + 1 by omega]
    show levelT ab (r.drop (2 * m)) = (levelT ab r).drop m
    rw [levelT_drop m r]
/-- the root of 2^k leaves, by halves -/
def rootT : Nat → List α → α
  | 0, L => L.getD 0 z
  | k + 1, L => ab (rootT k (L.take (2 ^ k))) (rootT k (L.drop (2 ^ k)))
/-- the same, a level at a time -/
theorem rootT_level : ∀ (k : Nat) (L : List α), L.length = 2 ^ (k + 1) → rootT ab z (k + 1) L = rootT ab z k (levelT ab L)
  | 0, L, h => by
    match L, h with
    | [a, b], _ => rfl
  | k + 1, L, h => by
    have e : 2 ^ (k + 1) = 2 * 2 ^ k := by rw [Nat.pow_succ]; omega
    have h1 : (L.take (2 ^ (k + 1))).length = 2 ^ (k + 1) := by
      rw [List.length_take, h, Nat.pow_succ 2 (k + 1)]; omega
    have h2 : (L.drop (2 ^ (k + 1))).length = 2 ^ (k + 1) := by
      rw [List.length_drop, h, Nat.pow_succ 2 (k + 1)]; omega
    rw [rootT, rootT_level k _ h1, rootT_level k _ h2]
    show ab (rootT ab z k (levelT ab (L.take (2 ^ (k + 1))))) (rootT ab z k (levelT ab (L.drop (2 ^ (k + 1))))) = ab (rootT ab z k ((levelT ab L).take (2 ^ k))) (rootT ab z k ((levelT ab L).drop (2 ^ k)))
    rw [e, levelT_take, levelT_drop]
/-- a leaf's path, by halves -/
def pathT : Nat → List α → Nat → List α
  | 0, _, _ => []
  | k + 1, L, i => if i < 2 ^ k then pathT k (L.take (2 ^ k)) i ++ [rootT ab z k (L.drop (2 ^ k))] else pathT k (L.drop (2 ^ k)) (i - 2 ^ k) ++ [rootT ab z k (L.take (2 ^ k))]
theorem pathT_length : ∀ (k : Nat) (L : List α) (i : Nat), (pathT ab z k L i).length = k
  | 0, _, _ => rfl
  | k + 1, L, i => by
    rw [pathT]
    split
    · rw [List.length_append, pathT_length k]; rfl
    · rw [List.length_append, pathT_length k]; rfl
/-- the one beside -/
def besideN (i : Nat) : Nat := if i % 2 = 0 then i + 1 else i - 1
/-- the same, a level at a time -/
theorem pathT_level : ∀ (k : Nat) (L : List α) (i : Nat), L.length = 2 ^ (k + 1) → i < 2 ^ (k + 1) → pathT ab z (k + 1) L i = L.getD (besideN i) z :: pathT ab z k (levelT ab L) (i / 2)
  | 0, L, i, h, hi => by
    match L, h with
    | [a, b], _ =>
      match i, hi with
      | 0, _ => rfl
      | 1, _ => rfl
  | k + 1, L, i, h, hi => by
    have e : 2 ^ (k + 1) = 2 * 2 ^ k := by rw [Nat.pow_succ]; omega
    have e2 : 2 ^ (k + 2) = 2 * 2 ^ (k + 1) := by rw [Nat.pow_succ 2 (k + 1)]; omega
    have h1 : (L.take (2 ^ (k + 1))).length = 2 ^ (k + 1) := by rw [List.length_take, h]; omega
    have h2 : (L.drop (2 ^ (k + 1))).length = 2 ^ (k + 1) := by rw [List.length_drop, h]; omega
    have hdiv : i / 2 < 2 ^ k ↔ i < 2 ^ (k + 1) := by omega
    rw [pathT]
    by_cases hlt : i < 2 ^ (k + 1)
    · have hb : besideN i < 2 ^ (k + 1) := by unfold besideN; split <;> omega
      rw [if_pos hlt, pathT_level k _ i h1 hlt, rootT_level ab z k _ h2]
      have hg : (L.take (2 ^ (k + 1))).getD (besideN i) z = L.getD (besideN i) z := by
        rw [List.getD_eq_getElem?_getD, List.getD_eq_getElem?_getD, List.getElem?_take, if_pos hb]
      rw [hg, List.cons_append]
      congr 1
      show _ = (if i / 2 < 2 ^ k then _ else _)
      rw [if_pos (hdiv.2 hlt), e, levelT_take, levelT_drop]
    · have hj : i - 2 ^ (k + 1) < 2 ^ (k + 1) := by omega
      have hb : besideN i = 2 ^ (k + 1) + besideN (i - 2 ^ (k + 1)) := by
        unfold besideN
        have : (i - 2 ^ (k + 1)) % 2 = i % 2 := by omega
        rw [this]
        split <;> omega
      rw [if_neg hlt, pathT_level k _ (i - 2 ^ (k + 1)) h2 hj, rootT_level ab z k _ h1]
      have hg : (L.drop (2 ^ (k + 1))).getD (besideN (i - 2 ^ (k + 1))) z = L.getD (besideN i) z := by
        rw [List.getD_eq_getElem?_getD, List.getD_eq_getElem?_getD, List.getElem?_drop, hb]
      rw [hg, List.cons_append]
      congr 1
      show _ = (if i / 2 < 2 ^ k then _ else _)
      rw [if_neg (fun q => hlt (hdiv.1 q)), show (i - 2 ^ (k + 1)) / 2 = i / 2 - 2 ^ k by omega, e, levelT_take, levelT_drop]
/-- up a path -/
def climbT : α → Nat → List α → α
  | d, _, [] => d
  | d, i, p :: r => climbT (if i % 2 = 0 then ab d p else ab p d) (i / 2) r
theorem climb_path : ∀ (k : Nat) (L : List α) (i : Nat), L.length = 2 ^ k → i < 2 ^ k → climbT ab (L.getD i z) i (pathT ab z k L i) = rootT ab z k L
  | 0, L, i, h, hi => by
    obtain rfl : i = 0 := by simp at hi; omega
    rfl
  | k + 1, L, i, h, hi => by
    have e : 2 ^ (k + 1) = 2 * 2 ^ k := by rw [Nat.pow_succ]; omega
    have hl := levelT_length ab (2 ^ k) L (by omega)
    rw [pathT_level ab z k L i h hi, rootT_level ab z k L h, climbT, ← climb_path k (levelT ab L) (i / 2) hl (by omega)]
    congr 1
    rw [levelT_get ab z (2 ^ k) L (by omega) (i / 2) (by omega)]
    unfold besideN
    by_cases h2 : i % 2 = 0
    · rw [if_pos h2, if_pos h2, show 2 * (i / 2) = i by omega]
    · rw [if_neg h2, if_neg h2, show 2 * (i / 2) = i - 1 by omega, show i - 1 + 1 = i by omega]
theorem climb_app : ∀ (p q : List α) (d : α) (i : Nat), climbT ab d i (p ++ q) = climbT ab (climbT ab d i p) (i / 2 ^ p.length) q
  | [], q, d, i => by simp [climbT]
  | x :: p, q, d, i => by
    rw [List.cons_append, climbT, climb_app p q, climbT, List.length_cons, Nat.pow_succ, Nat.mul_comm, Nat.div_div_eq_div_mul]
theorem climb_mod : ∀ (p : List α) (d : α) (i : Nat), climbT ab d (i % 2 ^ p.length) p = climbT ab d i p
  | [], d, i => by simp [climbT]
  | x :: p, d, i => by
    have h1 : i % 2 ^ (p.length + 1) % 2 = i % 2 := by
      rw [Nat.pow_succ, Nat.mul_comm, Nat.mod_mul_right_mod]
    have h2 : i % 2 ^ (p.length + 1) / 2 = i / 2 % 2 ^ p.length := by
      rw [Nat.pow_succ, Nat.mul_comm, Nat.mod_mul_right_div_self]
    rw [List.length_cons, climbT, climbT, h1, h2, climb_mod p]
end
end Go.Proofs.YtiidcnjhjojhoaaDoor
