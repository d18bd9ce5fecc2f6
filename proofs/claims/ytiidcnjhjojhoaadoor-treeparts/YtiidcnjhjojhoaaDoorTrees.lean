/-
  Trees of digests, over lists of bytes: the node above two; a level that is written over its own beginning; how many leaves a tree may have; the numbers' bits. Nothing of the program is named here. No conditions.
-/
import Derived.Test.YtiidcnjhjojhoaaDoorTree
import Derived.Test.YtiidcnjhjojhoaaDoorDigs
namespace Go.Proofs.YtiidcnjhjojhoaaDoor
open Go.RowKit
/-- the node above two -/
def abL (a b : List UInt8) : List UInt8 := sumL (3 :: (a ++ b))
theorem abL_length (a b : List UInt8) : (abL a b).length = 32 := sumL_length _
abbrev rootD (k : Nat) (L : List (List UInt8)) : List UInt8 := rootT abL [] k L
abbrev pathD (k : Nat) (L : List (List UInt8)) (i : Nat) : List (List UInt8) := pathT abL [] k L i
abbrev climbD (d : List UInt8) (i : Nat) (p : List (List UInt8)) : List UInt8 := climbT abL d i p
theorem Digs.getD {L : List (List UInt8)} (h : Digs L) {i : Nat} (hi : i < L.length) : (L.getD i []).length = 32 := by
  rw [List.getD_eq_getElem?_getD, List.getElem?_eq_getElem hi]
  exact h _ (List.getElem_mem hi)
theorem getD_some {L : List (List UInt8)} {i : Nat} (hi : i < L.length) : L[i]? = some (L.getD i []) := by
  rw [List.getD_eq_getElem?_getD, List.getElem?_eq_getElem hi]; rfl
theorem Digs.dropL {L : List (List UInt8)} (h : Digs L) (n : Nat) : Digs (L.drop n) := fun d hd => h d (List.mem_of_mem_drop hd)
theorem Digs.one {d : List UInt8} (h : d.length = 32) : Digs [d] := fun x hx => by simp at hx; subst hx; exact h
theorem levelT_digs : ∀ L : List (List UInt8), Digs (levelT abL L)
  | [] => Digs.nil
  | [_] => Digs.nil
  | a :: b :: r => fun d hd => by
    have hd' : d ∈ abL a b :: levelT abL r := hd
    rcases List.mem_cons.1 hd' with h | h
    · rw [h]; exact abL_length a b
    · exact levelT_digs r d h
theorem rootD_length : ∀ (k : Nat) (L : List (List UInt8)), Digs L → L.length = 2 ^ k → (rootD k L).length = 32
  | 0, L, h, hl => h.getD (by rw [hl]; decide)
  | _ + 1, _, _, _ => abL_length _ _
theorem pathD_digs : ∀ (k : Nat) (L : List (List UInt8)) (i : Nat), Digs L → L.length = 2 ^ k → Digs (pathD k L i)
  | 0, _, _, _, _ => Digs.nil
  | k + 1, L, i, h, hl => by
    have e : 2 ^ (k + 1) = 2 * 2 ^ k := by rw [Nat.pow_succ]; omega
    have h1 : (L.take (2 ^ k)).length = 2 ^ k := by rw [List.length_take]; omega
    have h2 : (L.drop (2 ^ k)).length = 2 ^ k := by rw [List.length_drop]; omega
    show Digs (pathT abL [] (k + 1) L i)
    rw [pathT]
    split
    · exact (pathD_digs k _ i (h.take _) h1).app (Digs.one (rootD_length k _ (h.dropL _) h2))
    · exact (pathD_digs k _ _ (h.dropL _) h2).app (Digs.one (rootD_length k _ (h.take _) h1))
theorem climbD_length : ∀ (p : List (List UInt8)) (d : List UInt8) (i : Nat), d.length = 32 → (climbD d i p).length = 32
  | [], _, _, h => h
  | x :: p, d, i, _ => by
    show (climbT abL (if i % 2 = 0 then abL d x else abL x d) (i / 2) p).length = 32
    refine climbD_length p _ (i / 2) ?_
    split <;> exact abL_length _ _
/-- a digest of a path further up -/
theorem climbD_step (d : List UInt8) (i : Nat) (p : List (List UInt8)) (k : Nat) (hk : k < p.length) :
    climbD d i (p.take (k + 1)) = if (i / 2 ^ k) % 2 = 0 then abL (climbD d i (p.take k)) (p.getD k []) else abL (p.getD k []) (climbD d i (p.take k)) := by
  have e : p.take (k + 1) = p.take k ++ [p.getD k []] := by
    rw [List.take_add_one, getD_some hk]; rfl
  have hl : (p.take k).length = k := by rw [List.length_take]; omega
  show climbT abL d i (p.take (k + 1)) = _
  rw [e, climb_app, hl]
  rfl
/-- the bytes of a level of which the first m nodes above stand at its beginning -/
def lvR (L : List (List UInt8)) (X : List UInt8) (m : Nat) : List UInt8 := flat ((levelT abL L).take m) ++ X.drop (32 * m)
theorem lvR_zero (L : List (List UInt8)) (X : List UInt8) : lvR L X 0 = X := by simp [lvR, flat]
theorem lvF_length (L : List (List UInt8)) (h m : Nat) (hl : L.length = 2 * h) (hm : m ≤ h) : (flat ((levelT abL L).take m)).length = 32 * m := by
  rw [flat_length ((levelT_digs L).take m), List.length_take, levelT_length abL h L hl]; congr 1; omega
theorem lvR_length (L : List (List UInt8)) (X : List UInt8) (h m : Nat) (hl : L.length = 2 * h) (hm : m ≤ h) (hX : 64 * h ≤ X.length) : (lvR L X m).length = X.length := by
  unfold lvR; rw [List.length_append, lvF_length L h m hl hm, List.length_drop]; omega
theorem lvR_get {L : List (List UInt8)} (hD : Digs L) (R : List UInt8) (h m j : Nat) (hl : L.length = 2 * h) (hm : m ≤ h) (h1 : m ≤ j) (h2 : j < 2 * h) : ((lvR L (flat L ++ R) m).drop (32 * j)).take 32 = L.getD j [] := by
  have hf := lvF_length L h m hl hm
  have hfl := flat_length hD
  unfold lvR
  rw [List.drop_append, List.drop_eq_nil_of_le (by omega), List.nil_append, hf, List.drop_drop, show 32 * m + (32 * j - 32 * m) = 32 * j by omega, List.drop_append_of_le_length (by omega), List.take_append_of_le_length (by rw [List.length_drop]; omega)]
  exact flat_get hD (getD_some (by omega))
theorem lvR_step {L : List (List UInt8)} (X : List UInt8) (h m : Nat) (hl : L.length = 2 * h) (hm : m < h) :
    spl (bcells (lvR L X m)) (32 * m) (abL (L.getD (2 * m) []) (L.getD (2 * m + 1) [])) = bcells (lvR L X (m + 1)) := by
  have hf := lvF_length L h m hl (by omega)
  have hlv := levelT_length abL h L hl
  have hg := levelT_get abL [] h L hl m hm
  have ht : (levelT abL L).take (m + 1) = (levelT abL L).take m ++ [abL (L.getD (2 * m) []) (L.getD (2 * m + 1) [])] := by
    rw [List.take_add_one, getD_some (by omega), hg]; rfl
  rw [spl_bcells]
  congr 1
  unfold lvR
  rw [ht, flat_app, show flat [abL (L.getD (2 * m) []) (L.getD (2 * m + 1) [])] = abL (L.getD (2 * m) []) (L.getD (2 * m + 1) []) by simp [flat]]
  have hab := abL_length (L.getD (2 * m) []) (L.getD (2 * m + 1) [])
  generalize abL (L.getD (2 * m) []) (L.getD (2 * m + 1) []) = d at *
  generalize flat ((levelT abL L).take m) = F at *
  unfold splice
  rw [List.take_append_of_le_length (by omega), List.take_of_length_le (by omega), List.drop_append, List.drop_eq_nil_of_le (by omega), List.nil_append, List.drop_drop, List.append_assoc, hab, hf, show 32 * m + (32 * m + 32 - 32 * m) = 32 * (m + 1) by omega]
theorem lvR_all (L : List (List UInt8)) (X : List UInt8) (h : Nat) (hl : L.length = 2 * h) : lvR L X h = flat (levelT abL L) ++ X.drop (32 * h) := by
  unfold lvR; rw [List.take_of_length_le (by rw [levelT_length abL h L hl]; exact Nat.le_refl _)]
/-- may a tree have so many leaves? -/
def okT (n : Int) : Bool := (List.range 11).any fun k => n == ((2 ^ k : Nat) : Int)
theorem okT_yes {n : Nat} (h : okT (n : Int) = true) : ∃ k, k ≤ 10 ∧ n = 2 ^ k := by
  unfold okT at h
  obtain ⟨k, hk, he⟩ := List.any_eq_true.1 h
  exact ⟨k, by have := List.mem_range.1 hk; omega, by have e := beq_iff_eq.1 he; omega⟩
theorem okT_of {k : Nat} (h : k ≤ 10) : okT ((2 ^ k : Nat) : Int) = true := by
  unfold okT
  exact List.any_eq_true.2 ⟨k, List.mem_range.2 (by omega), by simp⟩
theorem okT_ne {n : Int} (h : okT n = false) {k : Nat} (hk : k ≤ 10) : n ≠ ((2 ^ k : Nat) : Int) := fun e => by
  have := okT_of hk
  rw [← e, h] at this
  cases this
theorem okT_bits : ∀ n : Nat, n < 1025 → 0 < n → (bits .and .i64 (n : Int) ((n : Int) - 1) == 0) = okT (n : Int) := by decide +kernel
theorem two_pow_le {k : Nat} (h : k ≤ 10) : 2 ^ k ≤ 1024 := Nat.le_trans (Nat.pow_le_pow_right (by decide) h) (by decide)
theorem beside_bits : ∀ i : Nat, i < 1024 → bits .xor .i64 (i : Int) 1 = (besideN i : Int) := by decide +kernel
theorem odd_bits : ∀ i : Nat, i < 1024 → bits .and .i64 (i : Int) 1 = ((i % 2 : Nat) : Int) := by decide +kernel
theorem besideN_lt {i k : Nat} (h : i < 2 ^ (k + 1)) : besideN i < 2 ^ (k + 1) := by
  have e : 2 ^ (k + 1) = 2 * 2 ^ k := by rw [Nat.pow_succ]; omega
  unfold besideN; split <;> omega
end Go.Proofs.YtiidcnjhjojhoaaDoor
