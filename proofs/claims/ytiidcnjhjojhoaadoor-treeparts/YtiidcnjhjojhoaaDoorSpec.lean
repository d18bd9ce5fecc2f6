/-
  SHA-256 as plain mathematics over integers, word by word as the document says it. Nothing of the program is named here. No conditions.
-/
import Derived.Test.YtiidcnjhjojhoaaDoorPlain
import Derived.Test.YtiidcnjhjojhoaaDoorNum
import Derived.WalkKit
import Derived.WalkSpells
import Derived.OpenShut
namespace Go.Proofs.YtiidcnjhjojhoaaDoor
open Go.RowKit
def add32 (a b : Int) : Int := (a + b) % 4294967296
def chW (x y z : Int) : Int := bits .xor .u32 (bits .and .u32 x y) (bits .and .u32 (bits .xor .u32 IntKind.u32.max x) z)
def majW (x y z : Int) : Int := bits .xor .u32 (bits .xor .u32 (bits .and .u32 x y) (bits .and .u32 x z)) (bits .and .u32 y z)
def bS0 (x : Int) : Int := bits .xor .u32 (bits .xor .u32 (rotI x 2) (rotI x 13)) (rotI x 22)
def bS1 (x : Int) : Int := bits .xor .u32 (bits .xor .u32 (rotI x 6) (rotI x 11)) (rotI x 25)
def sS0 (x : Int) : Int := bits .xor .u32 (bits .xor .u32 (rotI x 7) (rotI x 18)) (x / 8)
def sS1 (x : Int) : Int := bits .xor .u32 (bits .xor .u32 (rotI x 17) (rotI x 19)) (x / 1024)
def kList : List Int := [1116352408, 1899447441, 3049323471, 3921009573, 961987163, 1508970993, 2453635748, 2870763221, 3624381080, 310598401, 607225278, 1426881987, 1925078388, 2162078206, 2614888103, 3248222580, 3835390401, 4022224774, 264347078, 604807628, 770255983, 1249150122, 1555081692, 1996064986, 2554220882, 2821834349, 2952996808, 3210313671, 3336571891, 3584528711, 113926993, 338241895, 666307205, 773529912, 1294757372, 1396182291, 1695183700, 1986661051, 2177026350, 2456956037, 2730485921, 2820302411, 3259730800, 3345764771, 3516065817, 3600352804, 4094571909, 275423344, 430227734, 506948616, 659060556, 883997877, 958139571, 1322822218, 1537002063, 1747873779, 1955562222, 2024104815, 2227730452, 2361852424, 2428436474, 2756734187, 3204031479, 3329325298]
def kAt (t : Nat) : Int := kList.getD t 0
/-- a word fits -/
def W32 (x : Int) : Prop := 0 ≤ x ∧ x < 4294967296
theorem bits_W32 (op : BinOp) (a b : Int) : W32 (bits op .u32 a b) := by
  have := bounds_u32 (wf_bits op .u32 a b)
  unfold W32; omega
theorem add32_W32 (a b : Int) : W32 (add32 a b) := by unfold add32 W32; omega
theorem rotI_W32 (x n : Int) (h : W32 x) : W32 (rotI x n) := rotI_lt x n h.1 h.2
theorem kAt_W32 (t : Nat) : W32 (kAt t) := by
  unfold kAt
  by_cases h : t < 64
  · have : ∀ t : Fin 64, 0 ≤ kList.getD t.val 0 ∧ kList.getD t.val 0 < 4294967296 := by decide
    exact this ⟨t, h⟩
  · rw [List.getD_eq_getElem?_getD, List.getElem?_eq_none (by have : kList.length = 64 := rfl; omega)]; exact ⟨by decide, by decide⟩

/-- eight words -/
structure S8 where
  (a b c d e f g h : Int)
def S8.ok (s : S8) : Prop := W32 s.a ∧ W32 s.b ∧ W32 s.c ∧ W32 s.d ∧ W32 s.e ∧ W32 s.f ∧ W32 s.g ∧ W32 s.h
def t1W (k w : Int) (s : S8) : Int := add32 (add32 (add32 (add32 s.h (bS1 s.e)) (chW s.e s.f s.g)) k) w
def t2W (s : S8) : Int := add32 (bS0 s.a) (majW s.a s.b s.c)
def rnd (k w : Int) (s : S8) : S8 := ⟨add32 (t1W k w s) (t2W s), s.a, s.b, s.c, add32 s.d (t1W k w s), s.e, s.f, s.g⟩
def rounds (W : List Int) (s : S8) : Nat → S8
  | 0 => s
  | t + 1 => rnd (kAt t) (W.getD t 0) (rounds W s t)
def plus (s r : S8) : S8 := ⟨add32 s.a r.a, add32 s.b r.b, add32 s.c r.c, add32 s.d r.d, add32 s.e r.e, add32 s.f r.f, add32 s.g r.g, add32 s.h r.h⟩
def workS (s : S8) (W : List Int) : S8 := plus s (rounds W s 64)
theorem rnd_ok (k w : Int) (s : S8) (h : s.ok) : (rnd k w s).ok := by
  obtain ⟨h1, h2, h3, h4, h5, h6, h7, h8⟩ := h
  exact ⟨add32_W32 _ _, h1, h2, h3, add32_W32 _ _, h5, h6, h7⟩
theorem plus_ok (s r : S8) : (plus s r).ok := ⟨add32_W32 _ _, add32_W32 _ _, add32_W32 _ _, add32_W32 _ _, add32_W32 _ _, add32_W32 _ _, add32_W32 _ _, add32_W32 _ _⟩
theorem rounds_ok (W : List Int) (s : S8) (h : s.ok) : ∀ t, (rounds W s t).ok
  | 0 => h
  | t + 1 => rnd_ok _ _ _ (rounds_ok W s h t)
theorem workS_ok (s : S8) (W : List Int) : (workS s W).ok := plus_ok _ _

/-- the words of all rounds, of a block's bytes -/
def nextW (l : List UInt8) (t : Nat) (p : List Int) : Int :=
  if t < 16 then (num ((l.drop (4 * t)).take 4) : Int)
  else add32 (add32 (add32 (sS1 (p.getD (t - 2) 0)) (p.getD (t - 7) 0)) (sS0 (p.getD (t - 15) 0))) (p.getD (t - 16) 0)
def wList (l : List UInt8) : Nat → List Int
  | 0 => []
  | t + 1 => wList l t ++ [nextW l t (wList l t)]
theorem wList_length (l : List UInt8) : ∀ t, (wList l t).length = t
  | 0 => rfl
  | t + 1 => by rw [wList, List.length_append, wList_length l t]; rfl
theorem wList_get (l : List UInt8) (t j : Nat) (h : j < t) : (wList l (t + 1)).getD j 0 = (wList l t).getD j 0 := by
  rw [wList, List.getD_eq_getElem?_getD, List.getElem?_append_left (by rw [wList_length]; exact h), ← List.getD_eq_getElem?_getD]
theorem wList_last (l : List UInt8) (t : Nat) : (wList l (t + 1)).getD t 0 = nextW l t (wList l t) := by
  rw [wList, List.getD_eq_getElem?_getD, List.getElem?_append_right (by rw [wList_length]; exact Nat.le_refl _), wList_length, Nat.sub_self]; rfl
theorem num4_W32 (l : List UInt8) : W32 ((num (l.take 4) : Nat) : Int) := by
  have := num_lt' (l.take 4) 4 (by rw [List.length_take]; omega)
  unfold W32; omega
theorem nextW_W32 (l : List UInt8) (t : Nat) (p : List Int) : W32 (nextW l t p) := by
  unfold nextW; split
  · exact num4_W32 _
  · exact add32_W32 _ _
theorem wList_W32 (l : List UInt8) : ∀ t j, W32 ((wList l t).getD j 0)
  | 0, j => ⟨by simp [wList], by simp [wList]⟩
  | t + 1, j => by
    by_cases h : j < t
    · rw [wList_get l t j h]; exact wList_W32 l t j
    · by_cases e : j = t
      · subst e; rw [wList_last]; exact nextW_W32 _ _ _
      · rw [List.getD_eq_getElem?_getD, List.getElem?_eq_none (by rw [wList_length]; omega)]; exact ⟨by decide, by decide⟩
def blockS (s : S8) (l : List UInt8) : S8 := workS s (wList l 64)
theorem blockS_ok (s : S8) (l : List UInt8) : (blockS s l).ok := workS_ok _ _
def firstS : S8 := ⟨1779033703, 3144134277, 1013904242, 2773480762, 1359893119, 2600822924, 528734635, 1541459225⟩
theorem firstS_ok : firstS.ok := by unfold firstS S8.ok W32; decide
/-- behind the first k blocks -/
def compN (l : List UInt8) : Nat → S8
  | 0 => firstS
  | k + 1 => blockS (compN l k) ((l.drop (64 * k)).take 64)
theorem compN_ok (l : List UInt8) : ∀ k, (compN l k).ok
  | 0 => firstS_ok
  | _ + 1 => blockS_ok _ _
theorem compN_append (l m : List UInt8) : ∀ k, 64 * k ≤ l.length → compN (l ++ m) k = compN l k
  | 0, _ => rfl
  | k + 1, h => by
    rw [compN, compN, compN_append l m k (by omega), List.drop_append_of_le_length (by omega), List.take_append_of_le_length (by rw [List.length_drop]; omega)]
def padZ (n : Nat) : Nat := 63 - (n + 8) % 64
def padL (n : Nat) : List UInt8 := 128 :: (List.replicate (padZ n) 0 ++ bytesOf (8 * n) 8)
theorem padL_length (n : Nat) : (padL n).length = 9 + padZ n := by
  simp [padL, bytesOf_length]; omega
def digestS (s : S8) : List UInt8 := bytesOf s.a.toNat 4 ++ bytesOf s.b.toNat 4 ++ bytesOf s.c.toNat 4 ++ bytesOf s.d.toNat 4 ++ bytesOf s.e.toNat 4 ++ bytesOf s.f.toNat 4 ++ bytesOf s.g.toNat 4 ++ bytesOf s.h.toNat 4
theorem digestS_length (s : S8) : (digestS s).length = 32 := by simp [digestS, bytesOf_length]
/-- how many blocks there are, filled up -/
def blocksN (n : Nat) : Nat := (n + 9 + padZ n) / 64
theorem blocksN_eq (n : Nat) : 64 * blocksN n = n + 9 + padZ n := by unfold blocksN padZ; omega
def sumL (l : List UInt8) : List UInt8 := digestS (compN (l ++ padL l.length) (blocksN l.length))
theorem sumL_length (l : List UInt8) : (sumL l).length = 32 := digestS_length _
end Go.Proofs.YtiidcnjhjojhoaaDoor
