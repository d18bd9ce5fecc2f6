/-
  Keys that sign many times, plainly: seeds of indexes, leaves, what is right.
-/
import Derived.Test.YtfelmdndjdaniaaDoorOnce3
import Derived.Test.YtfelmdndjdaniaaDoorTreeA
namespace Go.Proofs.YtfelmdndjdaniaaDoor
open Go.RowKit
def keyA : ByteArray := ⟨#[107, 101, 121]⟩
def ksL (s : List UInt8) (i : Nat) : List UInt8 := macL s (seedL keyA (i : Int))
theorem ksL_length (s : List UInt8) (i : Nat) : (ksL s i).length = 32 := macL_length _ _
def leafL (s : List UInt8) (b i : Nat) : List UInt8 := rootL (pubN (ksL s i) b)
theorem leafL_length (s : List UInt8) (b i : Nat) : (leafL s b i).length = 32 := rootL_length _
def leavesL (s : List UInt8) (b : Nat) : Nat → List (List UInt8)
  | 0 => []
  | m + 1 => leavesL s b m ++ [leafL s b m]
theorem leavesL_length (s : List UInt8) (b : Nat) : ∀ m, (leavesL s b m).length = m
  | 0 => rfl
  | m + 1 => by rw [leavesL, List.length_append, leavesL_length s b m]; rfl
theorem leavesL_digs (s : List UInt8) (b : Nat) : ∀ m, Digs (leavesL s b m)
  | 0 => Digs.nil
  | m + 1 => (leavesL_digs s b m).app (Digs.one (leafL_length _ _ _))
theorem leavesL_get (s : List UInt8) (b : Nat) : ∀ m i, i < m → (leavesL s b m)[i]? = some (leafL s b i)
  | 0, i, h => by omega
  | m + 1, i, h => by
    rw [leavesL]
    by_cases e : i = m
    · subst e
      rw [List.getElem?_append_right (by rw [leavesL_length]; exact Nat.le_refl _), leavesL_length, Nat.sub_self]; rfl
    · rw [List.getElem?_append_left (by rw [leavesL_length]; omega)]
      exact leavesL_get s b m i (by omega)
theorem leavesL_getD (s : List UInt8) (b m i : Nat) (h : i < m) : (leavesL s b m).getD i [] = leafL s b i := by
  rw [List.getD_eq_getElem?_getD, leavesL_get s b m i h]; rfl
/-- the first leaves, the others zeros -/
def lvsR (s : List UInt8) (b n m : Nat) : List UInt8 := flat (leavesL s b m) ++ List.replicate ((n - m) * 32) 0
theorem lvsF_length (s : List UInt8) (b m : Nat) : (flat (leavesL s b m)).length = 32 * m := by
  rw [flat_length (leavesL_digs s b m), leavesL_length]
theorem lvsR_zero (s : List UInt8) (b n : Nat) : lvsR s b n 0 = List.replicate (n * 32) 0 := by
  unfold lvsR; rw [leavesL, show flat ([] : List (List UInt8)) = [] from rfl, List.nil_append, Nat.sub_zero]
theorem lvsR_all (s : List UInt8) (b n : Nat) : lvsR s b n n = flat (leavesL s b n) := by
  unfold lvsR; rw [Nat.sub_self, Nat.zero_mul, List.replicate_zero, List.append_nil]
theorem lvsR_length (s : List UInt8) (b n m : Nat) (h : m ≤ n) : (lvsR s b n m).length = n * 32 := by
  unfold lvsR; rw [List.length_append, lvsF_length, List.length_replicate]; omega
theorem lvsR_step (s : List UInt8) (b n m : Nat) (h : m < n) : spl (bcells (lvsR s b n m)) (32 * m) (leafL s b m) = bcells (lvsR s b n (m + 1)) := by
  rw [spl_bcells]
  congr 1
  unfold lvsR
  rw [show (n - m) * 32 = 32 + (n - (m + 1)) * 32 by omega, ← List.replicate_append_replicate]
  have h0 := splice_app (flat (leavesL s b m)) (List.replicate 32 0 ++ List.replicate ((n - (m + 1)) * 32) 0) (leafL s b m) 0
  rw [lvsF_length] at h0
  have h1 : splice (flat (leavesL s b m) ++ (List.replicate 32 0 ++ List.replicate ((n - (m + 1)) * 32) 0)) (32 * m) (leafL s b m) = _ := h0
  rw [h1, splice_zero _ _ _ (by rw [leafL_length, List.length_replicate]), leavesL, flat_app]
  simp [flat]
def okK (b h : Int) : Bool := (decide (1 ≤ b) && decide (b ≤ 256)) && (decide (0 ≤ h) && decide (h ≤ 6))
theorem okK_yes {b h : Int} (k : okK b h = true) : ∃ b' h' : Nat, b = b' ∧ h = h' ∧ 1 ≤ b' ∧ b' ≤ 256 ∧ h' ≤ 6 := by
  simp only [okK, Bool.and_eq_true, decide_eq_true_eq] at k
  exact ⟨b.toNat, h.toNat, by omega, by omega, by omega, by omega, by omega⟩
theorem okK_of {b h : Nat} (h1 : 1 ≤ b) (h2 : b ≤ 256) (h3 : h ≤ 6) : okK (b : Int) (h : Int) = true := by simp [okK]; omega
theorem okK_ots {b h : Int} (k : okK b h = true) : okB b = true := by simp [okK, okB] at k ⊢; omega
theorem pow_le6 {h : Nat} (k : h ≤ 6) : 2 ^ h ≤ 64 := Nat.le_trans (Nat.pow_le_pow_right (by decide) k) (by decide)
theorem pow_pos2 (h : Nat) : 0 < 2 ^ h := Nat.pos_of_ne_zero (by simp)
/-- is it right? -/
def verK (p : List UInt8) (b h : Int) (d : List UInt8) (i : Int) (O P : List (List UInt8)) : Bool :=
  (okK b h && decide ((P.length : Int) = h)) && (decide (errR b O.length = 0) && (decide (errC P.length i = 0) && decide (climbI (recI b d O) i P = p)))
theorem verK_back (s d : List UInt8) (b h i : Nat) (h1 : 1 ≤ b) (h2 : b ≤ 256) (h3 : h ≤ 6) (hi : i < 2 ^ h) :
    verK (rootD h (leavesL s b (2 ^ h))) b h d i (sigN (ksL s i) d b) (pathD h (leavesL s b (2 ^ h)) i) = true := by
  have e1 : okB (b : Int) = true := okB_of h1 h2
  have e2 : (pathD h (leavesL s b (2 ^ h)) i).length = h := pathT_length _ _ h _ i
  have e3 : errR (b : Int) (sigN (ksL s i) d b).length = 0 := by unfold errR; rw [e1, sigN_length]; simp
  have e4 : okC h (i : Int) = true := by
    unfold okC
    simp only [Bool.and_eq_true, decide_eq_true_eq]
    exact ⟨by omega, by omega, by exact_mod_cast hi⟩
  have e5 : recI (b : Int) d (sigN (ksL s i) d b) = leafL s b i := by
    unfold recI
    rw [e1, sigN_length, Int.toNat_natCast, ledN_sig _ _ _ _ (Nat.le_refl _)]
    simp [leafL]
  have e6 : climbI (leafL s b i) (i : Int) (pathD h (leavesL s b (2 ^ h)) i) = rootD h (leavesL s b (2 ^ h)) := by
    unfold climbI
    rw [e2, if_pos e4, Int.toNat_natCast, ← leavesL_getD s b (2 ^ h) i hi]
    exact climb_path abL [] h (leavesL s b (2 ^ h)) i (leavesL_length _ _ _) hi
  unfold verK
  rw [okK_of h1 h2 h3, e2, e3, e5, e6]
  have e7 : errC h (i : Int) = 0 := by unfold errC; rw [if_pos e4]
  rw [e7]
  simp
end Go.Proofs.YtfelmdndjdaniaaDoor
