/-
  Plain mathematics of layer 1 (bits): the digits of bytes and the bytes of digits, there and back. Nothing of the program is named here. No conditions.
-/
import Derived.Test.YtlhookkmneeefaaNum
import Derived.Lib.Bytealg
namespace Go.Proofs.Ytlhookkmneeefaa
/-- a digit's worth; below 0: it is none -/
def dv (n : Nat) : Int := if 48 ≤ n ∧ n ≤ 57 then (n : Int) - 48 else if 97 ≤ n ∧ n ≤ 102 then (n : Int) - 87 else -1
/-- the digit of a worth -/
def dig (k : Nat) : Nat := if k < 10 then 48 + k else 87 + k
def digB (k : Nat) : UInt8 := UInt8.ofNat (dig k)
theorem dv_index : ∀ n, n < 256 → Lib.indexByte [48, 49, 50, 51, 52, 53, 54, 55, 56, 57, 97, 98, 99, 100, 101, 102] n.toUInt8 = dv n := by decide +kernel
theorem dv_lt (n : Nat) : -1 ≤ dv n ∧ dv n < 16 := by unfold dv; split <;> (try split) <;> omega
theorem dv_dig : ∀ k, k < 16 → dv (dig k) = k := by decide
theorem dig_dv (n : Nat) (h : 0 ≤ dv n) : dig (dv n).toNat = n := by
  unfold dv at h ⊢
  unfold dig
  split at h
  · rename_i h1; rw [if_pos h1]; split <;> omega
  · rename_i h1
    rw [if_neg h1]
    split at h
    · rename_i h2; rw [if_pos h2]; split <;> omega
    · omega
theorem dig_lt (k : Nat) (h : k < 16) : dig k < 256 := by unfold dig; split <;> omega
theorem digB_toNat (k : Nat) (h : k < 16) : (digB k).toNat = dig k := by
  unfold digB; rw [UInt8.toNat_ofNat']; exact Nat.mod_eq_of_lt (dig_lt k h)
theorem dig_at : ∀ k (h : k < 16), ((⟨#[48, 49, 50, 51, 52, 53, 54, 55, 56, 57, 97, 98, 99, 100, 101, 102]⟩ : ByteArray)[k]'h).toNat = dig k := by decide
/-- two digits a byte -/
def hexL : List UInt8 → List UInt8
  | [] => []
  | x :: l => digB (x.toNat / 16) :: digB (x.toNat % 16) :: hexL l
theorem hexL_append : ∀ a b : List UInt8, hexL (a ++ b) = hexL a ++ hexL b
  | [], _ => rfl
  | x :: a, b => by simp [hexL, hexL_append a b]
theorem hexL_length : ∀ l : List UInt8, (hexL l).length = 2 * l.length
  | [] => rfl
  | x :: l => by simp [hexL, hexL_length l]; omega
/-- the bytes of digits -/
def unhexL : List UInt8 → Option (List UInt8)
  | [] => some []
  | [_] => none
  | a :: b :: l => if 0 ≤ dv a.toNat ∧ 0 ≤ dv b.toNat then (unhexL l).map (UInt8.ofNat (16 * dv a.toNat + dv b.toNat).toNat :: ·) else none
theorem unhexL_append : ∀ (a b : List UInt8) (r : List UInt8), unhexL a = some r → unhexL (a ++ b) = (unhexL b).map (r ++ ·)
  | [], b, r, h => by
    simp [unhexL] at h
    subst h
    simp
  | [_], b, r, h => by simp [unhexL] at h
  | x :: y :: a, b, r, h => by
    rw [unhexL] at h
    split at h
    · rename_i hok
      rcases hu : unhexL a with _ | q
      · rw [hu] at h; simp at h
      · rw [hu] at h
        simp at h
        subst h
        rw [List.cons_append, List.cons_append, unhexL, if_pos hok, unhexL_append a b q hu]
        cases unhexL b <;> simp
    · cases h
theorem unhexL_length : ∀ (a r : List UInt8), unhexL a = some r → a.length = 2 * r.length
  | [], r, h => by
    simp [unhexL] at h
    subst h
    rfl
  | [_], r, h => by simp [unhexL] at h
  | x :: y :: a, r, h => by
    rw [unhexL] at h
    split at h
    · rcases hu : unhexL a with _ | q
      · rw [hu] at h; simp at h
      · rw [hu] at h
        simp at h
        subst h
        have := unhexL_length a q hu
        simp; omega
    · cases h
theorem unhexL_odd : ∀ a : List UInt8, a.length % 2 = 1 → unhexL a = none
  | [], h => by simp at h
  | [_], _ => by simp [unhexL]
  | x :: y :: a, h => by
    rw [unhexL, unhexL_odd a (by simp at h; omega)]
    simp
/-- there and back -/
theorem unhexL_hexL : ∀ l : List UInt8, unhexL (hexL l) = some l
  | [] => by simp [hexL, unhexL]
  | x :: l => by
    have hx := byte_lt x
    have h1 : x.toNat / 16 < 16 := by omega
    have h2 : x.toNat % 16 < 16 := by omega
    rw [hexL, unhexL, digB_toNat _ h1, digB_toNat _ h2, dv_dig _ h1, dv_dig _ h2, if_pos (by omega), unhexL_hexL l, Option.map_some]
    congr 2
    rw [show (16 * ((x.toNat / 16 : Nat) : Int) + ((x.toNat % 16 : Nat) : Int)).toNat = x.toNat by omega, UInt8.ofNat_toNat]
theorem hexL_unhexL : ∀ (s r : List UInt8), unhexL s = some r → hexL r = s
  | [], r, h => by
    simp [unhexL] at h
    subst h
    rfl
  | [_], r, h => by simp [unhexL] at h
  | x :: y :: a, r, h => by
    rw [unhexL] at h
    split at h
    · rename_i hok
      rcases hu : unhexL a with _ | q
      · rw [hu] at h; simp at h
      · rw [hu] at h
        simp at h
        subst h
        have lx := dv_lt x.toNat
        have ly := dv_lt y.toNat
        have gx := dig_dv x.toNat hok.1
        have gy := dig_dv y.toNat hok.2
        have e : (UInt8.ofNat (16 * dv x.toNat + dv y.toNat).toNat).toNat = (16 * dv x.toNat + dv y.toNat).toNat := by
          rw [UInt8.toNat_ofNat']; exact Nat.mod_eq_of_lt (by omega)
        rw [hexL, hexL_unhexL a q hu, e, show (16 * dv x.toNat + dv y.toNat).toNat / 16 = (dv x.toNat).toNat by omega,
          show (16 * dv x.toNat + dv y.toNat).toNat % 16 = (dv y.toNat).toNat by omega]
        unfold digB
        rw [gx, gy, UInt8.ofNat_toNat, UInt8.ofNat_toNat]
    · cases h
/-- the pair at place j, behind those that are digits -/
theorem unhexL_pair {l r : List UInt8} {j : Nat} {a b : UInt8} (h : unhexL (l.take (2 * j)) = some r) (ha : l[2 * j]? = some a) (hb : l[2 * j + 1]? = some b)
    (hok : 0 ≤ dv a.toNat ∧ 0 ≤ dv b.toNat) : unhexL (l.take (2 * (j + 1))) = some (r ++ [UInt8.ofNat (16 * dv a.toNat + dv b.toNat).toNat]) := by
  have e : l.take (2 * (j + 1)) = l.take (2 * j) ++ [a, b] := by
    rw [show 2 * (j + 1) = 2 * j + 1 + 1 by omega, take_snoc hb, take_snoc ha]; simp
  rw [e, unhexL_append _ _ r h, unhexL, if_pos hok]
  simp [unhexL]
theorem unhexL_bad {l r : List UInt8} {j : Nat} {a b : UInt8} (h : unhexL (l.take (2 * j)) = some r) (ha : l[2 * j]? = some a) (hb : l[2 * j + 1]? = some b)
    (hok : ¬ (0 ≤ dv a.toNat ∧ 0 ≤ dv b.toNat)) : unhexL l = none := by
  have e : l = l.take (2 * j) ++ (a :: b :: l.drop (2 * j + 2)) := by
    have h1 : l.drop (2 * j) = a :: l.drop (2 * j + 1) := by
      obtain ⟨hk, rfl⟩ := List.getElem?_eq_some_iff.1 ha
      exact List.drop_eq_getElem_cons hk
    have h2 : l.drop (2 * j + 1) = b :: l.drop (2 * j + 1 + 1) := by
      obtain ⟨hk, rfl⟩ := List.getElem?_eq_some_iff.1 hb
      exact List.drop_eq_getElem_cons hk
    conv => lhs; rw [← List.take_append_drop (2 * j) l, h1, h2]
  rw [e, unhexL_append _ _ r h, unhexL, if_neg hok]
  rfl
end Go.Proofs.Ytlhookkmneeefaa
