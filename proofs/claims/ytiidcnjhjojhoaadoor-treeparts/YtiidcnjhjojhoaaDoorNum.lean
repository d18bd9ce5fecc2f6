/-
  Plain mathematics of layer 1 (bits): the number of bytes, the bytes of a number, there and back. Nothing of the program is named here. No conditions.
-/
import Derived.WalkKit
namespace Go.Proofs.YtiidcnjhjojhoaaDoor
/-- the number of bytes, the highest first -/
def num (l : List UInt8) : Nat := l.foldl (fun a x => a * 256 + x.toNat) 0
theorem num_snoc (l : List UInt8) (x : UInt8) : num (l ++ [x]) = num l * 256 + x.toNat := by simp [num, List.foldl_append]
theorem take_snoc {α : Type} {l : List α} {k : Nat} {x : α} (h : l[k]? = some x) : l.take (k + 1) = l.take k ++ [x] := by
  obtain ⟨hk, rfl⟩ := List.getElem?_eq_some_iff.1 h
  rw [List.take_succ_eq_append_getElem hk]
theorem num_take {l : List UInt8} {k : Nat} {x : UInt8} (h : l[k]? = some x) : num (l.take (k + 1)) = num (l.take k) * 256 + x.toNat := by rw [take_snoc h, num_snoc]
theorem byte_lt (x : UInt8) : x.toNat < 256 := x.toBitVec.isLt
theorem num_foldl : ∀ (l : List UInt8) (a : Nat), l.foldl (fun a x => a * 256 + x.toNat) a = a * 256 ^ l.length + num l
  | [], a => by simp [num]
  | x :: l, a => by
    unfold num
    rw [List.foldl_cons, List.foldl_cons, num_foldl l, num_foldl l (0 * 256 + x.toNat), List.length_cons, Nat.pow_succ, Nat.add_mul]
    rw [Nat.zero_mul, Nat.zero_add, Nat.mul_assoc, Nat.mul_comm 256, Nat.add_assoc]
theorem num_cons (x : UInt8) (l : List UInt8) : num (x :: l) = x.toNat * 256 ^ l.length + num l := by
  unfold num
  rw [List.foldl_cons, num_foldl]
  simp [num]
theorem num_lt : ∀ l : List UInt8, num l < 256 ^ l.length
  | [] => by decide
  | x :: l => by
    have h := num_lt l
    have hx := byte_lt x
    rw [num_cons, List.length_cons, Nat.pow_succ]
    have : x.toNat * 256 ^ l.length ≤ 255 * 256 ^ l.length := Nat.mul_le_mul_right _ (by omega)
    omega
theorem num_lt' (l : List UInt8) (n : Nat) (h : l.length ≤ n) : num l < 256 ^ n := Nat.lt_of_lt_of_le (num_lt l) (Nat.pow_le_pow_right (by decide) h)

theorem ofInt_u64 (a : Nat) (ha : a < 18446744073709551616) : (BitVec.ofInt 64 (a : Int)).toNat = a := by
  rw [BitVec.ofInt_natCast, BitVec.toNat_ofNat]; exact Nat.mod_eq_of_lt (by omega)
theorem u64_or_nat (a b : Nat) (ha : a < 18446744073709551616) (hb : b < 18446744073709551616) : bits .or .u64 (a : Int) (b : Int) = ((a ||| b : Nat) : Int) := by
  have hx : a ||| b < 2 ^ 64 := Nat.or_lt_two_pow (by omega) (by omega)
  show IntKind.u64.wrap ((BitVec.ofInt 64 (a : Int) ||| BitVec.ofInt 64 (b : Int)).toNat : Int) = _
  rw [BitVec.toNat_or, ofInt_u64 a ha, ofInt_u64 b hb]
  simp [IntKind.wrap, IntKind.bits, IntKind.signed]
  omega
theorem u64_or_byte (N x : Nat) (hN : N < 72057594037927936) (hx : x < 256) : bits .or .u64 ((N : Int) * 256) (x : Int) = ((N * 256 + x : Nat) : Int) := by
  have e : (N : Int) * 256 = ((N * 256 : Nat) : Int) := by omega
  rw [e, u64_or_nat _ _ (by omega) (by omega)]
  congr 1
  have : (N * 256) = 2 ^ 8 * N := by omega
  rw [this, ← Nat.two_pow_add_eq_or_of_lt hx]

/-- the lowest bytes of N, wide of them, the highest first -/
def bytesOf (N wide : Nat) : List UInt8 := (List.range wide).map fun j => UInt8.ofNat (N / 256 ^ (wide - 1 - j))
theorem bytesOf_length (N wide : Nat) : (bytesOf N wide).length = wide := by simp [bytesOf]
theorem bytesOf_get (N wide j : Nat) (h : j < wide) : (bytesOf N wide)[j]? = some (UInt8.ofNat (N / 256 ^ (wide - 1 - j))) := by
  simp [bytesOf, h]
theorem bytesOf_succ (N wide : Nat) : bytesOf N (wide + 1) = UInt8.ofNat (N / 256 ^ wide) :: bytesOf N wide := by
  apply List.ext_getElem?
  intro j
  rcases j with _ | j
  · rw [bytesOf_get _ _ _ (by omega)]; simp
  · rcases Nat.lt_or_ge j wide with h | h
    · rw [bytesOf_get _ _ _ (by omega), List.getElem?_cons_succ, bytesOf_get _ _ _ h]
      congr 4; omega
    · rw [List.getElem?_eq_none (by rw [bytesOf_length]; omega), List.getElem?_cons_succ, List.getElem?_eq_none (by rw [bytesOf_length]; omega)]
/-- there and back: the number of a number's bytes -/
theorem num_bytesOf (N : Nat) : ∀ wide, num (bytesOf N wide) = N % 256 ^ wide
  | 0 => by simp [bytesOf, num, Nat.mod_one]
  | wide + 1 => by
    rw [bytesOf_succ, num_cons, bytesOf_length, num_bytesOf N wide, UInt8.toNat_ofNat', show N % 256 ^ (wide + 1) = N % (256 ^ wide * 256) from rfl, Nat.mod_mul, Nat.mul_comm, Nat.add_comm]
/-- and the bytes of bytes' number -/
theorem bytesOf_num : ∀ l : List UInt8, bytesOf (num l) l.length = l
  | [] => rfl
  | x :: l => by
    rw [List.length_cons, bytesOf_succ, num_cons]
    have hl := num_lt l
    have hx := byte_lt x
    have hp : 0 < 256 ^ l.length := Nat.pow_pos (by decide)
    have e1 : (x.toNat * 256 ^ l.length + num l) / 256 ^ l.length = x.toNat := by
      rw [Nat.mul_comm, Nat.mul_add_div hp, Nat.div_eq_of_lt hl, Nat.add_zero]
    rw [e1, UInt8.ofNat_toNat]
    congr 1
    have : bytesOf (x.toNat * 256 ^ l.length + num l) l.length = bytesOf (num l) l.length := by
      unfold bytesOf
      apply List.map_congr_left
      intro j hj
      have hj' : j < l.length := List.mem_range.1 hj
      have e2 : 256 ^ l.length = 256 ^ (l.length - 1 - j) * 256 ^ (j + 1) := by rw [← Nat.pow_add]; congr 1; omega
      have e3 : (x.toNat * 256 ^ l.length + num l) / 256 ^ (l.length - 1 - j) = 256 * (x.toNat * 256 ^ j) + num l / 256 ^ (l.length - 1 - j) := by
        rw [e2, show x.toNat * (256 ^ (l.length - 1 - j) * 256 ^ (j + 1)) = 256 ^ (l.length - 1 - j) * (x.toNat * 256 ^ (j + 1)) by rw [Nat.mul_left_comm], Nat.mul_add_div (Nat.pow_pos (by decide)), Nat.pow_succ]
        congr 1
        rw [← Nat.mul_assoc, Nat.mul_comm]
      rw [e3]
      apply UInt8.toNat_inj.1
      rw [UInt8.toNat_ofNat', UInt8.toNat_ofNat']
      omega
    rw [this, bytesOf_num l]
end Go.Proofs.YtiidcnjhjojhoaaDoor
