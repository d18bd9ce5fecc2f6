/-
  Plain mathematics of layer 1 (bits): turning a word. Nothing of the program is named here. No conditions.
-/
import Derived.WalkKit
namespace Go.Proofs.YtiidcnjhjojhoaaDoor
/-- x, turned to the right by n places (mod 32). -/
def rotI (x n : Int) : Int := x / 2 ^ (n % 32).toNat + (x % 2 ^ (n % 32).toNat) * 2 ^ (32 - (n % 32).toNat)

theorem ofInt_u32 (a : Nat) (ha : a < 4294967296) : (BitVec.ofInt 32 (a : Int)).toNat = a := by
  rw [BitVec.ofInt_natCast, BitVec.toNat_ofNat]; exact Nat.mod_eq_of_lt (by omega)
theorem u32_or_nat (a b : Nat) (ha : a < 4294967296) (hb : b < 4294967296) : bits .or .u32 (a : Int) (b : Int) = ((a ||| b : Nat) : Int) := by
  have hx : a ||| b < 2 ^ 32 := Nat.or_lt_two_pow (by omega) (by omega)
  show IntKind.u32.wrap ((BitVec.ofInt 32 (a : Int) ||| BitVec.ofInt 32 (b : Int)).toNat : Int) = _
  rw [BitVec.toNat_or, ofInt_u32 a ha, ofInt_u32 b hb]
  simp [IntKind.wrap, IntKind.bits, IntKind.signed]
  omega
theorem rot_nat (x k : Nat) (hx : x < 2 ^ 32) (hk : k ≤ 32) : (x / 2 ^ k ||| (x * 2 ^ (32 - k)) % 2 ^ 32) = x / 2 ^ k + x % 2 ^ k * 2 ^ (32 - k) := by
  have e : (x * 2 ^ (32 - k)) % 2 ^ 32 = 2 ^ (32 - k) * (x % 2 ^ k) := by
    have : 2 ^ 32 = 2 ^ (32 - k) * 2 ^ k := by rw [← Nat.pow_add]; congr 1; omega
    rw [this, Nat.mul_comm x, Nat.mul_mod_mul_left]
  have hlt : x / 2 ^ k < 2 ^ (32 - k) := by
    rw [Nat.div_lt_iff_lt_mul (Nat.two_pow_pos k), ← Nat.pow_add]
    rwa [show 32 - k + k = 32 by omega]
  rw [e, Nat.or_comm, ← Nat.two_pow_add_eq_or_of_lt hlt, Nat.add_comm, Nat.mul_comm]

/-- the program's word for it -/
theorem rot_prog (x n : Int) (k : Nat) (h0 : 0 ≤ x) (h1 : x < 4294967296) (hk : n % 32 = k) :
    bits .or .u32 (x / 2 ^ k) (IntKind.u32.wrap (x * 2 ^ (32 - k))) = rotI x n := by
  obtain ⟨a, rfl⟩ := Int.eq_ofNat_of_zero_le h0
  have ha : a < 2 ^ 32 := by omega
  have hk32 : k < 32 := by omega
  unfold rotI
  rw [hk, Int.toNat_natCast]
  have e1 : (a : Int) / 2 ^ k = ((a / 2 ^ k : Nat) : Int) := by simp
  have e2 : IntKind.u32.wrap ((a : Int) * 2 ^ (32 - k)) = (((a * 2 ^ (32 - k)) % 2 ^ 32 : Nat) : Int) := by
    simp [IntKind.wrap, IntKind.bits, IntKind.signed]
  have l1 : a / 2 ^ k < 4294967296 := Nat.lt_of_le_of_lt (Nat.div_le_self _ _) ha
  have l2 : a * 2 ^ (32 - k) % 2 ^ 32 < 4294967296 := Nat.mod_lt _ (by decide)
  rw [e1, e2, u32_or_nat _ _ l1 l2, rot_nat a k ha (by omega)]
  simp
theorem rotI_lt (x n : Int) (h0 : 0 ≤ x) (h1 : x < 4294967296) : 0 ≤ rotI x n ∧ rotI x n < 4294967296 := by
  obtain ⟨k, hk⟩ : ∃ k : Nat, n % 32 = k := ⟨(n % 32).toNat, by omega⟩
  rw [← rot_prog x n k h0 h1 hk]
  have : (BinOp.or == BinOp.or) = true := rfl
  unfold bits
  simp [IntKind.wrap, IntKind.bits, IntKind.signed]
  omega
theorem u64_mod32 (n : Int) : (IntKind.u64.wrap n).tmod 32 = n % 32 := by
  rw [IntKind.wrap_u64, tmod_of_emod]; omega
/-- one place to the right -/
def rot1 (x : Nat) : Nat := x / 2 + x % 2 * 2147483648
def rotN (x : Nat) : Nat → Nat
  | 0 => x
  | k + 1 => rot1 (rotN x k)
theorem rotN_eq (x : Nat) (hx : x < 2 ^ 32) : ∀ k, k ≤ 32 → rotN x k = x / 2 ^ k + x % 2 ^ k * 2 ^ (32 - k)
  | 0, _ => by simp [rotN, Nat.mod_one]
  | k + 1, hk => by
    rw [rotN, rotN_eq x hx k (by omega)]
    have hq : x / 2 ^ (k + 1) = x / 2 ^ k / 2 := by rw [Nat.pow_succ, Nat.div_div_eq_div_mul]
    have hr : x % 2 ^ (k + 1) = x % 2 ^ k + 2 ^ k * (x / 2 ^ k % 2) := by rw [Nat.pow_succ, Nat.mod_mul]
    have hp : 2 ^ (32 - k) = 2 * 2 ^ (32 - (k + 1)) := by rw [show 32 - k = (32 - (k + 1)) + 1 by omega, Nat.pow_succ, Nat.mul_comm]
    have hm : 2 ^ k * 2 ^ (32 - (k + 1)) = 2147483648 := by rw [← Nat.pow_add, show k + (32 - (k + 1)) = 31 by omega]
    rw [hq, hr, hp, Nat.add_mul]
    generalize x / 2 ^ k = q
    generalize x % 2 ^ k = r
    have e1 : r * (2 * 2 ^ (32 - (k + 1))) = 2 * (r * 2 ^ (32 - (k + 1))) := by rw [Nat.mul_left_comm]
    have e2 : 2 ^ k * (q % 2) * 2 ^ (32 - (k + 1)) = q % 2 * 2147483648 := by rw [Nat.mul_right_comm, hm, Nat.mul_comm]
    rw [e1, e2]
    generalize r * 2 ^ (32 - (k + 1)) = z
    unfold rot1
    omega
theorem rot1_lt (x : Nat) (hx : x < 2 ^ 32) : rot1 x < 2 ^ 32 := by unfold rot1; omega
theorem rotN_lt (x : Nat) (hx : x < 2 ^ 32) : ∀ k, rotN x k < 2 ^ 32
  | 0 => hx
  | k + 1 => rot1_lt _ (rotN_lt x hx k)
theorem rotN_add (x a : Nat) : ∀ b, rotN x (a + b) = rotN (rotN x a) b
  | 0 => rfl
  | b + 1 => by rw [← Nat.add_assoc, rotN, rotN, rotN_add x a b]
theorem rotN_32 (x : Nat) (hx : x < 2 ^ 32) : rotN x 32 = x := by
  rw [rotN_eq x hx 32 (Nat.le_refl _), Nat.div_eq_of_lt hx, Nat.mod_eq_of_lt hx]; simp
theorem rotN_mul (x : Nat) (hx : x < 2 ^ 32) : ∀ q, rotN x (32 * q) = x
  | 0 => rfl
  | q + 1 => by rw [Nat.mul_succ, rotN_add, rotN_mul x hx q, rotN_32 x hx]
theorem rotN_mod (x : Nat) (hx : x < 2 ^ 32) (k : Nat) : rotN x k = rotN x (k % 32) := by
  conv => lhs; rw [← Nat.div_add_mod k 32, rotN_add, rotN_mul x hx]
theorem rotI_nat (x : Nat) (n : Int) (hx : x < 2 ^ 32) : rotI (x : Int) n = ((rotN x (n % 32).toNat : Nat) : Int) := by
  rw [rotN_eq x hx _ (by omega)]; unfold rotI; simp
theorem rotI_rotI (x n m : Int) (h0 : 0 ≤ x) (h1 : x < 4294967296) : rotI (rotI x n) m = rotI x (n + m) := by
  obtain ⟨a, rfl⟩ := Int.eq_ofNat_of_zero_le h0
  have ha : a < 2 ^ 32 := by omega
  rw [rotI_nat a n ha, rotI_nat _ m (rotN_lt a ha _), rotI_nat a (n + m) ha, ← rotN_add, rotN_mod a ha]
  congr 2
  omega
theorem rotI_32 (x : Int) : rotI x 32 = x := by unfold rotI; simp [Int.emod_one]
theorem rotI_0 (x : Int) : rotI x 0 = x := by unfold rotI; simp [Int.emod_one]
/-- one round of the document's loop -/
theorem rotI_step (x : Int) (i : Nat) (h0 : 0 ≤ x) (h1 : x < 4294967296) : rotI x ((i : Int) + 1) = rotI x i / 2 + rotI x i % 2 * 2147483648 := by
  obtain ⟨a, rfl⟩ := Int.eq_ofNat_of_zero_le h0
  have ha : a < 2 ^ 32 := by omega
  have e : rotN a (((i : Int) + 1) % 32).toNat = rot1 (rotN a ((i : Int) % 32).toNat) := by
    rw [show rot1 (rotN a ((i : Int) % 32).toNat) = rotN a (((i : Int) % 32).toNat + 1) from rfl, rotN_mod a ha (((i : Int) % 32).toNat + 1)]
    congr 1; omega
  rw [rotI_nat a _ ha, rotI_nat a _ ha, e]
  unfold rot1; simp
theorem rotI_mod (x n : Int) : rotI x (n % 32) = rotI x n := by unfold rotI; rw [Int.emod_emod]
end Go.Proofs.YtiidcnjhjojhoaaDoor
