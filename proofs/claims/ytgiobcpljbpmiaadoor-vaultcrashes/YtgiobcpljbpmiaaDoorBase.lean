/-
  Base: ported texts, joined.
-/
import Derived.WalkKit
import Derived.WalkSpells
import Derived.WalkLawsBesides
import Derived.Lib.Hide
import Derived.Maps.AppendAt
import Derived.Deep.Draws
import Derived.Laws.OwnMore
import Derived.OpenShut
import Derived.Test.YtgiobcpljbpmiaaDoorProg
import Derived.Deep.QuietTactic
import Derived.BigQuiet
import Derived.Deep.WholeRow
import Derived.Deep.MidRow
namespace Go.Proofs.YtgiobcpljbpmiaaDoor
section
/-- x, turned to the right by n places (mod 32). -/
def rotI (x n : Int) : Int := x / 2 ^ (n % 32).toNat + (x % 2 ^ (n % 32).toNat) * 2 ^ (32 - (n % 32).toNat)
theorem ofInt_u32 (a : Nat) (ha : a < 4294967296) : (BitVec.ofInt 32 (a : Int)).toNat = a := by
  rw [BitVec.ofInt_natCast, BitVec.toNat_ofNat]; exact Nat.mod_eq_of_lt (by omega)
theorem u32_or_nat (a b : Nat) (ha : a < 4294967296) (hb : b < 4294967296) : bits .or .u32 (a : Int) (b : Int) = ((a ||| b : Nat) : Int) := by
  have hx : a ||| b < 2 ^ 32 := Nat.or_lt_two_pow (by omega) (by omega)
  show IntKind.u32.wrap ((BitVec.ofInt 32 (a : Int) ||| BitVec.ofInt 32 (b : Int)).toNat : Int) = _
  rw [BitVec.toNat_or, ofInt_u32 a ha, ofInt_u32 b hb]
  simp [IntKind.wrap, IntKind.bits, IntKind.signed]
  omega
theorem rot_nat (x k : Nat) (hx : x < 2 ^ 32) (hk : k ≤ 32) : (x / 2 ^ k ||| (x * 2 ^ (32 - k)) % 2 ^ 32) = x / 2 ^ k + x % 2 ^ k * 2 ^ (32 - k) := by
  have e : (x * 2 ^ (32 - k)) % 2 ^ 32 = 2 ^ (32 - k) * (x % 2 ^ k) := by
    have : 2 ^ 32 = 2 ^ (32 - k) * 2 ^ k := by rw [← Nat.pow_add]; congr 1; omega
    rw [this, Nat.mul_comm x, Nat.mul_mod_mul_left]
  have hlt : x / 2 ^ k < 2 ^ (32 - k) := by
    rw [Nat.div_lt_iff_lt_mul (Nat.two_pow_pos k), ← Nat.pow_add]
    rwa [show 32 - k + k = 32 by omega]
  rw [e, Nat.or_comm, ← Nat.two_pow_add_eq_or_of_lt hlt, Nat.add_comm, Nat.mul_comm]
/-- the program's word for it -/
theorem rot_prog (x n : Int) (k : Nat) (h0 : 0 ≤ x) (h1 : x < 4294967296) (hk : n % 32 = k) :
    bits .or .u32 (x / 2 ^ k) (IntKind.u32.wrap (x * 2 ^ (32 - k))) = rotI x n := by
  obtain ⟨a, rfl⟩ := Int.eq_ofNat_of_zero_le h0
  have ha : a < 2 ^ 32 := by omega
  have hk32 : k < 32 := by omega
  unfold rotI
  rw [hk, Int.toNat_natCast]
  have e1 : (a : Int) / 2 ^ k = ((a / 2 ^ k : Nat) : Int) := by simp
  have e2 : IntKind.u32.wrap ((a : Int) * 2 ^ (32 - k)) = (((a * 2 ^ (32 - k)) % 2 ^ 32 : Nat) : Int) := by
    simp [IntKind.wrap, IntKind.bits, IntKind.signed]
  have l1 : a / 2 ^ k < 4294967296 := Nat.lt_of_le_of_lt (Nat.div_le_self _ _) ha
  have l2 : a * 2 ^ (32 - k) % 2 ^ 32 < 4294967296 := Nat.mod_lt _ (by decide)
  rw [e1, e2, u32_or_nat _ _ l1 l2, rot_nat a k ha (by omega)]
  simp
theorem rotI_lt (x n : Int) (h0 : 0 ≤ x) (h1 : x < 4294967296) : 0 ≤ rotI x n ∧ rotI x n < 4294967296 := by
  obtain ⟨k, hk⟩ : ∃ k : Nat, n % 32 = k := ⟨(n % 32).toNat, by omega⟩
  rw [← rot_prog x n k h0 h1 hk]
  have : (BinOp.or == BinOp.or) = true := rfl
  unfold bits
  simp [IntKind.wrap, IntKind.bits, IntKind.signed]
  omega
theorem u64_mod32 (n : Int) : (IntKind.u64.wrap n).tmod 32 = n % 32 := by
  rw [IntKind.wrap_u64, tmod_of_emod]; omega
/-- one place to the right -/
def rot1 (x : Nat) : Nat := x / 2 + x % 2 * 2147483648
def rotN (x : Nat) : Nat → Nat
  | 0 => x
  | k + 1 => rot1 (rotN x k)
theorem rotN_eq (x : Nat) (hx : x < 2 ^ 32) : ∀ k, k ≤ 32 → rotN x k = x / 2 ^ k + x % 2 ^ k * 2 ^ (32 - k)
  | 0, _ => by simp [rotN, Nat.mod_one]
  | k + 1, hk => by
    rw [rotN, rotN_eq x hx k (by omega)]
    have hq : x / 2 ^ (k + 1) = x / 2 ^ k / 2 := by rw [Nat.pow_succ, Nat.div_div_eq_div_mul]
    have hr : x % 2 ^ (k + 1) = x % 2 ^ k + 2 ^ k * (x / 2 ^ k % 2) := by rw [Nat.pow_succ, Nat.mod_mul]
    have hp : 2 ^ (32 - k) = 2 * 2 ^ (32 - (k + 1)) := by rw [show 32 - k = (32 - (k + 1)) + 1 by omega, Nat.pow_succ, Nat.mul_comm]
    have hm : 2 ^ k * 2 ^ (32 - (k + 1)) = 2147483648 := by rw [← Nat.pow_add, show k + (32 - (k + 1)) = 31 by omega]
    rw [hq, hr, hp, Nat.add_mul]
    generalize x / 2 ^ k = q
    generalize x % 2 ^ k = r
    have e1 : r * (2 * 2 ^ (32 - (k + 1))) = 2 * (r * 2 ^ (32 - (k + 1))) := by rw [Nat.mul_left_comm]
    have e2 : 2 ^ k * (q % 2) * 2 ^ (32 - (k + 1)) = q % 2 * 2147483648 := by rw [Nat.mul_right_comm, hm, Nat.mul_comm]
    rw [e1, e2]
    generalize r * 2 ^ (32 - (k + 1)) = z
    unfold rot1
    omega
theorem rot1_lt (x : Nat) (hx : x < 2 ^ 32) : rot1 x < 2 ^ 32 := by unfold rot1; omega
theorem rotN_lt (x : Nat) (hx : x < 2 ^ 32) : ∀ k, rotN x k < 2 ^ 32
  | 0 => hx
  | k + 1 => rot1_lt _ (rotN_lt x hx k)
theorem rotN_add (x a : Nat) : ∀ b, rotN x (a + b) = rotN (rotN x a) b
  | 0 => rfl
  | b + 1 => by rw [← Nat.add_assoc, rotN, rotN, rotN_add x a b]
theorem rotN_32 (x : Nat) (hx : x < 2 ^ 32) : rotN x 32 = x := by
  rw [rotN_eq x hx 32 (Nat.le_refl _), Nat.div_eq_of_lt hx, Nat.mod_eq_of_lt hx]; simp
theorem rotN_mul (x : Nat) (hx : x < 2 ^ 32) : ∀ q, rotN x (32 * q) = x
  | 0 => rfl
  | q + 1 => by rw [Nat.mul_succ, rotN_add, rotN_mul x hx q, rotN_32 x hx]
theorem rotN_mod (x : Nat) (hx : x < 2 ^ 32) (k : Nat) : rotN x k = rotN x (k % 32) := by
  conv => lhs; rw [← Nat.div_add_mod k 32, rotN_add, rotN_mul x hx]
theorem rotI_nat (x : Nat) (n : Int) (hx : x < 2 ^ 32) : rotI (x : Int) n = ((rotN x (n % 32).toNat : Nat) : Int) := by
  rw [rotN_eq x hx _ (by omega)]; unfold rotI; simp
theorem rotI_rotI (x n m : Int) (h0 : 0 ≤ x) (h1 : x < 4294967296) : rotI (rotI x n) m = rotI x (n + m) := by
  obtain ⟨a, rfl⟩ := Int.eq_ofNat_of_zero_le h0
  have ha : a < 2 ^ 32 := by omega
  rw [rotI_nat a n ha, rotI_nat _ m (rotN_lt a ha _), rotI_nat a (n + m) ha, ← rotN_add, rotN_mod a ha]
  congr 2
  omega
theorem rotI_32 (x : Int) : rotI x 32 = x := by unfold rotI; simp [Int.emod_one]
theorem rotI_0 (x : Int) : rotI x 0 = x := by unfold rotI; simp [Int.emod_one]
/-- one round of the document's loop -/
theorem rotI_step (x : Int) (i : Nat) (h0 : 0 ≤ x) (h1 : x < 4294967296) : rotI x ((i : Int) + 1) = rotI x i / 2 + rotI x i % 2 * 2147483648 := by
  obtain ⟨a, rfl⟩ := Int.eq_ofNat_of_zero_le h0
  have ha : a < 2 ^ 32 := by omega
  have e : rotN a (((i : Int) + 1) % 32).toNat = rot1 (rotN a ((i : Int) % 32).toNat) := by
    rw [show rot1 (rotN a ((i : Int) % 32).toNat) = rotN a (((i : Int) % 32).toNat + 1) from rfl, rotN_mod a ha (((i : Int) % 32).toNat + 1)]
    congr 1; omega
  rw [rotI_nat a _ ha, rotI_nat a _ ha, e]
  unfold rot1; simp
theorem rotI_mod (x n : Int) : rotI x (n % 32) = rotI x n := by unfold rotI; rw [Int.emod_emod]
end
section
/-- the number of bytes, the highest first -/
def num (l : List UInt8) : Nat := l.foldl (fun a x => a * 256 + x.toNat) 0
theorem num_snoc (l : List UInt8) (x : UInt8) : num (l ++ [x]) = num l * 256 + x.toNat := by simp [num, List.foldl_append]
theorem take_snoc {α : Type} {l : List α} {k : Nat} {x : α} (h : l[k]? = some x) : l.take (k + 1) = l.take k ++ [x] := by
  obtain ⟨hk, rfl⟩ := List.getElem?_eq_some_iff.1 h
  rw [List.take_succ_eq_append_getElem hk]
theorem num_take {l : List UInt8} {k : Nat} {x : UInt8} (h : l[k]? = some x) : num (l.take (k + 1)) = num (l.take k) * 256 + x.toNat := by rw [take_snoc h, num_snoc]
theorem byte_lt (x : UInt8) : x.toNat < 256 := x.toBitVec.isLt
theorem num_foldl : ∀ (l : List UInt8) (a : Nat), l.foldl (fun a x => a * 256 + x.toNat) a = a * 256 ^ l.length + num l
  | [], a => by simp [num]
  | x :: l, a => by
    unfold num
    rw [List.foldl_cons, List.foldl_cons, num_foldl l, num_foldl l (0 * 256 + x.toNat), List.length_cons, Nat.pow_succ, Nat.add_mul]
    rw [Nat.zero_mul, Nat.zero_add, Nat.mul_assoc, Nat.mul_comm 256, Nat.add_assoc]
theorem num_cons (x : UInt8) (l : List UInt8) : num (x :: l) = x.toNat * 256 ^ l.length + num l := by
  unfold num
  rw [List.foldl_cons, num_foldl]
  simp [num]
theorem num_lt : ∀ l : List UInt8, num l < 256 ^ l.length
  | [] => by decide
  | x :: l => by
    have h := num_lt l
    have hx := byte_lt x
    rw [num_cons, List.length_cons, Nat.pow_succ]
    have : x.toNat * 256 ^ l.length ≤ 255 * 256 ^ l.length := Nat.mul_le_mul_right _ (by omega)
    omega
theorem num_lt' (l : List UInt8) (n : Nat) (h : l.length ≤ n) : num l < 256 ^ n := Nat.lt_of_lt_of_le (num_lt l) (Nat.pow_le_pow_right (by decide) h)
theorem ofInt_u64 (a : Nat) (ha : a < 18446744073709551616) : (BitVec.ofInt 64 (a : Int)).toNat = a := by
  rw [BitVec.ofInt_natCast, BitVec.toNat_ofNat]; exact Nat.mod_eq_of_lt (by omega)
theorem u64_or_nat (a b : Nat) (ha : a < 18446744073709551616) (hb : b < 18446744073709551616) : bits .or .u64 (a : Int) (b : Int) = ((a ||| b : Nat) : Int) := by
  have hx : a ||| b < 2 ^ 64 := Nat.or_lt_two_pow (by omega) (by omega)
  show IntKind.u64.wrap ((BitVec.ofInt 64 (a : Int) ||| BitVec.ofInt 64 (b : Int)).toNat : Int) = _
  rw [BitVec.toNat_or, ofInt_u64 a ha, ofInt_u64 b hb]
  simp [IntKind.wrap, IntKind.bits, IntKind.signed]
  omega
theorem u64_or_byte (N x : Nat) (hN : N < 72057594037927936) (hx : x < 256) : bits .or .u64 ((N : Int) * 256) (x : Int) = ((N * 256 + x : Nat) : Int) := by
  have e : (N : Int) * 256 = ((N * 256 : Nat) : Int) := by omega
  rw [e, u64_or_nat _ _ (by omega) (by omega)]
  congr 1
  have : (N * 256) = 2 ^ 8 * N := by omega
  rw [this, ← Nat.two_pow_add_eq_or_of_lt hx]
/-- the lowest bytes of N, wide of them, the highest first -/
def bytesOf (N wide : Nat) : List UInt8 := (List.range wide).map fun j => UInt8.ofNat (N / 256 ^ (wide - 1 - j))
theorem bytesOf_length (N wide : Nat) : (bytesOf N wide).length = wide := by simp [bytesOf]
theorem bytesOf_get (N wide j : Nat) (h : j < wide) : (bytesOf N wide)[j]? = some (UInt8.ofNat (N / 256 ^ (wide - 1 - j))) := by
  simp [bytesOf, h]
theorem bytesOf_succ (N wide : Nat) : bytesOf N (wide + 1) = UInt8.ofNat (N / 256 ^ wide) :: bytesOf N wide := by
  apply List.ext_getElem?
  intro j
  rcases j with _ | j
  · rw [bytesOf_get _ _ _ (by omega)]; simp
  · rcases Nat.lt_or_ge j wide with h | h
    · rw [bytesOf_get _ _ _ (by omega), List.getElem?_cons_succ, bytesOf_get _ _ _ h]
      congr 4; omega
    · rw [List.getElem?_eq_none (by rw [bytesOf_length]; omega), List.getElem?_cons_succ, List.getElem?_eq_none (by rw [bytesOf_length]; omega)]
/-- there and back: the number of a number's bytes -/
theorem num_bytesOf (N : Nat) : ∀ wide, num (bytesOf N wide) = N % 256 ^ wide
  | 0 => by simp [bytesOf, num, Nat.mod_one]
  | wide + 1 => by
    rw [bytesOf_succ, num_cons, bytesOf_length, num_bytesOf N wide, UInt8.toNat_ofNat', show N % 256 ^ (wide + 1) = N % (256 ^ wide * 256) from rfl, Nat.mod_mul, Nat.mul_comm, Nat.add_comm]
/-- and the bytes of bytes' number -/
theorem bytesOf_num : ∀ l : List UInt8, bytesOf (num l) l.length = l
  | [] => rfl
  | x :: l => by
    rw [List.length_cons, bytesOf_succ, num_cons]
    have hl := num_lt l
    have hx := byte_lt x
    have hp : 0 < 256 ^ l.length := Nat.pow_pos (by decide)
    have e1 : (x.toNat * 256 ^ l.length + num l) / 256 ^ l.length = x.toNat := by
      rw [Nat.mul_comm, Nat.mul_add_div hp, Nat.div_eq_of_lt hl, Nat.add_zero]
    rw [e1, UInt8.ofNat_toNat]
    congr 1
    have : bytesOf (x.toNat * 256 ^ l.length + num l) l.length = bytesOf (num l) l.length := by
      unfold bytesOf
      apply List.map_congr_left
      intro j hj
      have hj' : j < l.length := List.mem_range.1 hj
      have e2 : 256 ^ l.length = 256 ^ (l.length - 1 - j) * 256 ^ (j + 1) := by rw [← Nat.pow_add]; congr 1; omega
      have e3 : (x.toNat * 256 ^ l.length + num l) / 256 ^ (l.length - 1 - j) = 256 * (x.toNat * 256 ^ j) + num l / 256 ^ (l.length - 1 - j) := by
        rw [e2, show x.toNat * (256 ^ (l.length - 1 - j) * 256 ^ (j + 1)) = 256 ^ (l.length - 1 - j) * (x.toNat * 256 ^ (j + 1)) by rw [Nat.mul_left_comm], Nat.mul_add_div (Nat.pow_pos (by decide)), Nat.pow_succ]
        congr 1
        rw [← Nat.mul_assoc, Nat.mul_comm]
      rw [e3]
      apply UInt8.toNat_inj.1
      rw [UInt8.toNat_ofNat', UInt8.toNat_ofNat']
      omega
    rw [this, bytesOf_num l]
end
section
open Go.RowKit
/-- The slice value '.slice A n c' (whatever c) holds the bytes l in the world w. -/
def Bs (w : World) (A : Option Addr) (n : Nat) (l : List UInt8) : Prop :=
  l.length = n ∧ ∀ k x, l[k]? = some x → ∃ b off, A = some ⟨b, off, none⟩ ∧ b < w.heap.size ∧ w.cell? ⟨b, off + k, none⟩ = some (.int .u8 (x.toNat : Int))
theorem Bs.nil (w : World) (A : Option Addr) : Bs w A 0 [] := ⟨rfl, fun k x h => by simp at h⟩
theorem Bs.get {w : World} {A : Option Addr} {n k : Nat} {l : List UInt8} (h : Bs w A n l) (hk : k < n) :
    ∃ b off x, A = some ⟨b, off, none⟩ ∧ b < w.heap.size ∧ l[k]? = some x ∧ w.cell? ⟨b, off + k, none⟩ = some (.int .u8 (x.toNat : Int)) := by
  have hl : k < l.length := by rw [h.1]; exact hk
  obtain ⟨b, off, e, hb, hc⟩ := h.2 k l[k] (List.getElem?_eq_getElem hl)
  exact ⟨b, off, l[k], e, hb, List.getElem?_eq_getElem hl, hc⟩
theorem Bs.keep {w w' : World} {A : Option Addr} {n : Nat} {l : List UInt8} (h : Bs w A n l) (hs : w.heap.size ≤ w'.heap.size) (hc : ∀ p : Addr, p.block < w.heap.size → w'.cell? p = w.cell? p) : Bs w' A n l :=
  ⟨h.1, fun k x hx => by
    obtain ⟨b, off, e, hb, hcell⟩ := h.2 k x hx
    exact ⟨b, off, e, Nat.lt_of_lt_of_le hb hs, (hc ⟨b, off + k, none⟩ hb).trans hcell⟩⟩
theorem Bs.below {w w' : World} {A : Option Addr} {n : Nat} {l : List UInt8} (h : Bs w A n l) (hb : Below w.heap.size w w') : Bs w' A n l := h.keep hb.size fun _ hp => hb.cell hp
theorem Bs.drewN {w : World} {A : Option Addr} {n : Nat} {l : List UInt8} (h : Bs w A n l) (k : Nat) : Bs (w.drewN k) A n l := h
theorem Bs.drew {w : World} {A : Option Addr} {n : Nat} {l : List UInt8} (h : Bs w A n l) : Bs w.drew A n l := h
/-- the first m of them: 'b[:m]' keeps the address -/
theorem Bs.take {w : World} {A : Option Addr} {n m : Nat} {l : List UInt8} (h : Bs w A n l) (hm : m ≤ n) : Bs w A m (l.take m) :=
  ⟨by rw [List.length_take, h.1]; omega, fun k x hx => h.2 k x (by
    rw [List.getElem?_take] at hx
    split at hx
    · exact hx
    · cases hx)⟩
/-- those from m on, where there is one: 'b[m:]' moves the address -/
theorem Bs.drop {w : World} {b off : Nat} {n m : Nat} {l : List UInt8} (h : Bs w (some ⟨b, off, none⟩) n l) : Bs w (some ⟨b, off + m, none⟩) (n - m) (l.drop m) :=
  ⟨by rw [List.length_drop, h.1], fun k x hx => by
    rw [List.getElem?_drop] at hx
    obtain ⟨b', off', e, hb, hc⟩ := h.2 (m + k) x hx
    simp only [Option.some.injEq, Addr.mk.injEq, and_true] at e
    obtain ⟨rfl, rfl⟩ := e
    exact ⟨b, off + m, rfl, hb, by rw [Nat.add_assoc]; exact hc⟩⟩
/-- nothing lies anywhere -/
theorem Bs.empty {w : World} {A : Option Addr} {n : Nat} {l : List UInt8} (h : Bs w A n l) (h0 : n = 0) : l = [] := List.eq_nil_of_length_eq_zero (by rw [h.1]; exact h0)
/-- out of what a row's reading gives -/
theorem Bs.of_ints {w : World} {x : Addr} {len cap : Nat} {zs : List Int} (hl : len ≤ cap) (hz : zs.length = cap)
    (hcell : ∀ i, i < zs.length → w.cell? (x.add i) = some (.int .u8 (zs.getD i 0))) (hwz : ∀ n ∈ zs, (Lit.int .u8 n).wf = true) :
    Bs w (some x) len ((zs.take len).map fun z => UInt8.ofNat z.toNat) := by
  refine ⟨by simp; omega, fun k y hy => ?_⟩
  rw [List.getElem?_map, List.getElem?_take] at hy
  split at hy
  · rename_i hk
    have hkz : k < zs.length := by omega
    rw [List.getElem?_eq_getElem hkz] at hy
    simp only [Option.map_some, Option.some.injEq] at hy
    have hw := bounds_u8 (hwz zs[k] (List.getElem_mem hkz))
    have h0 := hcell 0 (by omega)
    have hc := hcell k hkz
    obtain ⟨b, off, spot⟩ := x
    have hspot : spot = none := by simpa [Addr.add] using World.cell?_spot h0
    subst hspot
    refine ⟨b, off, rfl, ?_, ?_⟩
    · have := World.block_lt_of_cell? w _ h0
      simpa [Addr.add] using this
    · have e : (⟨b, off, none⟩ : Addr).add k = ⟨b, off + k, none⟩ := by
        unfold Addr.add; split
        · rename_i h; subst h; rfl
        · rfl
      rw [e] at hc
      rw [hc, ← hy]
      have e2 : zs.getD k 0 = zs[k] := by simp [hkz]
      rw [e2]
      congr 2
      have e3 : (UInt8.ofNat zs[k].toNat).toNat = zs[k].toNat := by
        rw [UInt8.toNat_ofNat']; exact Nat.mod_eq_of_lt (by have := hw.2; omega)
      rw [e3]
      omega
  · cases hy
/-- a row of bytes of the call's own: 'v' is the slice, its block is at base or above -/
def Own (w : World) (base : Nat) (e : TypeId) (v : Value) (n : Nat) (l : List UInt8) : Prop := w.ownsRow base e 1 v n (l.map fun x => .int .u8 (x.toNat : Int))
theorem Own.nil (w : World) (base : Nat) (e : TypeId) : Own w base e (.slice none 0 0) 0 [] := World.ownsRow_nil w base e 1
theorem Own.length {w : World} {base : Nat} {e : TypeId} {v : Value} {n : Nat} {l : List UInt8} (h : Own w base e v n l) : l.length = n := by
  have := h.1; simpa using this
theorem Own.bs {w : World} {base : Nat} {e : TypeId} {A : Option Addr} {n m c : Nat} {l : List UInt8} (h : Own w base e (.slice A n c) m l) : Bs w A n l := by
  have hlen := h.length
  rcases h.2 with ⟨hv, hn⟩ | ⟨g, cap, cur, hv, _, hg, hnc, _, hcs, ht⟩
  · injection hv with h1 h2 h3
    subst h1 h2 h3
    rw [hn] at hlen
    rw [List.eq_nil_of_length_eq_zero hlen]
    exact Bs.nil w none
  · injection hv with h1 h2 h3
    subst h1 h2 h3
    refine ⟨hlen, fun k x hx => ⟨g, 0, rfl, (Array.getElem?_eq_some_iff.1 hg).1, ?_⟩⟩
    have := h.cells (g := g) rfl k (.int .u8 (x.toNat : Int)) (by rw [List.getElem?_map, hx]; rfl)
    rw [Nat.zero_add]
    have e : (⟨g, 0, none⟩ : Addr).add k = ⟨g, k, none⟩ := by
      unfold Addr.add; split
      · rename_i h; subst h; rfl
      · simp
    rwa [e] at this
theorem Own.form {w : World} {base : Nat} {e : TypeId} {v : Value} {n : Nat} {l : List UInt8} (h : Own w base e v n l) : ∃ A c, v = .slice A n c ∧ n ≤ c := by
  rcases h.2 with ⟨hv, hn⟩ | ⟨g, cap, cur, hv, _, hg, hnc, _, hcs, ht⟩
  · exact ⟨none, 0, by rw [hv, hn], by omega⟩
  · exact ⟨_, _, hv, hnc⟩
theorem Own.mono {w : World} {base base' : Nat} {e : TypeId} {v : Value} {n : Nat} {l : List UInt8} (h : Own w base e v n l) (hb : base' ≤ base) : Own w base' e v n l := by
  refine ⟨h.1, ?_⟩
  rcases h.2 with h0 | ⟨g, cap, cur, hv, hge, hr⟩
  · exact .inl h0
  · exact .inr ⟨g, cap, cur, hv, Nat.le_trans hb hge, hr⟩
/-- block g is just the cells cs, of element type t, none of them frozen -/
def Row (w : World) (g : Nat) (t : TypeId) (cs : Array Value) : Prop := w.heap[g]? = some (.cells cs t (0, 0))
theorem Row.lt {w : World} {g : Nat} {t : TypeId} {cs : Array Value} (h : Row w g t cs) : g < w.heap.size := (Array.getElem?_eq_some_iff.1 h).1
theorem Row.cell {w : World} {g : Nat} {t : TypeId} {cs : Array Value} (h : Row w g t cs) (i : Nat) : w.cell? ⟨g, i, none⟩ = cs[i]? := cell_of_row w g i cs t (0, 0) h
theorem Row.frozen {w : World} {g : Nat} {t : TypeId} {cs : Array Value} (h : Row w g t cs) (i : Nat) : w.frozen? ⟨g, i, none⟩ = false := by
  unfold Row at h; simp [World.frozen?, h]
theorem Row.new (w : World) (t : TypeId) (cs : Array Value) : Row (w.alloc (.cells cs t)) w.heap.size t cs := heap_alloc_new w _
theorem Row.set {w : World} {g : Nat} {t : TypeId} {cs : Array Value} (h : Row w g t cs) (i : Nat) (u : Value) : Row (w.setCell ⟨g, i, none⟩ u) g t (cs.setIfInBounds i u) := by
  unfold Row at h ⊢; simp [World.setCell, Array.getElem?_modify, h]
theorem Row.below {B : Nat} {w w' : World} {g : Nat} {t : TypeId} {cs : Array Value} (h : Row w g t cs) (hb : Below B w w') (hg : g < B) : Row w' g t cs := (hb.block g hg).trans h
theorem Row.far {w : World} {g : Nat} {t : TypeId} {cs : Array Value} (h : Row w g t cs) {p : Addr} (hp : g ≠ p.block) (u : Value) : Row (w.setCell p u) g t cs := (Below.heap_setCell w p u g hp).trans h
theorem Row.alloc {w : World} {g : Nat} {t : TypeId} {cs : Array Value} (h : Row w g t cs) (o : Obj) : Row (w.alloc o) g t cs := (Below.heap_alloc w o g h.lt).trans h
theorem Row.drewN {w : World} {g : Nat} {t : TypeId} {cs : Array Value} (h : Row w g t cs) (k : Nat) : Row (w.drewN k) g t cs := h
/-- a row that holds bytes -/
theorem Row.own {w : World} {base g n : Nat} {t : TypeId} {cs : Array Value} {l : List UInt8} (h : Row w g t cs) (hb : base ≤ g) (hl : l.length = n) (hs : cs.size = n) (hn : n ≤ 9223372036854775807)
    (hc : ∀ (j : Nat) (x : UInt8), l[j]? = some x → cs[j]? = some (.int .u8 (x.toNat : Int))) : Own w base t (.slice (some ⟨g, 0, none⟩) n n) n l := by
  refine ⟨by simp [hl], .inr ⟨g, n, cs, rfl, hb, h, Nat.le_refl _, by simp only [maxLen]; omega, by omega, ?_⟩⟩
  apply List.ext_getElem?
  intro j
  rw [Nat.mul_one, List.getElem?_take, List.getElem?_map]
  rcases hj : l[j]? with _ | x
  · have hge : l.length ≤ j := List.getElem?_eq_none_iff.1 hj
    rw [if_neg (by omega)]; rfl
  · have hlt : j < l.length := (List.getElem?_eq_some_iff.1 hj).1
    rw [if_pos (by omega), Array.getElem?_toList, hc j x hj]; rfl
/-- the types '[]byte' (t) and 'byte' (e) of a program -/
structure ByteTypes (P : Program) (t e : TypeId) : Prop where
  ht : P.underlying t = some (.slice e)
  hi : (P.info? e).map (fun i => (i.zero, i.size, i.bytes)) = some (some (.int .u8 0), 1, 1)
section
variable {P : Program}
/-- append(v, x...) where v is a row of the call's own and x whatever slice of bytes, nil let in -/
theorem run_app {t e : TypeId} (T : ByteTypes P t e) (ty : TypeId) (w : World) (base : Nat) (v : Value) (n : Nat) (xs : List UInt8) (hown : Own w base e v n xs)
    (A : Option Addr) (m c : Nat) (l : List UInt8) (hr : Bs w A m l) (hb : n + m ≤ 140737488355328) (hbase : base ≤ w.heap.size) :
    ∃ A' c' w', (Builtin.append_ #[t, t] ty #[v, .slice A m c]).run P w = .ok (.slice A' (n + m) c') w' ∧ Own w' base e (.slice A' (n + m) c') (n + m) (xs ++ l) ∧ Below base w w' ∧ w.grownBy w' v.ownBlock := by
  obtain ⟨i, hi, hz, hsize, hby⟩ := info_parts T.hi
  have hbel : ∀ {w' : World}, w.grownBy w' v.ownBlock → Below base w w' := fun hg =>
    (Below.refl base w).grown hg hbase fun k hk => (hown.lt k hk).1
  rcases Nat.eq_zero_or_pos m with h0 | h0
  · subst h0
    obtain rfl := hr.empty rfl
    have hrun : (Builtin.append_ #[t, t] ty #[v, .slice A 0 c]).run P w = .ok v w := by
      rcases hown.2 with ⟨rfl, rfl⟩ | ⟨g, cap, cur, rfl, _, _, hnc, _⟩
      · rcases A with _ | a
        · simp [Builtin.append_, run_underlying T.ht, sizeOf, typeInfo, hi, Builtin.lenOf, Builtin.firstCells]
        · simp [Builtin.append_, run_underlying T.ht, sizeOf, typeInfo, hi, Builtin.lenOf, Builtin.firstCells, loadCells, loadCellsFrom]
      · rcases A with _ | a
        · simp [Builtin.append_, run_underlying T.ht, sizeOf, typeInfo, hi, Builtin.lenOf, Builtin.firstCells, hnc, storeCells]
        · simp [Builtin.append_, run_underlying T.ht, sizeOf, typeInfo, hi, Builtin.lenOf, Builtin.firstCells, hnc, storeCells, loadCells, loadCellsFrom]
    obtain ⟨A', c', rfl, _⟩ := hown.form
    exact ⟨A', c', w, hrun, by simpa using hown, Below.refl _ _, ⟨rfl, rfl, rfl, Nat.le_refl _, fun _ _ _ => rfl⟩⟩
  · obtain ⟨b, off, x, rfl, hblt, hx, hc⟩ := hr.get h0
    have hcells : ∀ j u, (l.map fun x => Value.int .u8 (x.toNat : Int))[j]? = some u → w.cell? ((⟨b, off, none⟩ : Addr).add j) = some u := by
      intro j u hu
      rw [List.getElem?_map] at hu
      rcases hj : l[j]? with _ | y
      · rw [hj] at hu; cases hu
      · rw [hj] at hu
        simp only [Option.map_some, Option.some.injEq] at hu
        obtain ⟨b', off', e', _, hc'⟩ := hr.2 j y hj
        simp only [Option.some.injEq, Addr.mk.injEq, and_true] at e'
        obtain ⟨rfl, rfl⟩ := e'
        have e : (⟨b, off, none⟩ : Addr).add j = ⟨b, off + j, none⟩ := by
          unfold Addr.add; split
          · rename_i h; subst h; rfl
          · rfl
        rw [e, hc', hu]
    obtain ⟨v', w', hrun, h2, h3, _, h5⟩ := run_append_own_at (P := P) w base t ty e i (.int .u8 0) 1 1 T.ht hi hz hsize hby rfl (by omega) v n _ hown ⟨b, off, none⟩ m c _ (by simp [hr.1]) hcells
      (by intro u hu; simp only [List.mem_map] at hu; obtain ⟨y, _, rfl⟩ := hu; rfl) (by simp only [maxLen]; omega) (by omega) hbase
    have h2' : Own w' base e v' (n + m) (xs ++ l) := by unfold Own; rw [List.map_append]; exact h2
    obtain ⟨A', c', rfl, _⟩ := h2'.form
    exact ⟨A', c', w', hrun, h2', hbel h3, h3⟩
/-- the same at the operation, for the walk -/
theorem wpList_app {t e : TypeId} (T : ByteTypes P t e) {w : World} {ops : Array Oper} {rest : List Oper} {o : Oper} {a : Act} {Q : Exit → Act → World → Prop} (hgd : o.guard = none) (s x : Operand)
    (ho : o.op = .call { callee := .builtin .append, args := #[s, x], argTypes := #[t, t] })
    (base : Nat) (v : Value) (n : Nat) (xs : List UInt8) (hs : a.eval s = v) (hown : Own w base e v n xs)
    (A : Option Addr) (m c : Nat) (l : List UInt8) (hx : a.eval x = .slice A m c) (hr : Bs w A m l) (hb : n + m ≤ 140737488355328) (hbase : base ≤ w.heap.size)
    (h : ∀ A' c' w', Own w' base e (.slice A' (n + m) c') (n + m) (xs ++ l) → Below base w w' → w.grownBy w' v.ownBlock → wpList P ops Q rest (a.put o.dst (.slice A' (n + m) c')) w') :
    wpList P ops Q (o :: rest) a w := by
  refine wpList_plain hgd fun K hK => ?_
  obtain ⟨A', c', w', hrun, h2, h3, h4⟩ := run_app T o.type w base v n xs hown A m c l hr hb hbase
  unfold Oper.wp execOp
  simp only [ho, resolve, invoke, builtin, Sem.run_bind, Sem.run_pure, Result.andThen_ok, List.map_toArray, List.map_cons, List.map_nil, hs, hx, hrun]
  exact hK _ _ (h A' c' w' h2 h3 h4)
end
end
section
open Go.RowKit
theorem ret_int {k : IntKind} {a b : Int} (h : a = b) : Ending.returned (.int k a) = .returned (.int k b) := by rw [h]
set_option maxHeartbeats 400000 in
theorem Rot_any (x n : Int) (w : World) (hx0 : 0 ≤ x) (hx : x < 4294967296) :
    Calls Tryd.prog 108 #[.int .u32 x, .int .i64 n] w fun e w' => e = .returned (.int .u32 (rotI x n)) ∧ w = w' := by
  obtain ⟨k, hk⟩ : ∃ k : Nat, n % 32 = k := ⟨(n % 32).toNat, by omega⟩
  have hk32 : k < 32 := by omega
  have hend := Lib.hid (rot_prog x n k hx0 hx hk)
  have hmod : (IntKind.u64.wrap n).tmod 32 = k := by rw [u64_mod32, hk]
  clear hk
  go_enter Tryd.func108, Tryd.ntmps108
  go_wp2
  go_ret
  exact ⟨ret_int hend.out, rfl⟩
theorem tmod_cases (n : Int) : ∃ t : Int, n.tmod 32 = t ∧ -32 < t ∧ t < 32 ∧ (t < 0 → n % 32 = t + 32) ∧ (0 ≤ t → n % 32 = t) := by
  refine ⟨n.tmod 32, rfl, ?_, ?_, ?_, ?_⟩ <;> rcases Int.le_total 0 n with h | h
  all_goals first
    | (rw [Int.tmod_eq_emod_of_nonneg h]; omega)
    | (obtain ⟨m, hm⟩ : ∃ m, n = -m := ⟨-n, by omega⟩
       subst hm
       rw [Int.neg_tmod, Int.tmod_eq_emod_of_nonneg (by omega)]; omega)
set_option maxHeartbeats 400000 in
theorem RefRot_any (x n : Int) (w : World) (hx0 : 0 ≤ x) (hx : x < 4294967296) :
    Calls Tryd.prog 87 #[.int .u32 x, .int .i64 n] w fun e w' => e = .returned (.int .u32 (rotI x n)) ∧ w = w' := by
  obtain ⟨t, ht, ht1, ht2, hneg, hpos⟩ := tmod_cases n
  by_cases h : t < 0
  · have hd : decide (t < 0) = true := by simpa using h
    obtain ⟨k, hk⟩ : ∃ k : Nat, t + 32 = k := ⟨(t + 32).toNat, by omega⟩
    have hk32 : k < 32 := by omega
    have HE := Lib.hid (show n % 32 = k by rw [hneg h, hk])
    clear hneg hpos
    go_enter Tryd.func87, Tryd.ntmps87
    go_wp2
    go_loop [0, 5] (fun x' i => ∃ j : Nat, j ≤ k ∧ i = .int .i64 j ∧ x' = .int .u32 (rotI x j)) (fun _ i => k - (intOf i).toNat)
    case atStart => exact ⟨0, Nat.zero_le _, rfl, by simp [rotI_0]⟩
    case round =>
      obtain ⟨j, hj, rfl, rfl⟩ := hrel
      have hr := rotI_lt x j hx0 hx
      have hst := Lib.hid (rotI_step x j hx0 hx)
      by_cases hlt : j < k
      · go_wp2
        go_round
        case rel => exact ⟨j + 1, by omega, by go_num, by rw [show ((j + 1 : Nat) : Int) = (j : Int) + 1 from rfl, hst.out]⟩
        case measure => simp [intOf]; omega
      · go_wp2
        go_ret
        have : j = k := by omega
        exact ⟨ret_int (by rw [this, ← HE.out, rotI_mod]), rfl⟩
  · have hd : decide (t < 0) = false := by simpa using h
    obtain ⟨k, rfl⟩ : ∃ k : Nat, t = k := ⟨t.toNat, by omega⟩
    have hk32 : k < 32 := by omega
    have HE := Lib.hid (show n % 32 = k by rw [hpos (by omega)])
    clear hneg hpos
    go_enter Tryd.func87, Tryd.ntmps87
    go_wp2
    go_loop [0, 5] (fun x' i => ∃ j : Nat, j ≤ k ∧ i = .int .i64 j ∧ x' = .int .u32 (rotI x j)) (fun _ i => k - (intOf i).toNat)
    case atStart => exact ⟨0, Nat.zero_le _, rfl, by simp [rotI_0]⟩
    case round =>
      obtain ⟨j, hj, rfl, rfl⟩ := hrel
      have hr := rotI_lt x j hx0 hx
      have hst := Lib.hid (rotI_step x j hx0 hx)
      by_cases hlt : j < k
      · go_wp2
        go_round
        case rel => exact ⟨j + 1, by omega, by go_num, by rw [show ((j + 1 : Nat) : Int) = (j : Int) + 1 from rfl, hst.out]⟩
        case measure => simp [intOf]; omega
      · go_wp2
        go_ret
        have : j = k := by omega
        exact ⟨ret_int (by rw [this, ← HE.out, rotI_mod]), rfl⟩
end
section
open Go.RowKit
def add32 (a b : Int) : Int := (a + b) % 4294967296
def chW (x y z : Int) : Int := bits .xor .u32 (bits .and .u32 x y) (bits .and .u32 (bits .xor .u32 IntKind.u32.max x) z)
def majW (x y z : Int) : Int := bits .xor .u32 (bits .xor .u32 (bits .and .u32 x y) (bits .and .u32 x z)) (bits .and .u32 y z)
def bS0 (x : Int) : Int := bits .xor .u32 (bits .xor .u32 (rotI x 2) (rotI x 13)) (rotI x 22)
def bS1 (x : Int) : Int := bits .xor .u32 (bits .xor .u32 (rotI x 6) (rotI x 11)) (rotI x 25)
def sS0 (x : Int) : Int := bits .xor .u32 (bits .xor .u32 (rotI x 7) (rotI x 18)) (x / 8)
def sS1 (x : Int) : Int := bits .xor .u32 (bits .xor .u32 (rotI x 17) (rotI x 19)) (x / 1024)
def kList : List Int := [1116352408, 1899447441, 3049323471, 3921009573, 961987163, 1508970993, 2453635748, 2870763221, 3624381080, 310598401, 607225278, 1426881987, 1925078388, 2162078206, 2614888103, 3248222580, 3835390401, 4022224774, 264347078, 604807628, 770255983, 1249150122, 1555081692, 1996064986, 2554220882, 2821834349, 2952996808, 3210313671, 3336571891, 3584528711, 113926993, 338241895, 666307205, 773529912, 1294757372, 1396182291, 1695183700, 1986661051, 2177026350, 2456956037, 2730485921, 2820302411, 3259730800, 3345764771, 3516065817, 3600352804, 4094571909, 275423344, 430227734, 506948616, 659060556, 883997877, 958139571, 1322822218, 1537002063, 1747873779, 1955562222, 2024104815, 2227730452, 2361852424, 2428436474, 2756734187, 3204031479, 3329325298]
def kAt (t : Nat) : Int := kList.getD t 0
/-- a word fits -/
def W32 (x : Int) : Prop := 0 ≤ x ∧ x < 4294967296
theorem bits_W32 (op : BinOp) (a b : Int) : W32 (bits op .u32 a b) := by
  have := bounds_u32 (wf_bits op .u32 a b)
  unfold W32; omega
theorem add32_W32 (a b : Int) : W32 (add32 a b) := by unfold add32 W32; omega
theorem rotI_W32 (x n : Int) (h : W32 x) : W32 (rotI x n) := rotI_lt x n h.1 h.2
theorem kAt_W32 (t : Nat) : W32 (kAt t) := by
  unfold kAt
  by_cases h : t < 64
  · have : ∀ t : Fin 64, 0 ≤ kList.getD t.val 0 ∧ kList.getD t.val 0 < 4294967296 := by decide
    exact this ⟨t, h⟩
  · rw [List.getD_eq_getElem?_getD, List.getElem?_eq_none (by have : kList.length = 64 := rfl; omega)]; exact ⟨by decide, by decide⟩
/-- eight words -/
structure S8 where
  (a b c d e f g h : Int)
def S8.ok (s : S8) : Prop := W32 s.a ∧ W32 s.b ∧ W32 s.c ∧ W32 s.d ∧ W32 s.e ∧ W32 s.f ∧ W32 s.g ∧ W32 s.h
def t1W (k w : Int) (s : S8) : Int := add32 (add32 (add32 (add32 s.h (bS1 s.e)) (chW s.e s.f s.g)) k) w
def t2W (s : S8) : Int := add32 (bS0 s.a) (majW s.a s.b s.c)
def rnd (k w : Int) (s : S8) : S8 := ⟨add32 (t1W k w s) (t2W s), s.a, s.b, s.c, add32 s.d (t1W k w s), s.e, s.f, s.g⟩
def rounds (W : List Int) (s : S8) : Nat → S8
  | 0 => s
  | t + 1 => rnd (kAt t) (W.getD t 0) (rounds W s t)
def plus (s r : S8) : S8 := ⟨add32 s.a r.a, add32 s.b r.b, add32 s.c r.c, add32 s.d r.d, add32 s.e r.e, add32 s.f r.f, add32 s.g r.g, add32 s.h r.h⟩
def workS (s : S8) (W : List Int) : S8 := plus s (rounds W s 64)
theorem rnd_ok (k w : Int) (s : S8) (h : s.ok) : (rnd k w s).ok := by
  obtain ⟨h1, h2, h3, h4, h5, h6, h7, h8⟩ := h
  exact ⟨add32_W32 _ _, h1, h2, h3, add32_W32 _ _, h5, h6, h7⟩
theorem plus_ok (s r : S8) : (plus s r).ok := ⟨add32_W32 _ _, add32_W32 _ _, add32_W32 _ _, add32_W32 _ _, add32_W32 _ _, add32_W32 _ _, add32_W32 _ _, add32_W32 _ _⟩
theorem rounds_ok (W : List Int) (s : S8) (h : s.ok) : ∀ t, (rounds W s t).ok
  | 0 => h
  | t + 1 => rnd_ok _ _ _ (rounds_ok W s h t)
theorem workS_ok (s : S8) (W : List Int) : (workS s W).ok := plus_ok _ _
/-- the words of all rounds, of a block's bytes -/
def nextW (l : List UInt8) (t : Nat) (p : List Int) : Int :=
  if t < 16 then (num ((l.drop (4 * t)).take 4) : Int)
  else add32 (add32 (add32 (sS1 (p.getD (t - 2) 0)) (p.getD (t - 7) 0)) (sS0 (p.getD (t - 15) 0))) (p.getD (t - 16) 0)
def wList (l : List UInt8) : Nat → List Int
  | 0 => []
  | t + 1 => wList l t ++ [nextW l t (wList l t)]
theorem wList_length (l : List UInt8) : ∀ t, (wList l t).length = t
  | 0 => rfl
  | t + 1 => by rw [wList, List.length_append, wList_length l t]; rfl
theorem wList_get (l : List UInt8) (t j : Nat) (h : j < t) : (wList l (t + 1)).getD j 0 = (wList l t).getD j 0 := by
  rw [wList, List.getD_eq_getElem?_getD, List.getElem?_append_left (by rw [wList_length]; exact h), ← List.getD_eq_getElem?_getD]
theorem wList_last (l : List UInt8) (t : Nat) : (wList l (t + 1)).getD t 0 = nextW l t (wList l t) := by
  rw [wList, List.getD_eq_getElem?_getD, List.getElem?_append_right (by rw [wList_length]; exact Nat.le_refl _), wList_length, Nat.sub_self]; rfl
theorem num4_W32 (l : List UInt8) : W32 ((num (l.take 4) : Nat) : Int) := by
  have := num_lt' (l.take 4) 4 (by rw [List.length_take]; omega)
  unfold W32; omega
theorem nextW_W32 (l : List UInt8) (t : Nat) (p : List Int) : W32 (nextW l t p) := by
  unfold nextW; split
  · exact num4_W32 _
  · exact add32_W32 _ _
theorem wList_W32 (l : List UInt8) : ∀ t j, W32 ((wList l t).getD j 0)
  | 0, j => ⟨by simp [wList], by simp [wList]⟩
  | t + 1, j => by
    by_cases h : j < t
    · rw [wList_get l t j h]; exact wList_W32 l t j
    · by_cases e : j = t
      · subst e; rw [wList_last]; exact nextW_W32 _ _ _
      · rw [List.getD_eq_getElem?_getD, List.getElem?_eq_none (by rw [wList_length]; omega)]; exact ⟨by decide, by decide⟩
def blockS (s : S8) (l : List UInt8) : S8 := workS s (wList l 64)
theorem blockS_ok (s : S8) (l : List UInt8) : (blockS s l).ok := workS_ok _ _
def firstS : S8 := ⟨1779033703, 3144134277, 1013904242, 2773480762, 1359893119, 2600822924, 528734635, 1541459225⟩
theorem firstS_ok : firstS.ok := by unfold firstS S8.ok W32; decide
/-- behind the first k blocks -/
def compN (l : List UInt8) : Nat → S8
  | 0 => firstS
  | k + 1 => blockS (compN l k) ((l.drop (64 * k)).take 64)
theorem compN_ok (l : List UInt8) : ∀ k, (compN l k).ok
  | 0 => firstS_ok
  | _ + 1 => blockS_ok _ _
theorem compN_append (l m : List UInt8) : ∀ k, 64 * k ≤ l.length → compN (l ++ m) k = compN l k
  | 0, _ => rfl
  | k + 1, h => by
    rw [compN, compN, compN_append l m k (by omega), List.drop_append_of_le_length (by omega), List.take_append_of_le_length (by rw [List.length_drop]; omega)]
def padZ (n : Nat) : Nat := 63 - (n + 8) % 64
def padL (n : Nat) : List UInt8 := 128 :: (List.replicate (padZ n) 0 ++ bytesOf (8 * n) 8)
theorem padL_length (n : Nat) : (padL n).length = 9 + padZ n := by
  simp [padL, bytesOf_length]; omega
def digestS (s : S8) : List UInt8 := bytesOf s.a.toNat 4 ++ bytesOf s.b.toNat 4 ++ bytesOf s.c.toNat 4 ++ bytesOf s.d.toNat 4 ++ bytesOf s.e.toNat 4 ++ bytesOf s.f.toNat 4 ++ bytesOf s.g.toNat 4 ++ bytesOf s.h.toNat 4
theorem digestS_length (s : S8) : (digestS s).length = 32 := by simp [digestS, bytesOf_length]
/-- how many blocks there are, filled up -/
def blocksN (n : Nat) : Nat := (n + 9 + padZ n) / 64
theorem blocksN_eq (n : Nat) : 64 * blocksN n = n + 9 + padZ n := by unfold blocksN padZ; omega
def sumL (l : List UInt8) : List UInt8 := digestS (compN (l ++ padL l.length) (blocksN l.length))
theorem sumL_length (l : List UInt8) : (sumL l).length = 32 := digestS_length _
end
section
open Go.RowKit
set_option maxHeartbeats 400000 in
theorem choose_any (x y z : Int) (w : World) :
    Calls Tryd.prog 102 #[.int .u32 x, .int .u32 y, .int .u32 z] w fun e w' => e = .returned (.int .u32 (chW x y z)) ∧ w = w' := by
  have hs : IntKind.u32.signed = false := rfl
  go_enter Tryd.func102, Tryd.ntmps102
  go_wp2
  go_ret
  exact ⟨rfl, rfl⟩
set_option maxHeartbeats 400000 in
theorem majority_any (x y z : Int) (w : World) :
    Calls Tryd.prog 104 #[.int .u32 x, .int .u32 y, .int .u32 z] w fun e w' => e = .returned (.int .u32 (majW x y z)) ∧ w = w' := by
  go_enter Tryd.func104, Tryd.ntmps104
  go_wp2
  go_ret
  exact ⟨rfl, rfl⟩
set_option maxHeartbeats 400000 in
theorem bS0_any (x : Int) (w : World) (hx0 : 0 ≤ x) (hx : x < 4294967296) :
    Calls Tryd.prog 103 #[.int .u32 x] w fun e w' => e = .returned (.int .u32 (bS0 x)) ∧ w = w' := by
  go_enter Tryd.func103, Tryd.ntmps103
  go_wp2_with (go_at_call 108; refine (Rot_any _ _ _ hx0 hx).mono ?_; rintro e w' ⟨rfl, rfl⟩)
  go_ret
  exact ⟨rfl, rfl⟩
set_option maxHeartbeats 400000 in
theorem bS1_any (x : Int) (w : World) (hx0 : 0 ≤ x) (hx : x < 4294967296) :
    Calls Tryd.prog 101 #[.int .u32 x] w fun e w' => e = .returned (.int .u32 (bS1 x)) ∧ w = w' := by
  go_enter Tryd.func101, Tryd.ntmps101
  go_wp2_with (go_at_call 108; refine (Rot_any _ _ _ hx0 hx).mono ?_; rintro e w' ⟨rfl, rfl⟩)
  go_ret
  exact ⟨rfl, rfl⟩
set_option maxHeartbeats 400000 in
theorem sS0_any (x : Int) (w : World) (hx0 : 0 ≤ x) (hx : x < 4294967296) :
    Calls Tryd.prog 107 #[.int .u32 x] w fun e w' => e = .returned (.int .u32 (sS0 x)) ∧ w = w' := by
  go_enter Tryd.func107, Tryd.ntmps107
  go_wp2_with (go_at_call 108; refine (Rot_any _ _ _ hx0 hx).mono ?_; rintro e w' ⟨rfl, rfl⟩)
  go_ret
  exact ⟨rfl, rfl⟩
set_option maxHeartbeats 400000 in
theorem sS1_any (x : Int) (w : World) (hx0 : 0 ≤ x) (hx : x < 4294967296) :
    Calls Tryd.prog 106 #[.int .u32 x] w fun e w' => e = .returned (.int .u32 (sS1 x)) ∧ w = w' := by
  go_enter Tryd.func106, Tryd.ntmps106
  go_wp2_with (go_at_call 108; refine (Rot_any _ _ _ hx0 hx).mono ?_; rintro e w' ⟨rfl, rfl⟩)
  go_ret
  exact ⟨rfl, rfl⟩
/-- eight words, as a value -/
def v8 (s : S8) : Value := .agg #[.int .u32 s.a, .int .u32 s.b, .int .u32 s.c, .int .u32 s.d, .int .u32 s.e, .int .u32 s.f, .int .u32 s.g, .int .u32 s.h]
/-- words, as cells -/
def wcells (l : List Int) : Array Value := (l.map fun x => Value.int .u32 x).toArray
theorem wcells_size (l : List Int) : (wcells l).size = l.length := by simp [wcells]
theorem wcells_get (l : List Int) (t : Nat) (h : t < l.length) : (wcells l)[t]? = some (.int .u32 (l.getD t 0)) := by
  simp [wcells, h]
/-- the table in block b holds the constants -/
def Tab (b : Nat) (w : World) : Prop := b < w.heap.size ∧ ∀ t, t < 64 → w.cell? ⟨b, t, none⟩ = some (.int .u32 (kAt t))
theorem Tab.below {b : Nat} {w w' : World} (h : Tab b w) (hb : Below w.heap.size w w') : Tab b w' :=
  ⟨Nat.lt_of_lt_of_le h.1 hb.size, fun t ht => (hb.cell (p := ⟨b, t, none⟩) h.1).trans (h.2 t ht)⟩
end
section
open Go.RowKit
theorem Tryd.byteTypes : ByteTypes Tryd.prog 32 5 := ⟨Tryd.underlying32, by kernel_rfl⟩
theorem made_byte (P : Program) {t e : TypeId} (T : ByteTypes P t e) (n : Nat) (hn : n ≤ 140737488355328) (w : World) :
    (Instr.makeSlice t (.int .i64 (n : Int)) (.int .i64 (n : Int))).run P w = .ok (.slice (some ⟨w.heap.size, 0, none⟩) n n) (w.alloc (.cells (madeCells #[.int .u8 0] n) e)) := by
  obtain ⟨i, hi, hz, hsize, hby⟩ := info_parts T.hi
  have hr := run_make (P := P) w t e i (.int .u8 0) T.ht hi hz .i64 .i64 n n (by omega) (by omega) (by rw [hby]; omega) (by omega)
  simp only [Int.toNat_natCast, hsize, Nat.mul_one] at hr
  exact hr
theorem byte_at (N k : Nat) : (N : Int) / 2 ^ (8 * k) % 256 = ((UInt8.ofNat (N / 256 ^ k)).toNat : Int) := by
  have e : (2 : Nat) ^ (8 * k) = 256 ^ k := by rw [Nat.pow_mul]
  rw [UInt8.toNat_ofNat', ← e]
  simp
/-- a slice of bytes in new memory, and no error: the bytes are l -/
def NewBytes (w : World) (t : TypeId) (W : Nat) (l : List UInt8) (e : Ending) (w' : World) : Prop :=
  ∃ A c, e = .returned (.tuple #[.slice A W c, .int .i64 0]) ∧ Own w' w.heap.size t (.slice A W c) W l ∧ Below w.heap.size w w'
set_option maxHeartbeats 400000 in
theorem Bytes_ok (N W : Nat) (w : World) (_hN : N < 18446744073709551616) (hW : W ≤ 8) :
    Calls Tryd.prog 84 #[.int .u64 (N : Int), .int .i64 (W : Int)] w (NewBytes w 5 W (bytesOf N W)) := by
  have hmk := made_byte Tryd.prog Tryd.byteTypes W (by omega)
  go_enter Tryd.func84, Tryd.ntmps84
  go_wp2
  go_loopw [17] (fun i wr => ∃ k : Nat, k ≤ W ∧ i = .int .i64 k ∧ Below w.heap.size w wr ∧ ∃ cs : Array Value, Row wr w.heap.size 5 cs ∧ cs.size = W ∧ ∀ j, j < W → W ≤ j + k → cs[j]? = some (.int .u8 ((UInt8.ofNat (N / 256 ^ (W - 1 - j))).toNat : Int))) (fun i _ => W - (intOf i).toNat)
  case atStart =>
    refine ⟨0, Nat.zero_le _, rfl, (Below.refl _ _).alloc (Nat.le_refl _) _, _, Row.new _ _ _, size_madeCells _ _, fun j h1 h2 => by omega⟩
  case round =>
    obtain ⟨k, hk, rfl, hbel, cs, hrow, hsz, hcs⟩ := hrel
    by_cases hlt : k < W
    · have hcell := hrow.cell (W - 1 - k)
      have hfz := hrow.frozen (W - 1 - k)
      have hin : W - 1 - k < cs.size := by omega
      rw [Array.getElem?_eq_getElem hin] at hcell
      have HB := Lib.hid (byte_at N k)
      have HC := Lib.hid hcs
      have HS := Lib.hid hsz
      clear hcs hsz
      go_wp2
      go_roundw
      case rel =>
        refine ⟨k + 1, by omega, by go_num, hbel.setCell (Nat.le_refl _) _, _, hrow.set _ _, by rw [Array.size_setIfInBounds]; exact HS.out, ?_⟩
        intro j h1 h2
        rw [Array.getElem?_setIfInBounds]
        by_cases hj : W - 1 - k = j
        · rw [if_pos hj, if_pos hin, HB.out, ← hj, show W - 1 - (W - 1 - k) = k by omega]
        · rw [if_neg hj]; exact HC.out j h1 (by omega)
      case measure => simp [intOf]; omega
    · have HC := Lib.hid hcs
      have HS := Lib.hid hsz
      clear hcs hsz
      go_wp2
      go_ret2
      refine ⟨_, _, rfl, hrow.own (Nat.le_refl _) (bytesOf_length _ _) HS.out (by omega) ?_, hbel⟩
      intro j x hx
      have hj : j < W := by rw [← bytesOf_length N W]; exact (List.getElem?_eq_some_iff.1 hx).1
      rw [bytesOf_get N W j hj] at hx
      injection hx with hx
      rw [HC.out j hj (by omega), hx]
set_option maxHeartbeats 400000 in
theorem Bytes_no (N W : Int) (w : World) (hW : W < 0 ∨ 8 < W) :
    Calls Tryd.prog 84 #[.int .u64 N, .int .i64 W] w fun e w' => e = .returned (.tuple #[.slice none 0 0, .int .i64 1]) ∧ w = w' := by
  by_cases h : W < 0
  · clear hW
    go_enter Tryd.func84, Tryd.ntmps84
    go_wp2
    go_ret2
    exact ⟨rfl, rfl⟩
  · have h8 : 8 < W := by omega
    clear hW
    go_enter Tryd.func84, Tryd.ntmps84
    go_wp2
    go_ret2
    exact ⟨rfl, rfl⟩
set_option maxHeartbeats 400000 in
theorem RefBytes_no (N W : Int) (w : World) (hW : W < 0 ∨ 8 < W) :
    Calls Tryd.prog 85 #[.int .u64 N, .int .i64 W] w fun e w' => e = .returned (.tuple #[.slice none 0 0, .int .i64 1]) ∧ w = w' := by
  by_cases h : W < 0
  · clear hW
    go_enter Tryd.func85, Tryd.ntmps85
    go_wp2
    go_ret2
    exact ⟨rfl, rfl⟩
  · have h8 : 8 < W := by omega
    clear hW
    go_enter Tryd.func85, Tryd.ntmps85
    go_wp2
    go_ret2
    exact ⟨rfl, rfl⟩
theorem one_new (w : World) (M : Nat) (t : TypeId) : Own (w.alloc (.cells #[.int .u8 ((M : Int) % 256)] t)) w.heap.size t (.slice (some ⟨w.heap.size, 0, none⟩) 1 1) 1 [UInt8.ofNat M] := by
  refine (Row.new w t _).own (Nat.le_refl _) rfl rfl (by omega) ?_
  intro j x hx
  rcases j with _ | j
  · simp at hx
    subst hx
    rw [UInt8.toNat_ofNat']
    simp
  · simp at hx
set_option maxHeartbeats 400000 in
theorem RefBytes_ok (N W : Nat) (w : World) (hN : N < 18446744073709551616) (hW : W ≤ 8) :
    Calls Tryd.prog 85 #[.int .u64 (N : Int), .int .i64 (W : Int)] w (NewBytes w 5 W (bytesOf N W)) := by
  go_enter Tryd.func85, Tryd.ntmps85
  go_wp2
  go_loopw [0, 6, 7] (fun n o i wr => ∃ (k M : Nat) (A : Option Addr) (c : Nat), k ≤ W ∧ i = .int .i64 k ∧ n = .int .u64 (M : Int) ∧ o = .slice A k c ∧ Hid (M = N / 256 ^ k) ∧ M < 18446744073709551616 ∧ Below w.heap.size w wr ∧ Own wr w.heap.size 5 (.slice A k c) k (bytesOf N k)) (fun _ _ i _ => W - (intOf i).toNat)
  case atStart =>
    exact ⟨0, N, none, 0, Nat.zero_le _, rfl, rfl, rfl, Lib.hid (by simp), hN, Below.refl _ _, Own.nil _ _ _⟩
  case round =>
    obtain ⟨k, M, A, c, hk, rfl, rfl, rfl, HM, hM, hbel, hown⟩ := hrel
    by_cases hlt : k < W
    · have HO := Lib.hid hown
      have hsz := hbel.size
      clear hown
      go_wp2_with (at_builtin; refine wpList_app Tryd.byteTypes rfl (.tmp 22) (.tmp 23) rfl w.heap.size _ 1 [UInt8.ofNat M] rfl ((one_new wr M 5).mono hsz) A k c (bytesOf N k) rfl (HO.out.bs.below ((Below.refl _ _).alloc (Nat.le_refl _) _)) (by omega) (by simp; omega) ?_; intro A' c' w1 hown1 hbel1 hgr1; clear hgr1)
      go_roundw
      case rel =>
        refine ⟨k + 1, M / 256, A', c', by omega, by go_num, by go_num, by rw [Nat.add_comm], Lib.hid (by rw [HM.out, Nat.div_div_eq_div_mul, Nat.pow_succ]), by omega, (hbel.alloc hsz _).trans hbel1, ?_⟩
        rw [bytesOf_succ, ← HM.out, Nat.add_comm]
        exact hown1
      case measure => simp [intOf]; omega
    · have HO := Lib.hid hown
      clear hown
      obtain rfl : k = W := by omega
      go_wp2
      go_ret2
      exact ⟨_, _, rfl, HO.out, hbel⟩
end
section
open Go.RowKit
theorem ret2 {k : IntKind} {a b : Int} {v : Value} (h : a = b) : Ending.returned (.tuple #[.int k a, v]) = .returned (.tuple #[.int k b, v]) := by rw [h]
theorem retI {k : IntKind} {a b : Int} (h : a = b) : Ending.returned (.int k a) = .returned (.int k b) := by rw [h]
set_option maxHeartbeats 400000 in
theorem join_any (A : Option Addr) (n c : Nat) (l : List UInt8) (w : World) (h : Bs w A n l) (hn : n ≤ 8) :
    Calls Tryd.prog 95 #[.slice A n c] w fun e w' => e = .returned (.int .u64 (num l : Int)) ∧ w = w' := by
  go_enter Tryd.func95, Tryd.ntmps95
  go_wp2
  go_loop [3, 8] (fun t i => ∃ k : Nat, k ≤ n ∧ i = .int .i64 k ∧ t = .int .u64 (num (l.take k) : Int)) (fun _ i => n - (intOf i).toNat)
  case atStart => exact ⟨0, Nat.zero_le _, rfl, rfl⟩
  case round =>
    obtain ⟨k, hk, rfl, rfl⟩ := hrel
    have HL := Lib.hid h.1
    by_cases hlt : k < n
    · obtain ⟨b, off, x, rfl, hb, hx, hc⟩ := h.get hlt
      have hx256 := byte_lt x
      have hN : num (l.take k) < 72057594037927936 := num_lt' _ 7 (by rw [List.length_take]; omega)
      have HT := Lib.hid (num_take hx)
      have HO := Lib.hid (u64_or_byte (num (l.take k)) x.toNat hN hx256)
      have h' := Lib.hid h
      clear hx h
      generalize num (l.take k) = N at *
      go_wp2
      go_round
      case rel => exact ⟨k + 1, by omega, by go_num, by rw [HT.out, HO.out]⟩
      case measure => simp [intOf]; omega
    · go_wp2
      go_ret
      exact ⟨retI (by rw [List.take_of_length_le (by rw [HL.out]; omega)]), rfl⟩
set_option maxHeartbeats 400000 in
theorem Word_no (A : Option Addr) (n c : Nat) (p : Int) (w : World) (hp : p < 0 ∨ (n : Int) < p + 4) (hn : n ≤ 140737488355328) :
    Calls Tryd.prog 105 #[.slice A n c, .int .i64 p] w fun e w' => e = .returned (.tuple #[.int .u32 0, .int .i64 1]) ∧ w = w' := by
  by_cases h : p < 0
  · clear hp
    go_enter Tryd.func105, Tryd.ntmps105
    go_wp2_with fail
    go_ret2
    exact ⟨rfl, rfl⟩
  · have hq : (n : Int) - 4 < p := by omega
    clear hp
    go_enter Tryd.func105, Tryd.ntmps105
    go_wp2_with fail
    go_ret2
    exact ⟨rfl, rfl⟩
set_option maxHeartbeats 400000 in
theorem Word_ok (A : Option Addr) (n c : Nat) (l : List UInt8) (p : Int) (w : World) (h : Bs w A n l) (hc : n ≤ c) (hp : 0 ≤ p) (hp4 : p + 4 ≤ n) (hn : n ≤ 140737488355328) :
    Calls Tryd.prog 105 #[.slice A n c, .int .i64 p] w fun e w' => e = .returned (.tuple #[.int .u32 (num ((l.drop p.toNat).take 4) : Int), .int .i64 0]) ∧ w = w' := by
  obtain ⟨k, rfl⟩ := Int.eq_ofNat_of_zero_le hp
  rw [Int.toNat_natCast]
  have hk4 : k + 4 ≤ n := by omega
  obtain ⟨b, off, x, rfl, hb, hx, hcell⟩ := h.get (k := k) (by omega)
  have hB := Lib.hid ((h.drop (m := k)).take (m := 4) (by omega))
  have hN := num_lt' ((l.drop k).take 4) 4 (by rw [List.length_take]; omega)
  clear hcell hx h
  generalize (l.drop k).take 4 = q at *
  go_enter Tryd.func105, Tryd.ntmps105
  go_wp2_with fail
  refine (join_any _ _ _ q _ hB.out (by omega)).mono ?_
  rintro e w' ⟨rfl, rfl⟩
  go_wp2
  go_ret2
  exact ⟨rfl, rfl⟩
set_option maxHeartbeats 400000 in
theorem RefWord_no (A : Option Addr) (n c : Nat) (p : Int) (w : World) (hp : p < 0 ∨ (n : Int) < p + 4) (hn : n ≤ 140737488355328) :
    Calls Tryd.prog 86 #[.slice A n c, .int .i64 p] w fun e w' => e = .returned (.tuple #[.int .u32 0, .int .i64 1]) ∧ w = w' := by
  by_cases h : p < 0
  · clear hp
    go_enter Tryd.func86, Tryd.ntmps86
    go_wp2_with fail
    go_ret2
    exact ⟨rfl, rfl⟩
  · have hq : (n : Int) - 4 < p := by omega
    clear hp
    by_cases h4 : n < 4
    · go_enter Tryd.func86, Tryd.ntmps86
      go_wp2_with fail
      go_ret2
      exact ⟨rfl, rfl⟩
    · go_enter Tryd.func86, Tryd.ntmps86
      go_wp2_with fail
      go_ret2
      exact ⟨rfl, rfl⟩
theorem num4 {l : List UInt8} {k : Nat} {x0 x1 x2 x3 : UInt8} (h0 : l[k]? = some x0) (h1 : l[k + 1]? = some x1) (h2 : l[k + 2]? = some x2) (h3 : l[k + 3]? = some x3) :
    num ((l.drop k).take 4) = x0.toNat * 16777216 + x1.toNat * 65536 + x2.toNat * 256 + x3.toNat := by
  have g : ∀ i x, l[k + i]? = some x → (l.drop k)[i]? = some x := fun i x h => by rw [List.getElem?_drop]; exact h
  rw [num_take (g 3 _ h3), num_take (g 2 _ h2), num_take (g 1 _ h1), num_take (g 0 _ h0)]
  simp [num]
  omega
set_option maxHeartbeats 400000 in
theorem RefWord_ok (A : Option Addr) (n c : Nat) (l : List UInt8) (p : Int) (w : World) (h : Bs w A n l) (hp : 0 ≤ p) (hp4 : p + 4 ≤ n) (hn : n ≤ 140737488355328) :
    Calls Tryd.prog 86 #[.slice A n c, .int .i64 p] w fun e w' => e = .returned (.tuple #[.int .u32 (num ((l.drop p.toNat).take 4) : Int), .int .i64 0]) ∧ ∃ m, w' = w.drewN m := by
  obtain ⟨k, rfl⟩ := Int.eq_ofNat_of_zero_le hp
  rw [Int.toNat_natCast]
  have hk4 : k + 4 ≤ n := by omega
  obtain ⟨b, off, x0, rfl, hb, g0, c0⟩ := h.get (k := k) (by omega)
  obtain ⟨b', off', x1, e1, _, g1, c1⟩ := h.get (k := k + 1) (by omega)
  obtain ⟨b'', off'', x2, e2, _, g2, c2⟩ := h.get (k := k + 2) (by omega)
  obtain ⟨b3, off3, x3, e3, _, g3, c3⟩ := h.get (k := k + 3) (by omega)
  simp only [Option.some.injEq, Addr.mk.injEq, and_true] at e1 e2 e3
  obtain ⟨rfl, rfl⟩ := e1
  obtain ⟨rfl, rfl⟩ := e2
  obtain ⟨rfl, rfl⟩ := e3
  rw [num4 g0 g1 g2 g3]
  have l0 := byte_lt x0
  have l1 := byte_lt x1
  have l2 := byte_lt x2
  have l3 := byte_lt x3
  have i0 : (0 : Int) ≤ (k : Int) := by omega
  have i3 : (k : Int) + 3 < (n : Int) := by omega
  have i2 : (k : Int) + 2 < (n : Int) := by omega
  have i1 : (k : Int) + 1 < (n : Int) := by omega
  have i00 : (k : Int) < (n : Int) := by omega
  clear g0 g1 g2 g3 h
  go_enter Tryd.func86, Tryd.ntmps86
  go_wp2_with fail
  go_quiet (fail)
  go_wp2
  go_ret2
  exact ⟨ret2 (by omega), _, rfl⟩
end
section
open Go.RowKit
def wordE (l : List UInt8) (p : Int) : Int := if 0 ≤ p ∧ p + 4 ≤ l.length then 0 else 1
def wordV (l : List UInt8) (p : Int) : Int := if 0 ≤ p ∧ p + 4 ≤ l.length then (num ((l.drop p.toNat).take 4) : Int) else 0
def numE (l : List UInt8) : Int := if l.length ≤ 8 then 0 else 1
def numV (l : List UInt8) : Int := if l.length ≤ 8 then (num l : Int) else 0
def bytesE (W : Int) : Int := if 0 ≤ W ∧ W ≤ 8 then 0 else 1
def bytesL (N W : Int) : List UInt8 := if 0 ≤ W ∧ W ≤ 8 then bytesOf N.toNat W.toNat else []
theorem bytesL_length (N W : Int) : (bytesL N W).length ≤ 8 := by
  unfold bytesL; split
  · rw [bytesOf_length]; omega
  · simp
theorem numV_lt (l : List UInt8) : 0 ≤ numV l ∧ numV l < 18446744073709551616 := by
  unfold numV; split
  · rename_i h
    have := num_lt' l 8 h
    omega
  · omega
theorem Word_any (A : Option Addr) (n c : Nat) (l : List UInt8) (p : Int) (w : World) (h : Bs w A n l) (hc : n ≤ c) (hn : n ≤ 140737488355328) :
    Calls Tryd.prog 105 #[.slice A n c, .int .i64 p] w fun e w' => e = .returned (.tuple #[.int .u32 (wordV l p), .int .i64 (wordE l p)]) ∧ w = w' := by
  unfold wordV wordE
  rw [h.1]
  by_cases hp : 0 ≤ p ∧ p + 4 ≤ n
  · rw [if_pos hp, if_pos hp]; exact Word_ok A n c l p w h hc hp.1 hp.2 hn
  · rw [if_neg hp, if_neg hp]; exact Word_no A n c p w (by omega) hn
theorem RefWord_any (A : Option Addr) (n c : Nat) (l : List UInt8) (p : Int) (w : World) (h : Bs w A n l) (hn : n ≤ 140737488355328) :
    Calls Tryd.prog 86 #[.slice A n c, .int .i64 p] w fun e w' => e = .returned (.tuple #[.int .u32 (wordV l p), .int .i64 (wordE l p)]) ∧ ∃ m, w' = w.drewN m := by
  unfold wordV wordE
  rw [h.1]
  by_cases hp : 0 ≤ p ∧ p + 4 ≤ n
  · rw [if_pos hp, if_pos hp]; exact RefWord_ok A n c l p w h hp.1 hp.2 hn
  · rw [if_neg hp, if_neg hp]; exact (RefWord_no A n c p w (by omega) hn).mono fun e w' ⟨he, hw⟩ => ⟨he, 0, hw ▸ rfl⟩
/-- a slice of bytes in new memory, and an error's number -/
def NewBytesE (w : World) (t : TypeId) (l : List UInt8) (E : Int) (e : Ending) (w' : World) : Prop :=
  ∃ A n c, e = .returned (.tuple #[.slice A n c, .int .i64 E]) ∧ Bs w' A n l ∧ n ≤ c ∧ Below w.heap.size w w' ∧ Own w' w.heap.size t (.slice A n c) n l
theorem Bytes_any (N W : Int) (w : World) (h0 : 0 ≤ N) (hN : N < 18446744073709551616) :
    Calls Tryd.prog 84 #[.int .u64 N, .int .i64 W] w (NewBytesE w 5 (bytesL N W) (bytesE W)) := by
  unfold bytesL bytesE
  by_cases hp : 0 ≤ W ∧ W ≤ 8
  · rw [if_pos hp, if_pos hp]
    obtain ⟨n, rfl⟩ := Int.eq_ofNat_of_zero_le h0
    obtain ⟨k, rfl⟩ := Int.eq_ofNat_of_zero_le hp.1
    exact (Bytes_ok n k w (by omega) (by omega)).mono fun e w' ⟨A, c, he, ho, hb⟩ => by
      obtain ⟨A', c', hv, hc⟩ := ho.form
      injection hv with h1 h2 h3
      subst h1 h3
      exact ⟨A, k, c, he, ho.bs, hc, hb, ho⟩
  · rw [if_neg hp, if_neg hp]
    exact (Bytes_no N W w (by omega)).mono fun e w' ⟨he, hw⟩ => by
      subst hw
      exact ⟨none, 0, 0, he, Bs.nil _ _, Nat.le_refl _, Below.refl _ _, Own.nil _ _ _⟩
theorem RefBytes_any (N W : Int) (w : World) (h0 : 0 ≤ N) (hN : N < 18446744073709551616) :
    Calls Tryd.prog 85 #[.int .u64 N, .int .i64 W] w (NewBytesE w 5 (bytesL N W) (bytesE W)) := by
  unfold bytesL bytesE
  by_cases hp : 0 ≤ W ∧ W ≤ 8
  · rw [if_pos hp, if_pos hp]
    obtain ⟨n, rfl⟩ := Int.eq_ofNat_of_zero_le h0
    obtain ⟨k, rfl⟩ := Int.eq_ofNat_of_zero_le hp.1
    exact (RefBytes_ok n k w (by omega) (by omega)).mono fun e w' ⟨A, c, he, ho, hb⟩ => by
      obtain ⟨A', c', hv, hc⟩ := ho.form
      injection hv with h1 h2 h3
      subst h1 h3
      exact ⟨A, k, c, he, ho.bs, hc, hb, ho⟩
  · rw [if_neg hp, if_neg hp]
    exact (RefBytes_no N W w (by omega)).mono fun e w' ⟨he, hw⟩ => by
      subst hw
      exact ⟨none, 0, 0, he, Bs.nil _ _, Nat.le_refl _, Below.refl _ _, Own.nil _ _ _⟩
theorem below_drewN {B : Nat} {a w : World} (h : Below B a w) (n : Nat) : Below B a (w.drewN n) := ⟨h.os, h.tape, h.output, h.size, h.block⟩
theorem empty_new (w : World) (t : TypeId) : Own (w.alloc (.cells #[] t)) w.heap.size t (.slice (some ⟨w.heap.size, 0, none⟩) 0 0) 0 [] :=
  (Row.new w t #[]).own (Nat.le_refl _) rfl rfl (by omega) fun j x h => by simp at h
/-- a literal of bytes -/
theorem lit_new (w : World) (t : TypeId) (cs : Array Value) (n : Nat) (l : List UInt8) (hl : l.length = n) (hs : cs.size = n) (hc : ∀ (j : Nat) (x : UInt8), l[j]? = some x → cs[j]? = some (.int .u8 (x.toNat : Int))) (hn : n ≤ 65536) :
    Bs (w.alloc (.cells cs t)) (some ⟨w.heap.size, 0, none⟩) n l :=
  ((Row.new w t cs).own (Nat.le_refl _) hl hs (by omega) hc).bs
/-- append([]byte{}, x...): a copy in new memory -/
theorem wpList_copy {P : Program} {t e : TypeId} (T : ByteTypes P t e) {w : World} {ops : Array Oper} {rest : List Oper} {o : Oper} {a : Act} {Q : Exit → Act → World → Prop} (hgd : o.guard = none) (s x : Operand)
    (ho : o.op = .call { callee := .builtin .append, args := #[s, x], argTypes := #[t, t] })
    (hs : a.eval s = .slice (some ⟨w.heap.size, 0, none⟩) 0 0)
    (A : Option Addr) (m c : Nat) (l : List UInt8) (hx : a.eval x = .slice A m c) (hr : Bs w A m l) (hb : m ≤ 140737488355328)
    (h : ∀ A' c' w', Bs w' A' m l → m ≤ c' → Below w.heap.size w w' → Own w' w.heap.size e (.slice A' m c') m l → wpList P ops Q rest (a.put o.dst (.slice A' m c')) w') :
    wpList P ops Q (o :: rest) a (w.alloc (.cells #[] e)) := by
  have hbel0 : Below w.heap.size w (w.alloc (.cells #[] e)) := (Below.refl _ _).alloc (Nat.le_refl _) _
  refine wpList_app T hgd s x ho w.heap.size _ 0 [] hs (empty_new w e) A m c l hx (hr.below hbel0) (by omega) (by simp) ?_
  intro A' c' w' hown hbel _
  rw [Nat.zero_add] at hown ⊢
  obtain ⟨A2, c2, hv, hc⟩ := hown.form
  injection hv with h1 h2 h3
  subst h1 h3
  exact h A' c' w' (by simpa using hown.bs) hc (hbel0.trans hbel) (by simpa using hown)
end
section
open Go.RowKit
theorem below_drewN' {B : Nat} {a w : World} (h : Below B a w) (n : Nat) : Below B a (w.drewN n) := ⟨h.os, h.tape, h.output, h.size, h.block⟩
theorem quiet_same {P : Program} {f : FuncId} {args : Array Value} {w : World} {n : Nat} {v : Value}
    (h : Calls P f args (w.drewN n) fun e w' => e = .returned v ∧ w.drewN n = w') : Calls P f args (w.drewN n) fun e w'' => e = .returned v ∧ ∃ m, w'' = w.drewN m :=
  h.mono fun _ _ ⟨he, hm⟩ => ⟨he, n, hm.symm⟩
theorem Row.new1 (w : World) (o : Obj) (t : TypeId) (cs : Array Value) : Row ((w.alloc o).alloc (.cells cs t)) (w.heap.size + 1) t cs := by
  have := Row.new (w.alloc o) t cs
  rwa [show (w.alloc o).heap.size = w.heap.size + 1 by simp] at this
theorem Row.new2 (w : World) (o o' : Obj) (t : TypeId) (cs : Array Value) : Row (((w.alloc o).alloc o').alloc (.cells cs t)) (w.heap.size + 1 + 1) t cs := by
  have := Row.new1 (w.alloc o) o' t cs
  rwa [show (w.alloc o).heap.size = w.heap.size + 1 by simp] at this
section
variable {P : Program}
/-- a type whose values are n cells: an array or a struct -/
def AggType (P : Program) (ty : TypeId) (n : Nat) : Prop := ∃ d, P.underlying ty = some d ∧ d.isRow = true ∧ (P.info? ty).map (·.size) = some n
theorem run_load_row {w : World} {g : Nat} {t ty : TypeId} {cs : Array Value} {n : Nat} (T : AggType P ty n) (h : Row w g t cs) (hn : cs.size = n) :
    (loadVar ty ⟨g, 0, none⟩).run P w = .ok (.agg cs) w := by
  obtain ⟨d, hu, hd, hi⟩ := T
  cases d <;> first | exact run_loadVar_row w g t ty cs (0, 0) _ h hu rfl (by rw [hi, hn]) | cases hd
theorem results_row1 {fn : Func} {tmps : Array Value} {w : World} {a g : Nat} {t ty : TypeId} {cs : Array Value} {n : Nat} (T : AggType P ty n) (hf : fn.results = #[.cell a ty])
    (ha : tmps.getD a undef = .pointer (some ⟨g, 0, none⟩)) (h : Row w g t cs) (hn : cs.size = n) : (results fn tmps).run P w = .ok (.agg cs) w := by
  rw [Array.getD_eq_getD_getElem?] at ha
  unfold results
  rw [hf]
  simp [ha, asAddr, run_load_row T h hn]
theorem results_row2 {fn : Func} {tmps : Array Value} {w : World} {a b g : Nat} {t ty : TypeId} {cs : Array Value} {n : Nat} {v : Value} (T : AggType P ty n) (hf : fn.results = #[.cell a ty, .tmp b])
    (ha : tmps.getD a undef = .pointer (some ⟨g, 0, none⟩)) (hb : tmps.getD b undef = v) (h : Row w g t cs) (hn : cs.size = n) : (results fn tmps).run P w = .ok (.tuple #[.agg cs, v]) w := by
  rw [Array.getD_eq_getD_getElem?] at ha hb
  unfold results
  rw [hf]
  simp [ha, hb, asAddr, run_load_row T h hn]
theorem wpList_load_row {n : Nat} {ty : TypeId} (T : AggType P ty n) {ops : Array Oper} {rest : List Oper} {op : Oper} {a : Act} {w : World} {Q : Exit → Act → World → Prop} (hgd : op.guard = none) (x : Operand) (ho : op.op = .load ty x)
    (g : Nat) (hx : a.eval x = .pointer (some ⟨g, 0, none⟩)) (t : TypeId) (cs : Array Value) (hr : Row w g t cs) (hn : cs.size = n)
    (h : wpList P ops Q rest (a.put op.dst (.agg cs)) w) : wpList P ops Q (op :: rest) a w := by
  refine wpList_plain hgd fun K hK => ?_
  unfold Oper.wp execOp
  simp only [ho, hx, Instr.loadAt, Instr.sureAddr, Sem.run_bind, Sem.run_pure, Result.andThen_ok, run_load_row T hr hn]
  exact hK _ _ h
theorem Row.setRow {w : World} {g : Nat} {t : TypeId} {old : Array Value} (h : Row w g t old) (cs : Array Value) : Row (w.setRow g cs) g t cs := setRow_heap w g old cs t (0, 0) h
theorem heap_setRow (w : World) (g : Nat) (cs : Array Value) (k : Nat) (h : k ≠ g) : (w.setRow g cs).heap[k]? = w.heap[k]? := by
  simp only [World.setRow, Array.getElem?_modify]
  rw [if_neg (by omega)]
/-- but for block g the world is as it was -/
structure Only (g : Nat) (w w' : World) : Prop where
  os : w'.os = w.os
  tape : w'.tape = w.tape
  output : w'.output = w.output
  size : w.heap.size ≤ w'.heap.size
  block : ∀ k, k < w.heap.size → k ≠ g → w'.heap[k]? = w.heap[k]?
theorem Only.refl (g : Nat) (w : World) : Only g w w := ⟨rfl, rfl, rfl, Nat.le_refl _, fun _ _ _ => rfl⟩
theorem Only.trans {g : Nat} {a b c : World} (h : Only g a b) (k : Only g b c) : Only g a c :=
  ⟨k.os.trans h.os, k.tape.trans h.tape, k.output.trans h.output, Nat.le_trans h.size k.size, fun i hi hg => (k.block i (Nat.lt_of_lt_of_le hi h.size) hg).trans (h.block i hi hg)⟩
theorem Only.of_below {g : Nat} {w w' : World} (h : Below w.heap.size w w') : Only g w w' := ⟨h.os, h.tape, h.output, h.size, fun k hk _ => h.block k hk⟩
theorem Only.below {g B : Nat} {w w' : World} (h : Only g w w') (hg : B ≤ g) (hB : B ≤ w.heap.size) : Below B w w' := ⟨h.os, h.tape, h.output, h.size, fun k hk => h.block k (by omega) (by omega)⟩
theorem Only.drewN {g : Nat} {a w : World} (h : Only g a w) (n : Nat) : Only g a (w.drewN n) := ⟨h.os, h.tape, h.output, h.size, h.block⟩
theorem Only.drew {g : Nat} {a w : World} (h : Only g a w) : Only g a w.drew := ⟨h.os, h.tape, h.output, h.size, h.block⟩
theorem Only.setRow (g : Nat) (w : World) (cs : Array Value) : Only g w (w.setRow g cs) := ⟨rfl, rfl, rfl, by simp [World.setRow], fun k _ hg => heap_setRow w g cs k hg⟩
theorem Only.setCell (g o : Nat) (w : World) (u : Value) : Only g w (w.setCell ⟨g, o, none⟩ u) := ⟨rfl, rfl, rfl, by simp [World.setCell], fun _ _ hg => Below.heap_setCell _ _ _ _ hg⟩
theorem Row.only {g k : Nat} {t : TypeId} {cs : Array Value} {w w' : World} (h : Row w k t cs) (ho : Only g w w') (hk : k ≠ g) : Row w' k t cs := (ho.block k h.lt hk).trans h
/-- a slice that does not lie in block g -/
def Apart (A : Option Addr) (n g : Nat) : Prop := n = 0 ∨ ∃ b off, A = some ⟨b, off, none⟩ ∧ b ≠ g
theorem Bs.apart {w : World} {A : Option Addr} {n g : Nat} {l : List UInt8} (h : Bs w A n l) (hg : w.heap.size ≤ g) : Apart A n g := by
  by_cases hn : n = 0
  · exact .inl hn
  · obtain ⟨b, off, x, hA, hb, _⟩ := h.get (k := 0) (by omega)
    exact .inr ⟨b, off, hA, by omega⟩
theorem Bs.only {w w' : World} {A : Option Addr} {n g : Nat} {l : List UInt8} (h : Bs w A n l) (ha : Apart A n g) (ho : Only g w w') : Bs w' A n l := by
  refine ⟨h.1, fun k x hx => ?_⟩
  obtain ⟨b, off, hA, hb, hc⟩ := h.2 k x hx
  have hk : k < n := by rw [← h.1]; exact (List.getElem?_eq_some_iff.1 hx).1
  rcases ha with h0 | ⟨b', off', hA', hne⟩
  · omega
  · rw [hA] at hA'
    injection hA' with e
    injection e with e1 e2
    subst e1
    exact ⟨b, off, hA, Nat.lt_of_lt_of_le hb ho.size, (World.cell?_of_block (w := w) (a := ⟨b, off + k, none⟩) (ho.block b hb hne)).trans hc⟩
theorem wpList_store_row {n : Nat} {ty : TypeId} (T : AggType P ty n) {ops : Array Oper} {rest : List Oper} {op : Oper} {a : Act} {w : World} {Q : Exit → Act → World → Prop} (hgd : op.guard = none) (x y : Operand) (ho : op.op = .store ty x y)
    (g : Nat) (cells : Array Value) (hx : a.eval x = .pointer (some ⟨g, 0, none⟩)) (hy : a.eval y = .agg cells) (t : TypeId) (old : Array Value) (hr : Row w g t old) (hn : cells.size = n) (hold : old.size = n) (h1 : cells.all (·.oneCell') = true)
    (h : ∀ w', Row w' g t cells → Only g w w' → wpList P ops Q rest (a.put op.dst undef) w') : wpList P ops Q (op :: rest) a w := by
  obtain ⟨d, hu, hd, hi⟩ := T
  refine wpList_plain hgd fun K hK => ?_
  refine wp_store_row ty x y ho g cells hx hy t old hr (by rw [hi, hn]) (by rw [hold, hn]) h1 ?_
  exact hK _ _ (h _ (hr.setRow cells) (Only.setRow g w cells))
end
end
section
open Go.RowKit
set_option maxHeartbeats 400000 in
theorem Same_yes (A B : Option Addr) (n c d : Nat) (l : List UInt8) (w : World) (h : Bs w A n l) (h2 : Bs w B n l) (hn : n ≤ 281474976710656) :
    Calls Tryd.prog 26 #[.slice A n c, .slice B n d] w fun e w' => e = .returned (.bool true) ∧ ∃ m, w' = w.drewN m := by
  have hne : ((n : Int) != (n : Int)) = false := by simp
  go_enter Tryd.func26, Tryd.ntmps26
  go_wp2
  go_loopw [5] (fun i wr => ∃ k j : Nat, k ≤ n ∧ i = .int .i64 k ∧ wr = w.drewN j) (fun i _ => n - (intOf i).toNat)
  case atStart => exact ⟨0, 0, Nat.zero_le _, rfl, rfl⟩
  case round =>
    obtain ⟨k, j, hk, rfl, rfl⟩ := hrel
    by_cases hlt : k < n
    · obtain ⟨b, off, x, rfl, hb, hx, hc⟩ := h.get hlt
      obtain ⟨b2, off2, x2, rfl, hb2, hx2, hc2⟩ := h2.get hlt
      obtain rfl : x2 = x := by rw [hx] at hx2; injection hx2 with e; exact e.symm
      have hi : (k : Int) < (n : Int) := by omega
      have hz : ((x2.toNat : Int) != (x2.toNat : Int)) = false := by simp
      clear hx hx2 h h2
      go_wp2
      go_quiet (fail)
      go_wp2
      go_roundw
      case rel => exact ⟨k + 1, _, by omega, by go_num, rfl⟩
      case measure => simp [intOf]; omega
    · go_wp2
      go_ret
      exact ⟨rfl, _, rfl⟩
set_option maxHeartbeats 400000 in
theorem Same_no (A B : Option Addr) (n m c d : Nat) (l r : List UInt8) (w : World) (h : Bs w A n l) (h2 : Bs w B m r) (hn : n ≤ 281474976710656) (hm : m ≤ 281474976710656) (hne : l ≠ r) :
    Calls Tryd.prog 26 #[.slice A n c, .slice B m d] w fun e w' => e = .returned (.bool false) ∧ ∃ m, w' = w.drewN m := by
  have HN := Lib.hid hne
  clear hne
  by_cases hmn : n = m
  · subst hmn
    have hnn : ((n : Int) != (n : Int)) = false := by simp
    go_enter Tryd.func26, Tryd.ntmps26
    go_wp2
    go_loopw [5] (fun i wr => ∃ k j : Nat, k ≤ n ∧ i = .int .i64 k ∧ wr = w.drewN j ∧ Hid (l.take k = r.take k)) (fun i _ => n - (intOf i).toNat)
    case atStart => exact ⟨0, 0, Nat.zero_le _, rfl, rfl, Lib.hid rfl⟩
    case round =>
      obtain ⟨k, j, hk, rfl, rfl, HK⟩ := hrel
      by_cases hlt : k < n
      · obtain ⟨b, off, x, rfl, hb, hx, hc⟩ := h.get hlt
        obtain ⟨b2, off2, x2, rfl, hb2, hx2, hc2⟩ := h2.get hlt
        have hi : (k : Int) < (n : Int) := by omega
        by_cases hxx : x = x2
        · subst hxx
          have HK' := Lib.hid (show l.take (k + 1) = r.take (k + 1) by rw [take_snoc hx, take_snoc hx2, HK.out])
          have hz : ((x.toNat : Int) != (x.toNat : Int)) = false := by simp
          clear hx hx2 h h2
          go_wp2
          go_quiet (fail)
          go_wp2
          go_roundw
          case rel => exact ⟨k + 1, _, by omega, by go_num, rfl, HK'⟩
          case measure => simp [intOf]; omega
        · have hz : ((x.toNat : Int) != (x2.toNat : Int)) = true := by
            rw [bne_iff_ne]
            intro e
            exact hxx (UInt8.toNat_inj.1 (by omega))
          clear hx hx2 h h2 hxx
          go_wp2
          go_quiet (fail)
          go_wp2
          go_ret
          exact ⟨rfl, _, World.drewN_drewN _ _ _⟩
      · exact absurd (by
          have e := HK.out
          rwa [List.take_of_length_le (by rw [h.1]; omega), List.take_of_length_le (by rw [h2.1]; omega)] at e) HN.out
  · have hnn : ((n : Int) != (m : Int)) = true := by rw [bne_iff_ne]; omega
    clear hmn h h2
    go_enter Tryd.func26, Tryd.ntmps26
    go_wp2
    go_ret
    exact ⟨rfl, 0, rfl⟩
theorem Same_same (A B : Option Addr) (n m c d : Nat) (l : List UInt8) (w : World) (h : Bs w A n l) (h2 : Bs w B m l) (hn : n ≤ 281474976710656) :
    Calls Tryd.prog 26 #[.slice A n c, .slice B m d] w fun e w' => e = .returned (.bool true) ∧ ∃ m, w' = w.drewN m := by
  obtain rfl : m = n := h2.1.symm.trans h.1
  exact Same_yes A B m c d l w h h2 hn
end
end Go.Proofs.YtgiobcpljbpmiaaDoor
