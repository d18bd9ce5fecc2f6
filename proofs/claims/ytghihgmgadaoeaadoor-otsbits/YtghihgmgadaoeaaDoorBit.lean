/-
  What bits.Bit and juratref01.Bit answer, of whatever bytes and place.
-/
import Derived.Test.YtghihgmgadaoeaaDoorCalls
namespace Go.Proofs.YtghihgmgadaoeaaDoor
open Go.RowKit
theorem ofInt_i64 (a : Nat) (ha : a < 9223372036854775808) : (BitVec.ofInt 64 (a : Int)).toNat = a := by
  rw [BitVec.ofInt_natCast, BitVec.toNat_ofNat]; exact Nat.mod_eq_of_lt (by omega)
theorem i64_and_nat (a b : Nat) (ha : a < 9223372036854775808) (hb : b < 9223372036854775808) : bits .and .i64 (a : Int) (b : Int) = ((a &&& b : Nat) : Int) := by
  have hx : a &&& b < 2 ^ 63 := Nat.and_lt_two_pow _ (by omega)
  show IntKind.i64.wrap ((BitVec.ofInt 64 (a : Int) &&& BitVec.ofInt 64 (b : Int)).toNat : Int) = _
  rw [BitVec.toNat_and, ofInt_i64 a ha, ofInt_i64 b hb, IntKind.wrap_i64]
  omega
theorem bit_prog (x m : Nat) (hx : x < 256) : bits .and .i64 (wrap64 ((x : Int) / 2 ^ m)) 1 = ((x / 2 ^ m % 2 : Nat) : Int) := by
  have hd : x / 2 ^ m ≤ x := Nat.div_le_self _ _
  have e : wrap64 ((x : Int) / 2 ^ m) = ((x / 2 ^ m : Nat) : Int) := by
    have e1 : (x : Int) / 2 ^ m = ((x / 2 ^ m : Nat) : Int) := by simp
    rw [e1]
    generalize x / 2 ^ m = y at *
    unfold wrap64; omega
  rw [e, show (1 : Int) = ((1 : Nat) : Int) from rfl, i64_and_nat _ _ (by omega) (by omega), Nat.and_one_is_mod]

/-- the bit k of bytes: 0 is the highest one of the first byte -/
def bitN (l : List UInt8) (k : Nat) : Nat := (l.getD (k / 8) 0).toNat / 2 ^ (7 - k % 8) % 2
def bitE (l : List UInt8) (i : Int) : Int := if 0 ≤ i ∧ i < 8 * l.length then 0 else 1
def bitV (l : List UInt8) (i : Int) : Int := if 0 ≤ i ∧ i < 8 * l.length then (bitN l i.toNat : Int) else 0
theorem bitN_get {l : List UInt8} {k : Nat} {x : UInt8} (h : l[k / 8]? = some x) : bitN l k = x.toNat / 2 ^ (7 - k % 8) % 2 := by
  unfold bitN; rw [List.getD_eq_getElem?_getD, h]; rfl
theorem bitN_01 (l : List UInt8) (k : Nat) : bitN l k = 0 ∨ bitN l k = 1 := by unfold bitN; omega
set_option maxHeartbeats 400000 in
theorem Bit_ok (A : Option Addr) (n c k : Nat) (l : List UInt8) (w : World) (h : Bs w A n l) (hk : k < 8 * n) (hn : n ≤ 140737488355328) :
    Calls Tryd.prog 44 #[.slice A n c, .int .i64 (k : Int)] w fun e w' => e = .returned (.tuple #[.int .i64 (bitN l k : Int), .int .i64 0]) ∧ w = w' := by
  obtain ⟨b, off, x, rfl, hb, hx, hc⟩ := h.get (k := k / 8) (by omega)
  have HB := Lib.hid (bitN_get hx)
  have hx256 := byte_lt x
  have HP := Lib.hid (bit_prog x.toNat (7 - k % 8) hx256)
  have h1 : (k : Int) / 8 < (n : Int) := by omega
  clear h hx
  go_enter Tryd.func44, Tryd.ntmps44
  go_wp2
  go_ret2
  exact ⟨ret2 (by rw [HP.out, HB.out]), rfl⟩
set_option maxHeartbeats 400000 in
theorem Bit_no (A : Option Addr) (n c : Nat) (i : Int) (w : World) (hi : i < 0 ∨ 8 * (n : Int) ≤ i) (_hi2 : i ≤ 9223372036854775807) :
    Calls Tryd.prog 44 #[.slice A n c, .int .i64 i] w fun e w' => e = .returned (.tuple #[.int .i64 0, .int .i64 1]) ∧ w = w' := by
  by_cases h : i < 0
  · clear hi
    go_enter Tryd.func44, Tryd.ntmps44
    go_wp2
    go_ret2
    exact ⟨rfl, rfl⟩
  · have hd : (n : Int) ≤ i / 8 := by omega
    clear hi
    go_enter Tryd.func44, Tryd.ntmps44
    go_wp2
    go_ret2
    exact ⟨rfl, rfl⟩
set_option maxHeartbeats 400000 in
theorem RefBit_no (A : Option Addr) (n c : Nat) (i : Int) (w : World) (hi : i < 0 ∨ 8 * (n : Int) ≤ i) (_hi2 : i ≤ 9223372036854775807) :
    Calls Tryd.prog 24 #[.slice A n c, .int .i64 i] w fun e w' => e = .returned (.tuple #[.int .i64 0, .int .i64 1]) ∧ w = w' := by
  by_cases h : i < 0
  · clear hi
    go_enter Tryd.func24, Tryd.ntmps24
    go_wp2
    go_ret2
    exact ⟨rfl, rfl⟩
  · have hd : (n : Int) ≤ i / 8 := by omega
    clear hi
    go_enter Tryd.func24, Tryd.ntmps24
    go_wp2
    go_ret2
    exact ⟨rfl, rfl⟩
set_option maxHeartbeats 400000 in
theorem RefBit_ok (A : Option Addr) (n c k : Nat) (l : List UInt8) (w : World) (h : Bs w A n l) (hk : k < 8 * n) (hn : n ≤ 140737488355328) :
    Calls Tryd.prog 24 #[.slice A n c, .int .i64 (k : Int)] w fun e w' => e = .returned (.tuple #[.int .i64 (bitN l k : Int), .int .i64 0]) ∧ w = w' := by
  obtain ⟨b, off, x, rfl, hb, hx, hc⟩ := h.get (k := k / 8) (by omega)
  have HB := Lib.hid (bitN_get hx)
  have hx256 := byte_lt x
  have h1 : (k : Int) / 8 < (n : Int) := by omega
  clear h hx
  go_enter Tryd.func24, Tryd.ntmps24
  go_wp2
  go_loop [6, 7] (fun s t => ∃ j M r : Nat, Hid (r = k % 8 + j) ∧ r ≤ 7 ∧ t = .int .i64 (r : Int) ∧ s = .int .i64 (M : Int) ∧ Hid (M = x.toNat / 2 ^ j) ∧ M < 256) (fun _ t => 7 - (intOf t).toNat)
  case atStart => exact ⟨0, x.toNat, k % 8, Lib.hid rfl, by omega, by go_num, rfl, Lib.hid (by simp), hx256⟩
  case round =>
    obtain ⟨j, M, r, HR, hr, rfl, rfl, HM, hM⟩ := hrel
    by_cases hlt : r < 7
    · go_wp2
      go_round
      case rel => exact ⟨j + 1, M / 2, r + 1, Lib.hid (by have := HR.out; omega), by omega, by go_num, by go_num, Lib.hid (by rw [HM.out, Nat.pow_succ, Nat.div_div_eq_div_mul]), by omega⟩
      case measure => simp [intOf]; omega
    · go_wp2
      go_ret2
      have hr7 : 7 - k % 8 = j := by have := HR.out; omega
      exact ⟨ret2 (by rw [HB.out, hr7, ← HM.out]; omega), rfl⟩
theorem Bit_any (A : Option Addr) (n c : Nat) (l : List UInt8) (i : Int) (w : World) (h : Bs w A n l) (hn : n ≤ 140737488355328) (hi : i ≤ 9223372036854775807) :
    Calls Tryd.prog 44 #[.slice A n c, .int .i64 i] w fun e w' => e = .returned (.tuple #[.int .i64 (bitV l i), .int .i64 (bitE l i)]) ∧ w = w' := by
  unfold bitV bitE
  rw [h.1]
  by_cases hp : 0 ≤ i ∧ i < 8 * n
  · rw [if_pos hp, if_pos hp]
    obtain ⟨k, rfl⟩ := Int.eq_ofNat_of_zero_le hp.1
    exact Bit_ok A n c k l w h (by omega) hn
  · rw [if_neg hp, if_neg hp]; exact Bit_no A n c i w (by omega) hi
theorem RefBit_any (A : Option Addr) (n c : Nat) (l : List UInt8) (i : Int) (w : World) (h : Bs w A n l) (hn : n ≤ 140737488355328) (hi : i ≤ 9223372036854775807) :
    Calls Tryd.prog 24 #[.slice A n c, .int .i64 i] w fun e w' => e = .returned (.tuple #[.int .i64 (bitV l i), .int .i64 (bitE l i)]) ∧ w = w' := by
  unfold bitV bitE
  rw [h.1]
  by_cases hp : 0 ≤ i ∧ i < 8 * n
  · rw [if_pos hp, if_pos hp]
    obtain ⟨k, rfl⟩ := Int.eq_ofNat_of_zero_le hp.1
    exact RefBit_ok A n c k l w h (by omega) hn
  · rw [if_neg hp, if_neg hp]; exact RefBit_no A n c i w (by omega) hi
end Go.Proofs.YtghihgmgadaoeaaDoor
