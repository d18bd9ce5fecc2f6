/-
  What bits.Bytes and juratref01.Bytes answer, of whatever number and width.
-/
import Derived.Test.YtiidcnjhjojhoaaDoorProg
import Derived.Test.YtiidcnjhjojhoaaDoorNum
import Derived.Test.YtiidcnjhjojhoaaDoorWords
namespace Go.Proofs.YtiidcnjhjojhoaaDoor
open Go.RowKit
theorem Tryd.byteTypes : ByteTypes Tryd.prog 51 5 := ⟨Tryd.underlying51, by kernel_rfl⟩
theorem made_byte (P : Program) {t e : TypeId} (T : ByteTypes P t e) (n : Nat) (hn : n ≤ 140737488355328) (w : World) :
    (Instr.makeSlice t (.int .i64 (n : Int)) (.int .i64 (n : Int))).run P w = .ok (.slice (some ⟨w.heap.size, 0, none⟩) n n) (w.alloc (.cells (madeCells #[.int .u8 0] n) e)) := by
  obtain ⟨i, hi, hz, hsize, hby⟩ := info_parts T.hi
  have hr := run_make (P := P) w t e i (.int .u8 0) T.ht hi hz .i64 .i64 n n (by omega) (by omega) (by rw [hby]; omega) (by omega)
  simp only [Int.toNat_natCast, hsize, Nat.mul_one] at hr
  exact hr
theorem byte_at (N k : Nat) : (N : Int) / 2 ^ (8 * k) % 256 = ((UInt8.ofNat (N / 256 ^ k)).toNat : Int) := by
  have e : (2 : Nat) ^ (8 * k) = 256 ^ k := by rw [Nat.pow_mul]
  rw [UInt8.toNat_ofNat', ← e]
  simp
/-- a slice of bytes in new memory, and no error: the bytes are l -/
def NewBytes (w : World) (t : TypeId) (W : Nat) (l : List UInt8) (e : Ending) (w' : World) : Prop :=
  ∃ A c, e = .returned (.tuple #[.slice A W c, .int .i64 0]) ∧ Own w' w.heap.size t (.slice A W c) W l ∧ Below w.heap.size w w'
set_option maxHeartbeats 400000 in
theorem Bytes_ok (N W : Nat) (w : World) (_hN : N < 18446744073709551616) (hW : W ≤ 8) :
    Calls Tryd.prog 46 #[.int .u64 (N : Int), .int .i64 (W : Int)] w (NewBytes w 5 W (bytesOf N W)) := by
  have hmk := made_byte Tryd.prog Tryd.byteTypes W (by omega)
  go_enter Tryd.func46, Tryd.ntmps46
  go_wp2
  go_loopw [17] (fun i wr => ∃ k : Nat, k ≤ W ∧ i = .int .i64 k ∧ Below w.heap.size w wr ∧ ∃ cs : Array Value, Row wr w.heap.size 5 cs ∧ cs.size = W ∧ ∀ j, j < W → W ≤ j + k → cs[j]? = some (.int .u8 ((UInt8.ofNat (N / 256 ^ (W - 1 - j))).toNat : Int))) (fun i _ => W - (intOf i).toNat)
  case atStart =>
    refine ⟨0, Nat.zero_le _, rfl, (Below.refl _ _).alloc (Nat.le_refl _) _, _, Row.new _ _ _, size_madeCells _ _, fun j h1 h2 => by omega⟩
  case round =>
    obtain ⟨k, hk, rfl, hbel, cs, hrow, hsz, hcs⟩ := hrel
    by_cases hlt : k < W
    · have hcell := hrow.cell (W - 1 - k)
      have hfz := hrow.frozen (W - 1 - k)
      have hin : W - 1 - k < cs.size := by omega
      rw [Array.getElem?_eq_getElem hin] at hcell
      have HB := Lib.hid (byte_at N k)
      have HC := Lib.hid hcs
      have HS := Lib.hid hsz
      clear hcs hsz
      go_wp2
      go_roundw
      case rel =>
        refine ⟨k + 1, by omega, by go_num, hbel.setCell (Nat.le_refl _) _, _, hrow.set _ _, by rw [Array.size_setIfInBounds]; exact HS.out, ?_⟩
        intro j h1 h2
        rw [Array.getElem?_setIfInBounds]
        by_cases hj : W - 1 - k = j
        · rw [if_pos hj, if_pos hin, HB.out, ← hj, show W - 1 - (W - 1 - k) = k by omega]
        · rw [if_neg hj]; exact HC.out j h1 (by omega)
      case measure => simp [intOf]; omega
    · have HC := Lib.hid hcs
      have HS := Lib.hid hsz
      clear hcs hsz
      go_wp2
      go_ret2
      refine ⟨_, _, rfl, hrow.own (Nat.le_refl _) (bytesOf_length _ _) HS.out (by omega) ?_, hbel⟩
      intro j x hx
      have hj : j < W := by rw [← bytesOf_length N W]; exact (List.getElem?_eq_some_iff.1 hx).1
      rw [bytesOf_get N W j hj] at hx
      injection hx with hx
      rw [HC.out j hj (by omega), hx]
set_option maxHeartbeats 400000 in
theorem Bytes_no (N W : Int) (w : World) (hW : W < 0 ∨ 8 < W) :
    Calls Tryd.prog 46 #[.int .u64 N, .int .i64 W] w fun e w' => e = .returned (.tuple #[.slice none 0 0, .int .i64 1]) ∧ w = w' := by
  by_cases h : W < 0
  · clear hW
    go_enter Tryd.func46, Tryd.ntmps46
    go_wp2
    go_ret2
    exact ⟨rfl, rfl⟩
  · have h8 : 8 < W := by omega
    clear hW
    go_enter Tryd.func46, Tryd.ntmps46
    go_wp2
    go_ret2
    exact ⟨rfl, rfl⟩
set_option maxHeartbeats 400000 in
theorem RefBytes_no (N W : Int) (w : World) (hW : W < 0 ∨ 8 < W) :
    Calls Tryd.prog 47 #[.int .u64 N, .int .i64 W] w fun e w' => e = .returned (.tuple #[.slice none 0 0, .int .i64 1]) ∧ w = w' := by
  by_cases h : W < 0
  · clear hW
    go_enter Tryd.func47, Tryd.ntmps47
    go_wp2
    go_ret2
    exact ⟨rfl, rfl⟩
  · have h8 : 8 < W := by omega
    clear hW
    go_enter Tryd.func47, Tryd.ntmps47
    go_wp2
    go_ret2
    exact ⟨rfl, rfl⟩
theorem one_new (w : World) (M : Nat) (t : TypeId) : Own (w.alloc (.cells #[.int .u8 ((M : Int) % 256)] t)) w.heap.size t (.slice (some ⟨w.heap.size, 0, none⟩) 1 1) 1 [UInt8.ofNat M] := by
  refine (Row.new w t _).own (Nat.le_refl _) rfl rfl (by omega) ?_
  intro j x hx
  rcases j with _ | j
  · simp at hx
    subst hx
    rw [UInt8.toNat_ofNat']
    simp
  · simp at hx
set_option maxHeartbeats 400000 in
theorem RefBytes_ok (N W : Nat) (w : World) (hN : N < 18446744073709551616) (hW : W ≤ 8) :
    Calls Tryd.prog 47 #[.int .u64 (N : Int), .int .i64 (W : Int)] w (NewBytes w 5 W (bytesOf N W)) := by
  go_enter Tryd.func47, Tryd.ntmps47
  go_wp2
  go_loopw [0, 6, 7] (fun n o i wr => ∃ (k M : Nat) (A : Option Addr) (c : Nat), k ≤ W ∧ i = .int .i64 k ∧ n = .int .u64 (M : Int) ∧ o = .slice A k c ∧ Hid (M = N / 256 ^ k) ∧ M < 18446744073709551616 ∧ Below w.heap.size w wr ∧ Own wr w.heap.size 5 (.slice A k c) k (bytesOf N k)) (fun _ _ i _ => W - (intOf i).toNat)
  case atStart =>
    exact ⟨0, N, none, 0, Nat.zero_le _, rfl, rfl, rfl, Lib.hid (by simp), hN, Below.refl _ _, Own.nil _ _ _⟩
  case round =>
    obtain ⟨k, M, A, c, hk, rfl, rfl, rfl, HM, hM, hbel, hown⟩ := hrel
    by_cases hlt : k < W
    · have HO := Lib.hid hown
      have hsz := hbel.size
      clear hown
      go_wp2_with (at_builtin; refine wpList_app Tryd.byteTypes rfl (.tmp 22) (.tmp 23) rfl w.heap.size _ 1 [UInt8.ofNat M] rfl ((one_new wr M 5).mono hsz) A k c (bytesOf N k) rfl (HO.out.bs.below ((Below.refl _ _).alloc (Nat.le_refl _) _)) (by omega) (by simp; omega) ?_; intro A' c' w1 hown1 hbel1 hgr1; clear hgr1)
      go_roundw
      case rel =>
        refine ⟨k + 1, M / 256, A', c', by omega, by go_num, by go_num, by rw [Nat.add_comm], Lib.hid (by rw [HM.out, Nat.div_div_eq_div_mul, Nat.pow_succ]), by omega, (hbel.alloc hsz _).trans hbel1, ?_⟩
        rw [bytesOf_succ, ← HM.out, Nat.add_comm]
        exact hown1
      case measure => simp [intOf]; omega
    · have HO := Lib.hid hown
      clear hown
      obtain rfl : k = W := by omega
      go_wp2
      go_ret2
      exact ⟨_, _, rfl, HO.out, hbel⟩
end Go.Proofs.YtiidcnjhjojhoaaDoor
