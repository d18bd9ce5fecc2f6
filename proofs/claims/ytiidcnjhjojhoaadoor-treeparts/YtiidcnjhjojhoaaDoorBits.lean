/-
  What bits.join, bits.Word, bits.Number and juratref01.Word, juratref01.Number, juratref01.Same answer, of whatever bytes.
-/
import Derived.Test.YtiidcnjhjojhoaaDoorProg
import Derived.Test.YtiidcnjhjojhoaaDoorNum
import Derived.Test.YtiidcnjhjojhoaaDoorWords
import Derived.Deep.QuietTactic
import Derived.BigQuiet
namespace Go.Proofs.YtiidcnjhjojhoaaDoor
open Go.RowKit
theorem ret2 {k : IntKind} {a b : Int} {v : Value} (h : a = b) : Ending.returned (.tuple #[.int k a, v]) = .returned (.tuple #[.int k b, v]) := by rw [h]
theorem retI {k : IntKind} {a b : Int} (h : a = b) : Ending.returned (.int k a) = .returned (.int k b) := by rw [h]
set_option maxHeartbeats 400000 in
theorem join_any (A : Option Addr) (n c : Nat) (l : List UInt8) (w : World) (h : Bs w A n l) (hn : n ≤ 8) :
    Calls Tryd.prog 51 #[.slice A n c] w fun e w' => e = .returned (.int .u64 (num l : Int)) ∧ w = w' := by
  go_enter Tryd.func51, Tryd.ntmps51
  go_wp2
  go_loop [3, 8] (fun t i => ∃ k : Nat, k ≤ n ∧ i = .int .i64 k ∧ t = .int .u64 (num (l.take k) : Int)) (fun _ i => n - (intOf i).toNat)
  case atStart => exact ⟨0, Nat.zero_le _, rfl, rfl⟩
  case round =>
    obtain ⟨k, hk, rfl, rfl⟩ := hrel
    have HL := Lib.hid h.1
    by_cases hlt : k < n
    · obtain ⟨b, off, x, rfl, hb, hx, hc⟩ := h.get hlt
      have hx256 := byte_lt x
      have hN : num (l.take k) < 72057594037927936 := num_lt' _ 7 (by rw [List.length_take]; omega)
      have HT := Lib.hid (num_take hx)
      have HO := Lib.hid (u64_or_byte (num (l.take k)) x.toNat hN hx256)
      have h' := Lib.hid h
      clear hx h
      generalize num (l.take k) = N at *
      go_wp2
      go_round
      case rel => exact ⟨k + 1, by omega, by go_num, by rw [HT.out, HO.out]⟩
      case measure => simp [intOf]; omega
    · go_wp2
      go_ret
      exact ⟨retI (by rw [List.take_of_length_le (by rw [HL.out]; omega)]), rfl⟩
set_option maxHeartbeats 400000 in
theorem Word_no (A : Option Addr) (n c : Nat) (p : Int) (w : World) (hp : p < 0 ∨ (n : Int) < p + 4) (hn : n ≤ 140737488355328) :
    Calls Tryd.prog 43 #[.slice A n c, .int .i64 p] w fun e w' => e = .returned (.tuple #[.int .u32 0, .int .i64 1]) ∧ w = w' := by
  by_cases h : p < 0
  · clear hp
    go_enter Tryd.func43, Tryd.ntmps43
    go_wp2_with fail
    go_ret2
    exact ⟨rfl, rfl⟩
  · have hq : (n : Int) - 4 < p := by omega
    clear hp
    go_enter Tryd.func43, Tryd.ntmps43
    go_wp2_with fail
    go_ret2
    exact ⟨rfl, rfl⟩
set_option maxHeartbeats 400000 in
theorem Word_ok (A : Option Addr) (n c : Nat) (l : List UInt8) (p : Int) (w : World) (h : Bs w A n l) (hc : n ≤ c) (hp : 0 ≤ p) (hp4 : p + 4 ≤ n) (hn : n ≤ 140737488355328) :
    Calls Tryd.prog 43 #[.slice A n c, .int .i64 p] w fun e w' => e = .returned (.tuple #[.int .u32 (num ((l.drop p.toNat).take 4) : Int), .int .i64 0]) ∧ w = w' := by
  obtain ⟨k, rfl⟩ := Int.eq_ofNat_of_zero_le hp
  rw [Int.toNat_natCast]
  have hk4 : k + 4 ≤ n := by omega
  obtain ⟨b, off, x, rfl, hb, hx, hcell⟩ := h.get (k := k) (by omega)
  have hB := Lib.hid ((h.drop (m := k)).take (m := 4) (by omega))
  have hN := num_lt' ((l.drop k).take 4) 4 (by rw [List.length_take]; omega)
  clear hcell hx h
  generalize (l.drop k).take 4 = q at *
  go_enter Tryd.func43, Tryd.ntmps43
  go_wp2_with fail
  refine (join_any _ _ _ q _ hB.out (by omega)).mono ?_
  rintro e w' ⟨rfl, rfl⟩
  go_wp2
  go_ret2
  exact ⟨rfl, rfl⟩
set_option maxHeartbeats 400000 in
theorem RefWord_no (A : Option Addr) (n c : Nat) (p : Int) (w : World) (hp : p < 0 ∨ (n : Int) < p + 4) (hn : n ≤ 140737488355328) :
    Calls Tryd.prog 48 #[.slice A n c, .int .i64 p] w fun e w' => e = .returned (.tuple #[.int .u32 0, .int .i64 1]) ∧ w = w' := by
  by_cases h : p < 0
  · clear hp
    go_enter Tryd.func48, Tryd.ntmps48
    go_wp2_with fail
    go_ret2
    exact ⟨rfl, rfl⟩
  · have hq : (n : Int) - 4 < p := by omega
    clear hp
    by_cases h4 : n < 4
    · go_enter Tryd.func48, Tryd.ntmps48
      go_wp2_with fail
      go_ret2
      exact ⟨rfl, rfl⟩
    · go_enter Tryd.func48, Tryd.ntmps48
      go_wp2_with fail
      go_ret2
      exact ⟨rfl, rfl⟩
theorem num4 {l : List UInt8} {k : Nat} {x0 x1 x2 x3 : UInt8} (h0 : l[k]? = some x0) (h1 : l[k + 1]? = some x1) (h2 : l[k + 2]? = some x2) (h3 : l[k + 3]? = some x3) :
    num ((l.drop k).take 4) = x0.toNat * 16777216 + x1.toNat * 65536 + x2.toNat * 256 + x3.toNat := by
  have g : ∀ i x, l[k + i]? = some x → (l.drop k)[i]? = some x := fun i x h => by rw [List.getElem?_drop]; exact h
  rw [num_take (g 3 _ h3), num_take (g 2 _ h2), num_take (g 1 _ h1), num_take (g 0 _ h0)]
  simp [num]
  omega
set_option maxHeartbeats 400000 in
theorem RefWord_ok (A : Option Addr) (n c : Nat) (l : List UInt8) (p : Int) (w : World) (h : Bs w A n l) (hp : 0 ≤ p) (hp4 : p + 4 ≤ n) (hn : n ≤ 140737488355328) :
    Calls Tryd.prog 48 #[.slice A n c, .int .i64 p] w fun e w' => e = .returned (.tuple #[.int .u32 (num ((l.drop p.toNat).take 4) : Int), .int .i64 0]) ∧ ∃ m, w' = w.drewN m := by
  obtain ⟨k, rfl⟩ := Int.eq_ofNat_of_zero_le hp
  rw [Int.toNat_natCast]
  have hk4 : k + 4 ≤ n := by omega
  obtain ⟨b, off, x0, rfl, hb, g0, c0⟩ := h.get (k := k) (by omega)
  obtain ⟨b', off', x1, e1, _, g1, c1⟩ := h.get (k := k + 1) (by omega)
  obtain ⟨b'', off'', x2, e2, _, g2, c2⟩ := h.get (k := k + 2) (by omega)
  obtain ⟨b3, off3, x3, e3, _, g3, c3⟩ := h.get (k := k + 3) (by omega)
  simp only [Option.some.injEq, Addr.mk.injEq, and_true] at e1 e2 e3
  obtain ⟨rfl, rfl⟩ := e1
  obtain ⟨rfl, rfl⟩ := e2
  obtain ⟨rfl, rfl⟩ := e3
  rw [num4 g0 g1 g2 g3]
  have l0 := byte_lt x0
  have l1 := byte_lt x1
  have l2 := byte_lt x2
  have l3 := byte_lt x3
  have i0 : (0 : Int) ≤ (k : Int) := by omega
  have i3 : (k : Int) + 3 < (n : Int) := by omega
  have i2 : (k : Int) + 2 < (n : Int) := by omega
  have i1 : (k : Int) + 1 < (n : Int) := by omega
  have i00 : (k : Int) < (n : Int) := by omega
  clear g0 g1 g2 g3 h
  go_enter Tryd.func48, Tryd.ntmps48
  go_wp2_with fail
  go_quiet (fail)
  go_wp2
  go_ret2
  exact ⟨ret2 (by omega), _, rfl⟩
end Go.Proofs.YtiidcnjhjojhoaaDoor
