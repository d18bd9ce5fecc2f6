/-
  What bits.join, bits.Word, bits.Number and juratref01.Word, juratref01.Number, juratref01.Same answer, of whatever bytes.
-/
import Derived.Test.YtjifahocfbbicaaProg
import Derived.Test.YtjifahocfbbicaaNum
import Derived.Test.YtjifahocfbbicaaWords
import Derived.Deep.QuietTactic
import Derived.BigQuiet
namespace Go.Proofs.Ytjifahocfbbicaa
open Go.RowKit
theorem ret2 {k : IntKind} {a b : Int} {v : Value} (h : a = b) : Ending.returned (.tuple #[.int k a, v]) = .returned (.tuple #[.int k b, v]) := by rw [h]
theorem retI {k : IntKind} {a b : Int} (h : a = b) : Ending.returned (.int k a) = .returned (.int k b) := by rw [h]
set_option maxHeartbeats 400000 in
theorem join_any (A : Option Addr) (n c : Nat) (l : List UInt8) (w : World) (h : Bs w A n l) (hn : n ≤ 8) :
    Calls Try.prog 49 #[.slice A n c] w fun e w' => e = .returned (.int .u64 (num l : Int)) ∧ w = w' := by
  go_enter Try.func49, Try.ntmps49
  go_wp2
  go_loop [3, 8] (fun t i => ∃ k : Nat, k ≤ n ∧ i = .int .i64 k ∧ t = .int .u64 (num (l.take k) : Int)) (fun _ i => n - (intOf i).toNat)
  case atStart => exact ⟨0, Nat.zero_le _, rfl, rfl⟩
  case round =>
    obtain ⟨k, hk, rfl, rfl⟩ := hrel
    have HL := Lib.hid h.1
    by_cases hlt : k < n
    · obtain ⟨b, off, x, rfl, hb, hx, hc⟩ := h.get hlt
      have hx256 := byte_lt x
      have hN : num (l.take k) < 72057594037927936 := num_lt' _ 7 (by rw [List.length_take]; omega)
      have HT := Lib.hid (num_take hx)
      have HO := Lib.hid (u64_or_byte (num (l.take k)) x.toNat hN hx256)
      have h' := Lib.hid h
      clear hx h
      generalize num (l.take k) = N at *
      go_wp2
      go_round
      case rel => exact ⟨k + 1, by omega, by go_num, by rw [HT.out, HO.out]⟩
      case measure => simp [intOf]; omega
    · go_wp2
      go_ret
      exact ⟨retI (by rw [List.take_of_length_le (by rw [HL.out]; omega)]), rfl⟩
theorem num4 {l : List UInt8} {k : Nat} {x0 x1 x2 x3 : UInt8} (h0 : l[k]? = some x0) (h1 : l[k + 1]? = some x1) (h2 : l[k + 2]? = some x2) (h3 : l[k + 3]? = some x3) :
    num ((l.drop k).take 4) = x0.toNat * 16777216 + x1.toNat * 65536 + x2.toNat * 256 + x3.toNat := by
  have g : ∀ i x, l[k + i]? = some x → (l.drop k)[i]? = some x := fun i x h => by rw [List.getElem?_drop]; exact h
  rw [num_take (g 3 _ h3), num_take (g 2 _ h2), num_take (g 1 _ h1), num_take (g 0 _ h0)]
  simp [num]
  omega
end Go.Proofs.Ytjifahocfbbicaa
