/-
  What juratref01.Hex answers, of whatever bytes.
-/
import Derived.Test.YtlhookkmneeefaaHex
namespace Go.Proofs.Ytlhookkmneeefaa
open Go.RowKit
set_option maxHeartbeats 1000000 in
theorem RefHex_any (A : Option Addr) (n c : Nat) (l : List UInt8) (w : World) (h : Bs w A n l) (hn : n ≤ 70368744177664) :
    Calls Try.prog 21 #[.slice A n c] w fun e w' => e = .returned (.string ⟨(hexL l).toArray⟩) ∧ Below w.heap.size w w' := by
  go_enter Try.func21, Try.ntmps21
  go_wp2
  go_loopw [3, 4] (fun t i wr => ∃ (k : Nat) (A' : Option Addr) (c' : Nat), k ≤ n ∧ i = .int .i64 (k : Int) ∧ t = .slice A' (2 * k) c' ∧ Below w.heap.size w wr ∧ Own wr w.heap.size 5 (.slice A' (2 * k) c') (2 * k) (hexL (l.take k))) (fun _ i _ => n - (intOf i).toNat)
  case atStart => exact ⟨0, none, 0, by omega, rfl, rfl, Below.refl _ _, Own.nil _ _ _⟩
  case round =>
    obtain ⟨k, A', c', hk, rfl, rfl, hbel, hown⟩ := hrel
    have HO := Lib.hid hown
    have hsz := hbel.size
    clear hown
    by_cases hlt : k < n
    · obtain ⟨b, off, x, rfl, hb, hx, hc0⟩ := h.get hlt
      have hc : wr.cell? ⟨b, off + k, none⟩ = some (.int .u8 (x.toNat : Int)) := (hbel.cell (p := ⟨b, off + k, none⟩) hb).trans hc0
      have hx256 := byte_lt x
      have HX := Lib.hid (hexL_take hx)
      have HB := Lib.hid hbel
      have i0 : (0 : Int) ≤ (k : Int) := by omega
      have i5 : (k : Int) < (n : Int) := by omega
      have i1 : (x.toNat : Int) / 16 < 16 := by omega
      have i2 : (x.toNat : Int) % 16 < 16 := by omega
      have i3 : 0 ≤ (x.toNat : Int) / 16 := by omega
      have i4 : 0 ≤ (x.toNat : Int) % 16 := by omega
      have hbr : b < wr.heap.size := by omega
      have q1 : (x.toNat : Int).tdiv 16 = (x.toNat : Int) / 16 := Int.tdiv_eq_ediv_of_nonneg (by omega)
      have q3 : IntKind.u8.wrap ((x.toNat : Int) / 16) = (x.toNat : Int) / 16 := by simp [IntKind.wrap, IntKind.bits, IntKind.signed]; omega
      have q2 : (x.toNat : Int).tmod 16 = (x.toNat : Int) % 16 := Int.tmod_eq_emod_of_nonneg (by omega)
      clear hx hc0 h hbel
      go_wp2
      go_region_held3 (fun w' => w'.cell? ⟨b, off + k, none⟩ = some (.int .u8 (x.toNat : Int))) (first | go_keep | (rw [hbel2.cell (p := ⟨b, off + k, none⟩) hb]; go_keep))
        ((refine step_app Try.byteTypes (by rfl) (.tmp 11) (.tmp 24) (by rfl) w.heap.size _ (2 * k) (hexL (l.take k)) (by rfl) ((HO.out.alloc _).drew) _ 2 2 (hexL [x]) (by rfl) (by exact two_digits_drew _ x 5 _ _ (dig_div x _) (dig_mod x _)) (by omega) (by simp; omega) ?_; intro A2 c2 w2 hown2 hbel2))
      all_goals
        go_wp2
        go_roundw
        case rel => exact ⟨k + 1, A2, c2, by omega, by go_num, rfl, ((HB.out.alloc hsz _).drew).trans hbel2, by rw [HX.out]; exact hown2⟩
        case measure => simp [intOf]; omega
    · have hcv := run_str (P := Try.prog) Try.underlying26 Try.underlying5 Try.underlying9 c' HO.out.bs
      have HL := Lib.hid (show l.take k = l from List.take_of_length_le (by rw [h.1]; omega))
      go_wp2
      go_ret
      exact ⟨retS (by rw [HL.out]), hbel⟩
end Go.Proofs.Ytlhookkmneeefaa
