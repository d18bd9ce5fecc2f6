/-
  What juratref01.Same answers: true just where the bytes are the same.
-/
import Derived.Test.YtjifahocfbbicaaProg
import Derived.Test.YtjifahocfbbicaaNum
import Derived.Test.YtjifahocfbbicaaWords
import Derived.Deep.QuietTactic
import Derived.BigQuiet
namespace Go.Proofs.Ytjifahocfbbicaa
open Go.RowKit
set_option maxHeartbeats 400000 in
theorem Same_yes (A B : Option Addr) (n c d : Nat) (l : List UInt8) (w : World) (h : Bs w A n l) (h2 : Bs w B n l) (hn : n ≤ 281474976710656) :
    Calls Try.prog 12 #[.slice A n c, .slice B n d] w fun e w' => e = .returned (.bool true) ∧ ∃ m, w' = w.drewN m := by
  have hne : ((n : Int) != (n : Int)) = false := by simp
  go_enter Try.func12, Try.ntmps12
  go_wp2
  go_loopw [5] (fun i wr => ∃ k j : Nat, k ≤ n ∧ i = .int .i64 k ∧ wr = w.drewN j) (fun i _ => n - (intOf i).toNat)
  case atStart => exact ⟨0, 0, Nat.zero_le _, rfl, rfl⟩
  case round =>
    obtain ⟨k, j, hk, rfl, rfl⟩ := hrel
    by_cases hlt : k < n
    · obtain ⟨b, off, x, rfl, hb, hx, hc⟩ := h.get hlt
      obtain ⟨b2, off2, x2, rfl, hb2, hx2, hc2⟩ := h2.get hlt
      obtain rfl : x2 = x := by rw [hx] at hx2; injection hx2 with e; exact e.symm
      have hi : (k : Int) < (n : Int) := by omega
      have hz : ((x2.toNat : Int) != (x2.toNat : Int)) = false := by simp
      clear hx hx2 h h2
      go_wp2
      go_quiet (fail)
      go_wp2
      go_roundw
      case rel => exact ⟨k + 1, _, by omega, by go_num, rfl⟩
      case measure => simp [intOf]; omega
    · go_wp2
      go_ret
      exact ⟨rfl, _, rfl⟩
set_option maxHeartbeats 400000 in
theorem Same_no (A B : Option Addr) (n m c d : Nat) (l r : List UInt8) (w : World) (h : Bs w A n l) (h2 : Bs w B m r) (hn : n ≤ 281474976710656) (hm : m ≤ 281474976710656) (hne : l ≠ r) :
    Calls Try.prog 12 #[.slice A n c, .slice B m d] w fun e w' => e = .returned (.bool false) ∧ ∃ m, w' = w.drewN m := by
  have HN := Lib.hid hne
  clear hne
  by_cases hmn : n = m
  · subst hmn
    have hnn : ((n : Int) != (n : Int)) = false := by simp
    go_enter Try.func12, Try.ntmps12
    go_wp2
    go_loopw [5] (fun i wr => ∃ k j : Nat, k ≤ n ∧ i = .int .i64 k ∧ wr = w.drewN j ∧ Hid (l.take k = r.take k)) (fun i _ => n - (intOf i).toNat)
    case atStart => exact ⟨0, 0, Nat.zero_le _, rfl, rfl, Lib.hid rfl⟩
    case round =>
      obtain ⟨k, j, hk, rfl, rfl, HK⟩ := hrel
      by_cases hlt : k < n
      · obtain ⟨b, off, x, rfl, hb, hx, hc⟩ := h.get hlt
        obtain ⟨b2, off2, x2, rfl, hb2, hx2, hc2⟩ := h2.get hlt
        have hi : (k : Int) < (n : Int) := by omega
        by_cases hxx : x = x2
        · subst hxx
          have HK' := Lib.hid (show l.take (k + 1) = r.take (k + 1) by rw [take_snoc hx, take_snoc hx2, HK.out])
          have hz : ((x.toNat : Int) != (x.toNat : Int)) = false := by simp
          clear hx hx2 h h2
          go_wp2
          go_quiet (fail)
          go_wp2
          go_roundw
          case rel => exact ⟨k + 1, _, by omega, by go_num, rfl, HK'⟩
          case measure => simp [intOf]; omega
        · have hz : ((x.toNat : Int) != (x2.toNat : Int)) = true := by
            rw [bne_iff_ne]
            intro e
            exact hxx (UInt8.toNat_inj.1 (by omega))
          clear hx hx2 h h2 hxx
          go_wp2
          go_quiet (fail)
          go_wp2
          go_ret
          exact ⟨rfl, _, World.drewN_drewN _ _ _⟩
      · exact absurd (by
          have e := HK.out
          rwa [List.take_of_length_le (by rw [h.1]; omega), List.take_of_length_le (by rw [h2.1]; omega)] at e) HN.out
  · have hnn : ((n : Int) != (m : Int)) = true := by rw [bne_iff_ne]; omega
    clear hmn h h2
    go_enter Try.func12, Try.ntmps12
    go_wp2
    go_ret
    exact ⟨rfl, 0, rfl⟩
theorem Same_same (A B : Option Addr) (n m c d : Nat) (l : List UInt8) (w : World) (h : Bs w A n l) (h2 : Bs w B m l) (hn : n ≤ 281474976710656) :
    Calls Try.prog 12 #[.slice A n c, .slice B m d] w fun e w' => e = .returned (.bool true) ∧ ∃ m, w' = w.drewN m := by
  obtain rfl : m = n := h2.1.symm.trans h.1
  exact Same_yes A B m c d l w h h2 hn
end Go.Proofs.Ytjifahocfbbicaa
