/-
  What is answered at whatever arguments, in one form each: the document's own Root, Path, Climb.
-/
import Derived.Test.YtiidcnjhjojhoaaDoorLive
import Derived.Test.YtiidcnjhjojhoaaDoorRefT
import Derived.Test.YtiidcnjhjojhoaaDoorRefC
namespace Go.Proofs.YtiidcnjhjojhoaaDoor
open Go.RowKit
theorem RefRoot_any (A : Option Addr) (n c : Nat) (L : List (List UInt8)) (w : World) (hc : n ≤ c) (hD : Ds w A n L) (hF : First w) (hT : Tab 2 w) : Calls Tryd.prog 12 #[.slice A n c] w (RecD w (rootI L) (errT L.length)) := by
  unfold rootI errT
  have hl := hD.1
  cases ho : okT (L.length : Int)
  · exact RefRoot_no A n c w (by rw [← hl]; exact ho)
  · obtain ⟨h1, h2⟩ := okT_log ho
    exact RefRoot_ok (Nat.log2 L.length) A n c L w h1 (by rw [← h2]; exact hl.symm) hc hD hF hT
theorem RefPath_any (A : Option Addr) (n c : Nat) (i : Int) (L : List (List UInt8)) (w : World) (hc : n ≤ c) (hD : Ds w A n L) (hF : First w) (hT : Tab 2 w) : Calls Tryd.prog 16 #[.slice A n c, .int .i64 i] w (NewD w (pathI L i) (errP L.length i)) := by
  unfold pathI errP
  have hl := hD.1
  cases ho : okP L.length i
  · exact RefPath_no A n c i w (by rw [← hl]; exact okP_no ho)
  · obtain ⟨h0, j, rfl, hj⟩ := okP_yes ho
    obtain ⟨h1, h2⟩ := okT_log h0
    exact RefPath_ok (Nat.log2 L.length) A n c j L w h1 (by rw [← h2]; exact hl.symm) hc (by omega) hD hF hT
theorem wf_i64 {i : Int} (h : (Lit.int .i64 i).wf = true) : i < 9223372036854775808 := by
  simp only [Lit.wf, Bool.and_eq_true, IntKind.min, IntKind.max] at h
  obtain ⟨_, h2⟩ := h
  simp [IntKind.bits, IntKind.signed] at h2
  omega
theorem RefClimb_all (d : List UInt8) (i : Int) (A : Option Addr) (n c : Nat) (P : List (List UInt8)) (w : World) (hd : d.length = 32) (hi : i < 9223372036854775808) (hD : Ds w A n P) (hF : First w) (hT : Tab 2 w) :
    Calls Tryd.prog 19 #[.agg (bcells d), .int .i64 i, .slice A n c] w (RecD w (climbI d i P) (errC P.length i)) := by
  have hl := hD.1
  by_cases h1 : n ≤ 10
  · by_cases h2 : i < 0
    · have ho : okC P.length i = false := by unfold okC; rw [hl]; simp; omega
      unfold climbI errC
      rw [ho]
      exact RefClimb_neg d A n c i w h1 h2
    · obtain ⟨j, rfl⟩ := Int.eq_ofNat_of_zero_le (show 0 ≤ i by omega)
      refine RefClimb_any d A n c j P w _ _ hd h1 (by omega) hD hF hT (fun h => ?_) (fun h => ?_)
      · have ho : okC P.length (j : Int) = true := by
          unfold okC
          rw [hl]
          simp only [Bool.and_eq_true, decide_eq_true_eq]
          omega
        unfold climbI errC
        rw [ho]
        exact ⟨rfl, rfl⟩
      · have ho : okC P.length (j : Int) = false := by
          unfold okC
          rw [hl]
          simp only [Bool.and_eq_false_iff, decide_eq_false_iff_not]
          omega
        unfold climbI errC
        rw [ho]
        exact ⟨rfl, rfl⟩
  · have ho : okC P.length i = false := by unfold okC; rw [hl]; simp; omega
    unfold climbI errC
    rw [ho]
    exact RefClimb_long d A n c i w (by omega)
end Go.Proofs.YtiidcnjhjojhoaaDoor
