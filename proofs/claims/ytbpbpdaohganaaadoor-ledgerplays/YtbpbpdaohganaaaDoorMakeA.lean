/-
  What proof.Include and proof.Consist, and the document's own, answer of any list of up to a thousand digests: the proof, or the error.
-/
import Derived.Test.YtbpbpdaohganaaaDoorParA
namespace Go.Proofs.YtbpbpdaohganaaaDoor
open Go.RowKit
/-- the proofs of places and of beginnings, and the errors -/
def incI (L : List (List UInt8)) (i : Int) : List (List UInt8) := if 0 ≤ i ∧ i < (L.length : Int) then incP nodeL (sumL []) L i.toNat else []
def errI (n : Nat) (i : Int) : Int := if 0 ≤ i ∧ i < (n : Int) then 0 else 1
def conI (L : List (List UInt8)) (i : Int) : List (List UInt8) := if 1 ≤ i ∧ i ≤ (L.length : Int) then partP nodeL (sumL []) L i.toNat true else []
def errC (n : Nat) (i : Int) : Int := if 0 ≤ i ∧ i ≤ (n : Int) then 0 else 1
set_option maxRecDepth 100000 in
set_option maxHeartbeats 400000 in
theorem Include_no (A : Option Addr) (n c : Nat) (i : Int) (w : World) (h : i < 0 ∨ (n : Int) ≤ i) : Calls Tryd.prog 37 #[.slice A n c, .int .i64 i] w (NewD w [] 1) := by
  by_cases h0 : i < 0
  · clear h
    go_enter Tryd.func37, Tryd.ntmps37
    go_wp2
    go_ret2
    exact NewD.nil w 1
  · have h1 : (n : Int) ≤ i := by omega
    clear h
    go_enter Tryd.func37, Tryd.ntmps37
    go_wp2
    go_ret2
    exact NewD.nil w 1
set_option maxRecDepth 100000 in
set_option maxHeartbeats 400000 in
theorem Include_ok (A : Option Addr) (n c i : Nat) (L : List (List UInt8)) (w : World) (hn : n ≤ 1024) (hc : n ≤ c) (hi : i < n) (hD : Ds w A n L) (hT : Tab 1 w) : Calls Tryd.prog 37 #[.slice A n c, .int .i64 (i : Int)] w (NewD w (incP nodeL (sumL []) L i) 0) := by
  have HC := Lib.hid (incl_ok A n c i L w hn hc hi hD hT)
  have i0 : ¬ (i : Int) < 0 := by omega
  have i1 : ¬ (n : Int) ≤ (i : Int) := by omega
  generalize incP nodeL (sumL []) L i = Q at *
  clear hD hT hn hi
  go_enter Tryd.func37, Tryd.ntmps37
  go_wp2_with (go_at_call 54; refine HC.out.mono ?_; rintro e1 w1 ⟨A1, c1, rfl, ho1, hb1⟩; have HO1 := Lib.hid ho1; clear ho1)
  go_ret2
  exact HO1.out.new hb1
theorem Include_any (A : Option Addr) (n c : Nat) (i : Int) (L : List (List UInt8)) (w : World) (hn : n ≤ 1024) (hc : n ≤ c) (hD : Ds w A n L) (hT : Tab 1 w) : Calls Tryd.prog 37 #[.slice A n c, .int .i64 i] w (NewD w (incI L i) (errI n i)) := by
  unfold incI errI
  rw [hD.1]
  by_cases h : 0 ≤ i ∧ i < (n : Int)
  · rw [if_pos h, if_pos h]
    obtain ⟨j, rfl⟩ := Int.eq_ofNat_of_zero_le h.1
    exact Include_ok A n c j L w hn hc (by omega) hD hT
  · rw [if_neg h, if_neg h]
    exact Include_no A n c i w (by omega)
set_option maxRecDepth 100000 in
set_option maxHeartbeats 400000 in
theorem Consist_no (A : Option Addr) (n c : Nat) (i : Int) (w : World) (h : i < 0 ∨ (n : Int) < i) : Calls Tryd.prog 39 #[.slice A n c, .int .i64 i] w (NewD w [] 1) := by
  by_cases h0 : i < 0
  · clear h
    go_enter Tryd.func39, Tryd.ntmps39
    go_wp2
    go_ret2
    exact NewD.nil w 1
  · have h1 : (n : Int) < i := by omega
    clear h
    go_enter Tryd.func39, Tryd.ntmps39
    go_wp2
    go_ret2
    exact NewD.nil w 1
set_option maxRecDepth 100000 in
set_option maxHeartbeats 400000 in
theorem Consist_zero (A : Option Addr) (n c : Nat) (w : World) : Calls Tryd.prog 39 #[.slice A n c, .int .i64 0] w (NewD w [] 0) := by
  have h1 : ¬ (n : Int) < 0 := by omega
  go_enter Tryd.func39, Tryd.ntmps39
  go_wp2
  go_ret2
  exact NewD.nil w 0
set_option maxRecDepth 100000 in
set_option maxHeartbeats 400000 in
theorem Consist_ok (A : Option Addr) (n c i : Nat) (L : List (List UInt8)) (w : World) (hn : n ≤ 1024) (hc : n ≤ c) (h1i : 1 ≤ i) (hin : i ≤ n) (hD : Ds w A n L) (hT : Tab 1 w) : Calls Tryd.prog 39 #[.slice A n c, .int .i64 (i : Int)] w (NewD w (partP nodeL (sumL []) L i true) 0) := by
  have HC := Lib.hid (part_ok A n c i true L w hn hc h1i (by omega) hD hT)
  have i0 : ¬ (i : Int) < 0 := by omega
  have i1 : ¬ (n : Int) < (i : Int) := by omega
  have i2 : ((i : Int) == 0) = false := by simp; omega
  generalize partP nodeL (sumL []) L i true = Q at *
  clear hD hT hn hin h1i
  go_enter Tryd.func39, Tryd.ntmps39
  go_wp2_with (go_at_call 56; refine HC.out.mono ?_; rintro e1 w1 ⟨A1, c1, rfl, ho1, hb1⟩; have HO1 := Lib.hid ho1; clear ho1)
  go_ret2
  exact HO1.out.new hb1
theorem Consist_any (A : Option Addr) (n c : Nat) (i : Int) (L : List (List UInt8)) (w : World) (hn : n ≤ 1024) (hc : n ≤ c) (hD : Ds w A n L) (hT : Tab 1 w) : Calls Tryd.prog 39 #[.slice A n c, .int .i64 i] w (NewD w (conI L i) (errC n i)) := by
  unfold conI errC
  rw [hD.1]
  by_cases h : 0 ≤ i ∧ i ≤ (n : Int)
  · rw [if_pos h]
    obtain ⟨j, rfl⟩ := Int.eq_ofNat_of_zero_le h.1
    by_cases h0 : j = 0
    · subst h0
      rw [if_neg (by omega)]
      exact Consist_zero A n c w
    · rw [if_pos (by omega)]
      show Calls Tryd.prog 39 #[.slice A n c, .int .i64 (j : Int)] w (NewD w (partP nodeL (sumL []) L j true) 0)
      exact Consist_ok A n c j L w hn hc (by omega) (by omega) hD hT
  · rw [if_neg h, if_neg (by omega)]
    exact Consist_no A n c i w (by omega)
set_option maxRecDepth 100000 in
set_option maxHeartbeats 400000 in
theorem RefInclude_no (A : Option Addr) (n c : Nat) (i : Int) (w : World) (h : i < 0 ∨ (n : Int) ≤ i) : Calls Tryd.prog 38 #[.slice A n c, .int .i64 i] w (NewD w [] 1) := by
  by_cases h0 : i < 0
  · clear h
    go_enter Tryd.func38, Tryd.ntmps38
    go_wp2
    go_ret2
    exact NewD.nil w 1
  · have h1 : (n : Int) ≤ i := by omega
    clear h
    go_enter Tryd.func38, Tryd.ntmps38
    go_wp2
    go_ret2
    exact NewD.nil w 1
set_option maxRecDepth 100000 in
set_option maxHeartbeats 400000 in
theorem RefInclude_ok (A : Option Addr) (n c i : Nat) (L : List (List UInt8)) (w : World) (hn : n ≤ 1024) (hc : n ≤ c) (hi : i < n) (hD : Ds w A n L) (hF : First w) (hT : Tab 4 w) : Calls Tryd.prog 38 #[.slice A n c, .int .i64 (i : Int)] w (NewD w (incP nodeL (sumL []) L i) 0) := by
  have HC := Lib.hid (Refincl_ok A n c i L w hn hc hi hD hF hT)
  have i0 : ¬ (i : Int) < 0 := by omega
  have i1 : ¬ (n : Int) ≤ (i : Int) := by omega
  generalize incP nodeL (sumL []) L i = Q at *
  clear hD hF hT hn hi
  go_enter Tryd.func38, Tryd.ntmps38
  go_wp2_with (go_at_call 55; refine HC.out.mono ?_; rintro e1 w1 ⟨A1, c1, rfl, ho1, hb1⟩; have HO1 := Lib.hid ho1; clear ho1)
  go_ret2
  exact HO1.out.new hb1
theorem RefInclude_any (A : Option Addr) (n c : Nat) (i : Int) (L : List (List UInt8)) (w : World) (hn : n ≤ 1024) (hc : n ≤ c) (hD : Ds w A n L) (hF : First w) (hT : Tab 4 w) : Calls Tryd.prog 38 #[.slice A n c, .int .i64 i] w (NewD w (incI L i) (errI n i)) := by
  unfold incI errI
  rw [hD.1]
  by_cases h : 0 ≤ i ∧ i < (n : Int)
  · rw [if_pos h, if_pos h]
    obtain ⟨j, rfl⟩ := Int.eq_ofNat_of_zero_le h.1
    exact RefInclude_ok A n c j L w hn hc (by omega) hD hF hT
  · rw [if_neg h, if_neg h]
    exact RefInclude_no A n c i w (by omega)
set_option maxRecDepth 100000 in
set_option maxHeartbeats 400000 in
theorem RefConsist_no (A : Option Addr) (n c : Nat) (i : Int) (w : World) (h : i < 0 ∨ (n : Int) < i) : Calls Tryd.prog 40 #[.slice A n c, .int .i64 i] w (NewD w [] 1) := by
  by_cases h0 : i < 0
  · clear h
    go_enter Tryd.func40, Tryd.ntmps40
    go_wp2
    go_ret2
    exact NewD.nil w 1
  · have h1 : (n : Int) < i := by omega
    clear h
    go_enter Tryd.func40, Tryd.ntmps40
    go_wp2
    go_ret2
    exact NewD.nil w 1
set_option maxRecDepth 100000 in
set_option maxHeartbeats 400000 in
theorem RefConsist_zero (A : Option Addr) (n c : Nat) (w : World) : Calls Tryd.prog 40 #[.slice A n c, .int .i64 0] w (NewD w [] 0) := by
  have h1 : ¬ (n : Int) < 0 := by omega
  go_enter Tryd.func40, Tryd.ntmps40
  go_wp2
  go_ret2
  exact NewD.nil w 0
set_option maxRecDepth 100000 in
set_option maxHeartbeats 400000 in
theorem RefConsist_all (A : Option Addr) (n c : Nat) (w : World) (h : 1 ≤ n) : Calls Tryd.prog 40 #[.slice A n c, .int .i64 (n : Int)] w (NewD w [] 0) := by
  have h1 : ¬ (n : Int) < 0 := by omega
  have h2 : ((n : Int) == 0) = false := by simp; omega
  go_enter Tryd.func40, Tryd.ntmps40
  go_wp2
  go_ret2
  exact NewD.nil w 0
set_option maxRecDepth 100000 in
set_option maxHeartbeats 400000 in
theorem RefConsist_ok (A : Option Addr) (n c i : Nat) (L : List (List UInt8)) (w : World) (hn : n ≤ 1024) (hc : n ≤ c) (h1i : 1 ≤ i) (hin : i < n) (hD : Ds w A n L) (hF : First w) (hT : Tab 4 w) : Calls Tryd.prog 40 #[.slice A n c, .int .i64 (i : Int)] w (NewD w (partP nodeL (sumL []) L i true) 0) := by
  have HC := Lib.hid (Refpart_ok A n c i true L w hn hc h1i (by omega) hD hF hT)
  have i0 : ¬ (i : Int) < 0 := by omega
  have i1 : ¬ (n : Int) < (i : Int) := by omega
  have i2 : ((i : Int) == 0) = false := by simp; omega
  have i3 : ((i : Int) == (n : Int)) = false := by simp; omega
  generalize partP nodeL (sumL []) L i true = Q at *
  clear hD hF hT hn hin h1i
  go_enter Tryd.func40, Tryd.ntmps40
  go_wp2_with (go_at_call 57; refine HC.out.mono ?_; rintro e1 w1 ⟨A1, c1, rfl, ho1, hb1⟩; have HO1 := Lib.hid ho1; clear ho1)
  go_ret2
  exact HO1.out.new hb1
theorem RefConsist_any (A : Option Addr) (n c : Nat) (i : Int) (L : List (List UInt8)) (w : World) (hn : n ≤ 1024) (hc : n ≤ c) (hD : Ds w A n L) (hF : First w) (hT : Tab 4 w) : Calls Tryd.prog 40 #[.slice A n c, .int .i64 i] w (NewD w (conI L i) (errC n i)) := by
  unfold conI errC
  rw [hD.1]
  by_cases h : 0 ≤ i ∧ i ≤ (n : Int)
  · rw [if_pos h]
    obtain ⟨j, rfl⟩ := Int.eq_ofNat_of_zero_le h.1
    by_cases h0 : j = 0
    · subst h0
      rw [if_neg (by omega)]
      exact RefConsist_zero A n c w
    · rw [if_pos (by omega)]
      show Calls Tryd.prog 40 #[.slice A n c, .int .i64 (j : Int)] w (NewD w (partP nodeL (sumL []) L j true) 0)
      by_cases hjn : j = n
      · subst hjn
        rw [partP_all nodeL (sumL []) true hD.1.symm]
        exact RefConsist_all A j c w (by omega)
      · exact RefConsist_ok A n c j L w hn hc (by omega) (by omega) hD hF hT
  · rw [if_neg h, if_neg (by omega)]
    exact RefConsist_no A n c i w (by omega)
end Go.Proofs.YtbpbpdaohganaaaDoor
