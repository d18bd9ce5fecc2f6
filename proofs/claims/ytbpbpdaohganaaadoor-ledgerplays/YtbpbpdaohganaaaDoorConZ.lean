/-
  What proof.Consistent and the document's own Consistent answer of any proof, any beginning and any length.
-/
import Derived.Test.YtbpbpdaohganaaaDoorConA
import Derived.Test.YtbpbpdaohganaaaDoorConL
import Derived.Test.YtbpbpdaohganaaaDoorConH
namespace Go.Proofs.YtbpbpdaohganaaaDoor
open Go.RowKit
theorem Con_mid (d r : List UInt8) (i n : Nat) (A : Option Addr) (m c : Nat) (P : List (List UInt8)) (w : World) (hd : d.length = 32) (hr : r.length = 32) (hm : m ≤ 1024) (hc : m ≤ c) (h1 : 1 ≤ i) (hi : i < n) (hn : n ≤ 9223372036854775807) (hD : Ds w A m P) (hB : TabB w) (hT : Tab 1 w) :
    Calls Tryd.prog 29 #[.int .i64 (i : Int), .int .i64 (n : Int), .slice A m c, .agg (bcells d), .agg (bcells r)] w fun e w' => e = .returned (.bool (decide (leadsR nodeL d i n true P.reverse = some (d, r)))) ∧ Below w.heap.size w w' := by
  obtain ⟨t, q, hq⟩ := odd_part i (by omega)
  by_cases hq0 : q = 0
  · exact Con_low d r i n t q A m c P w hd hr hm hc h1 hi hn hq hq0 hD hB hT
  · cases P with
    | nil =>
      obtain rfl : m = 0 := hD.1.symm
      have hS : leadsR nodeL d i n true ([] : List (List UInt8)).reverse = none := by
        rw [List.reverse_nil, leadsR, if_neg (by simp; omega)]
      rw [hS]
      exact Con_none d r i n t q A c w hd hr h1 hi hn hq hq0 hB hT
    | cons x P =>
      obtain rfl : m = P.length + 1 := hD.1.symm
      exact Con_high d r i n t q A P.length c P w hd hr (by omega) hc h1 hi hn hq hq0 x hD hB hT
theorem Consistent_any (i n : Int) (A : Option Addr) (m c : Nat) (P : List (List UInt8)) (d r : List UInt8) (w : World) (hd : d.length = 32) (hr : r.length = 32) (hm : m ≤ 1024) (hc : m ≤ c) (hn : n ≤ 9223372036854775807) (hD : Ds w A m P) (hB : TabB w) (hT : Tab 1 w) :
    Calls Tryd.prog 29 #[.int .i64 i, .int .i64 n, .slice A m c, .agg (bcells d), .agg (bcells r)] w fun e w' => e = .returned (.bool (conB i n P d r)) ∧ Below w.heap.size w w' := by
  unfold conB
  by_cases h : 0 ≤ i ∧ i ≤ n
  · rw [if_pos h]
    obtain ⟨j, rfl⟩ := Int.eq_ofNat_of_zero_le h.1
    obtain ⟨k, rfl⟩ := Int.eq_ofNat_of_zero_le (Int.le_trans h.1 h.2)
    have hPm : m = P.length := hD.1.symm
    by_cases h0 : j = 0
    · subst h0
      rw [if_pos (show ((0 : Nat) : Int) = 0 from rfl)]
      cases P with
      | nil => subst hPm; simpa using Con_zero d r k A c w hd hr hT
      | cons x t => subst hPm; simpa using Con_zero_no d r k A t.length c w hd hr
    · rw [if_neg (by omega)]
      by_cases hjk : j = k
      · subst hjk
        rw [if_pos rfl]
        cases P with
        | nil => subst hPm; simpa using Con_all d r j A c w hd hr (by omega)
        | cons x t => subst hPm; simpa using Con_all_no d r j A t.length c w hd hr (by omega)
      · rw [if_neg (by omega)]
        exact Con_mid d r j k A m c P w hd hr hm hc (by omega) (by omega) (by omega) hD hB hT
  · rw [if_neg h]
    exact Con_no d r i n A m c w (by omega)
end Go.Proofs.YtbpbpdaohganaaaDoor
