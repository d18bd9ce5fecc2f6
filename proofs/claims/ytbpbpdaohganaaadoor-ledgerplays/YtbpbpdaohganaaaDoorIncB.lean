/-
  What proof.Included and the document's own Included answer of any proof, any place and any length: whether the proof leads from the leaf to the root.
-/
import Derived.Test.YtbpbpdaohganaaaDoorLeadA
namespace Go.Proofs.YtbpbpdaohganaaaDoor
open Go.RowKit
theorem up_snd {α : Type} (nd : α → α → α) (last : Nat) : ∀ (i : Nat) (f r : α) (P : List α), (upC nd i last (f, r) P).map (·.2) = upP nd i last r P := by
  induction last using Nat.strongRecOn with
  | _ last ih =>
    intro i f r P
    rw [upC.eq_def, upP.eq_def]
    by_cases h : last = 0
    · rw [dif_pos h, dif_pos h]
      split <;> rfl
    · rw [dif_neg h, dif_neg h]
      split
      · exact ih _ (by omega) _ _ _ _
      · cases P with
        | nil => rfl
        | cons d t =>
          simp only
          split
          · exact ih _ (by omega) _ _ _ _
          · exact ih _ (by omega) _ _ _ _
/-- is the place included? -/
def incB (leaf : List UInt8) (i n : Int) (P : List (List UInt8)) (root : List UInt8) : Bool := if 0 ≤ i ∧ i < n then decide (leadR nodeL leaf i.toNat n.toNat P.reverse = some root) else false
set_option maxRecDepth 100000 in
set_option maxHeartbeats 400000 in
theorem Included_no (d r : List UInt8) (i n : Int) (A : Option Addr) (m c : Nat) (w : World) (h : i < 0 ∨ n ≤ i) : Calls Tryd.prog 27 #[.agg (bcells d), .int .i64 i, .int .i64 n, .slice A m c, .agg (bcells r)] w fun e w' => e = .returned (.bool false) ∧ Below w.heap.size w w' := by
  have hb0 := ((Below.refl w.heap.size w).alloc (Nat.le_refl _) (.cells (bcells d) 46)).alloc (by simp) (.cells (bcells r) 46)
  by_cases h0 : i < 0
  · clear h
    go_enter Tryd.func27, Tryd.ntmps27
    go_wp2
    go_ret
    exact ⟨rfl, hb0⟩
  · have h1 : n ≤ i := by omega
    clear h
    go_enter Tryd.func27, Tryd.ntmps27
    go_wp2
    go_ret
    exact ⟨rfl, hb0⟩
set_option maxRecDepth 100000 in
set_option maxHeartbeats 1000000 in
theorem Included_ok (d r : List UInt8) (i n : Nat) (A : Option Addr) (m c : Nat) (P : List (List UInt8)) (w : World) (hd : d.length = 32) (hr : r.length = 32) (hm : m ≤ 1024) (hc : m ≤ c) (hi : i < n) (hn : n ≤ 9223372036854775807) (hD : Ds w A m P) (hT : Tab 1 w) :
    Calls Tryd.prog 27 #[.agg (bcells d), .int .i64 (i : Int), .int .i64 (n : Int), .slice A m c, .agg (bcells r)] w fun e w' => e = .returned (.bool (decide (leadR nodeL d i n P.reverse = some r))) ∧ Below w.heap.size w w' := by
  have i0 : ¬ (i : Int) < 0 := by omega
  have i1 : ¬ (n : Int) ≤ (i : Int) := by omega
  obtain ⟨N, hN⟩ : ∃ N, n - 1 = N := ⟨_, rfl⟩
  have e1 : wrap64 ((n : Int) - 1) = (N : Int) := by unfold wrap64; omega
  have hU : (upC nodeL i N (d, d) P).map (·.2) = leadR nodeL d i n P.reverse := by rw [up_snd, ← hN]; exact up_lead nodeL hi d P
  have HC := Lib.hid (fun w' (hb : Below w.heap.size w w') hT => show Calls Tryd.prog 41 #[.agg (bcells d), .int .i64 (i : Int), .int .i64 (N : Int), .slice A m c] w' (ClimbR w' (upC nodeL i N (d, d) P)) from climb_any d i N A m c P w' hd hm hc (by omega) (by omega) (hD.below hb) hT)
  generalize upC nodeL i N (d, d) P = U at *
  generalize leadR nodeL d i n P.reverse = V at *
  have HDS := Lib.hid (show (bcells d).size = 32 by rw [bcells_size, hd])
  have HRL := Lib.hid hr
  have hb0 := ((Below.refl w.heap.size w).alloc (Nat.le_refl _) (.cells (bcells d) 46)).alloc (by simp) (.cells (bcells r) 46)
  have HB0 := Lib.hid ((Row.new w 46 (bcells d)).alloc (.cells (bcells r) 46))
  have HR0 := Lib.hid (Row.new1 w (.cells (bcells d) 46) 46 (bcells r))
  have HT := Lib.hid hT
  have HU := Lib.hid hU
  clear hd hr hm hi hn hD hT hN hU
  cases U with
  | none =>
    have hVn : none = V := HU.out; subst hVn
    have hdec : decide ((none : Option (List UInt8)) = some r) = false := rfl
    rw [hdec]
    clear hdec
    go_enter Tryd.func27, Tryd.ntmps27
    go_wp2_with (first
      | (with_reducible refine wpList_load_row Tryd.agg25 rfl (.tmp 5) rfl _ rfl 46 _ HB0.out HDS.out ?_)
      | (go_at_call 41; refine (HC.out _ hb0 (HT.out.below hb0)).mono ?_; rintro e4 w4 ⟨f, a, is, rfl, hf, ha, hres, hb4⟩; obtain rfl : is = false := hres; have HFS := Lib.hid (show (bcells f).size = 32 by rw [bcells_size, hf]); have HAS := Lib.hid (show (bcells a).size = 32 by rw [bcells_size, ha]); have HAL := Lib.hid ha; have HR4 := Lib.hid (HR0.out.below hb4 HR0.out.lt); have hb4' := hb0.trans (hb4.mono hb0.size); have hg4 : w.heap.size + 1 < w4.heap.size := HR4.out.lt; clear hf ha)
      | (with_reducible refine wpList_store_row Tryd.agg25 rfl (.tmp 11) (.tmp 28) rfl _ _ rfl rfl 46 lit32 ((Row.new w4 46 lit32).alloc (.cells lit32 46)) HFS.out lit32_size (bcells_one _) ?_; intro w5 hr5 ho5; have HA5 := Lib.hid ((Row.new1 w4 (.cells lit32 46) 46 lit32).only ho5 (by omega)); have HR5 := Lib.hid (((HR4.out.alloc (.cells lit32 46)).alloc (.cells lit32 46)).only ho5 (by omega)); have hb5 := ((hb4'.alloc hb4'.size (.cells lit32 46)).alloc (by have := hb4'.size; simp; omega) (.cells lit32 46)).trans (ho5.below (B := w.heap.size) (by omega) (by have := hb4'.size; simp; omega)); clear hr5)
      | (with_reducible refine wpList_store_row Tryd.agg25 rfl (.tmp 12) (.tmp 29) rfl _ _ rfl rfl 46 lit32 HA5.out HAS.out lit32_size (bcells_one _) ?_; intro w6 hr6 ho6; have HA6 := Lib.hid hr6; have HR6 := Lib.hid (HR5.out.only ho6 (by omega)); have hb6 := hb5.trans (ho6.below (B := w.heap.size) (by omega) hb5.size); clear hr6))
    go_ret
    exact ⟨rfl, hb6⟩
  | some v =>
    obtain ⟨f0, a0⟩ := v; have hVn : some a0 = V := HU.out; subst hVn
    have hdec : decide (some a0 = some r) = decide (a0 = r) := by simp
    rw [hdec]
    clear hdec
    obtain ⟨q, hq⟩ : ∃ q, decide (a0 = r) = q := ⟨_, rfl⟩
    rw [hq]
    go_enter Tryd.func27, Tryd.ntmps27
    go_wp2_with (first
      | (with_reducible refine wpList_load_row Tryd.agg25 rfl (.tmp 5) rfl _ rfl 46 _ HB0.out HDS.out ?_)
      | (go_at_call 41; refine (HC.out _ hb0 (HT.out.below hb0)).mono ?_; rintro e4 w4 ⟨f, a, is, rfl, hf, ha, hres, hb4⟩; obtain ⟨rfl, hva⟩ := hres; injection hva with hva1 hva2; subst hva1 hva2; have heq := Lib.hid (fun w => (eqD _ r ha HRL.out w).trans (by rw [hq])); have HFS := Lib.hid (show (bcells f0).size = 32 by rw [bcells_size, hf]); have HAS := Lib.hid (show (bcells a0).size = 32 by rw [bcells_size, ha]); have HAL := Lib.hid ha; have HR4 := Lib.hid (HR0.out.below hb4 HR0.out.lt); have hb4' := hb0.trans (hb4.mono hb0.size); have hg4 : w.heap.size + 1 < w4.heap.size := HR4.out.lt; clear hf ha)
      | (with_reducible refine wpList_store_row Tryd.agg25 rfl (.tmp 11) (.tmp 28) rfl _ _ rfl rfl 46 lit32 ((Row.new w4 46 lit32).alloc (.cells lit32 46)) HFS.out lit32_size (bcells_one _) ?_; intro w5 hr5 ho5; have HA5 := Lib.hid ((Row.new1 w4 (.cells lit32 46) 46 lit32).only ho5 (by omega)); have HR5 := Lib.hid (((HR4.out.alloc (.cells lit32 46)).alloc (.cells lit32 46)).only ho5 (by omega)); have hb5 := ((hb4'.alloc hb4'.size (.cells lit32 46)).alloc (by have := hb4'.size; simp; omega) (.cells lit32 46)).trans (ho5.below (B := w.heap.size) (by omega) (by have := hb4'.size; simp; omega)); clear hr5)
      | (with_reducible refine wpList_store_row Tryd.agg25 rfl (.tmp 12) (.tmp 29) rfl _ _ rfl rfl 46 lit32 HA5.out HAS.out lit32_size (bcells_one _) ?_; intro w6 hr6 ho6; have HA6 := Lib.hid hr6; have HR6 := Lib.hid (HR5.out.only ho6 (by omega)); have hb6 := hb5.trans (ho6.below (B := w.heap.size) (by omega) hb5.size); clear hr6)
      | (with_reducible refine wpList_loadG (by with_unfolding_all rfl) (.tmp 12) rfl _ 0 _ rfl (range_row HA6.out) HAL.out ?_; have heq2 := heq.out)
      | (with_reducible refine wpList_loadG (by with_unfolding_all rfl) (.tmp 9) rfl _ 0 r rfl (range_row HR6.out) HRL.out ?_))
    go_ret
    exact ⟨rfl, hb6⟩
theorem Included_any (d r : List UInt8) (i n : Int) (A : Option Addr) (m c : Nat) (P : List (List UInt8)) (w : World) (hd : d.length = 32) (hr : r.length = 32) (hm : m ≤ 1024) (hc : m ≤ c) (hn : n ≤ 9223372036854775807) (hD : Ds w A m P) (hT : Tab 1 w) :
    Calls Tryd.prog 27 #[.agg (bcells d), .int .i64 i, .int .i64 n, .slice A m c, .agg (bcells r)] w fun e w' => e = .returned (.bool (incB d i n P r)) ∧ Below w.heap.size w w' := by
  unfold incB
  by_cases h : 0 ≤ i ∧ i < n
  · rw [if_pos h]
    obtain ⟨j, rfl⟩ := Int.eq_ofNat_of_zero_le h.1
    obtain ⟨k, rfl⟩ := Int.eq_ofNat_of_zero_le (Int.le_of_lt (Int.lt_of_le_of_lt h.1 h.2))
    exact Included_ok d r j k A m c P w hd hr hm hc (by omega) (by omega) hD hT
  · rw [if_neg h]
    exact Included_no d r i n A m c w (by omega)
end Go.Proofs.YtbpbpdaohganaaaDoor
