/-
  For the statements: a number modulo a length, that proofs of a ledger's places and beginnings are right, a text of a list of texts in a region that draws its order.
-/
import Derived.Test.YtbpbpdaohganaaaDoorLedI
import Derived.Test.YtbpbpdaohganaaaDoorIncB
import Derived.Test.YtbpbpdaohganaaaDoorConZ
namespace Go.Proofs.YtbpbpdaohganaaaDoor
open Go.RowKit
theorem mod_in (a : Int) (m : Nat) (h : 0 < m) : ∃ j : Nat, (IntKind.u64.wrap a).tmod (m : Int) = (j : Int) ∧ j < m := by
  have h0 : 0 ≤ IntKind.u64.wrap a := by simp [IntKind.wrap, IntKind.bits, IntKind.signed]; omega
  generalize IntKind.u64.wrap a = x at *
  obtain ⟨y, rfl⟩ := Int.eq_ofNat_of_zero_le h0
  refine ⟨y % m, ?_, Nat.mod_lt _ h⟩
  rw [Int.tmod_eq_emod_of_nonneg (by omega)]
  rfl
theorem back_inc (L : List (List UInt8)) (j : Nat) (d : List UInt8) (h : L[j]? = some d) : errI L.length (j : Int) = 0 ∧ incB d (j : Int) (L.length : Int) (incI L (j : Int)) (rootL L) = true := by
  have hj : j < L.length := (List.getElem?_eq_some_iff.1 h).1
  have hc : (0 : Int) ≤ (j : Int) ∧ (j : Int) < (L.length : Int) := ⟨by omega, by omega⟩
  unfold errI incB incI
  rw [if_pos hc, if_pos hc, if_pos hc]
  exact ⟨rfl, decide_eq_true (lead_inc nodeL (sumL []) _ L j d rfl h)⟩
theorem back_con (L : List (List UInt8)) (j : Nat) (h : j < L.length) : errC L.length (j : Int) = 0 ∧ conB (j : Int) (L.length : Int) (conI L (j : Int)) (rootL (L.take j)) (rootL L) = true := by
  have hc : (0 : Int) ≤ (j : Int) ∧ (j : Int) ≤ (L.length : Int) := ⟨by omega, by omega⟩
  unfold errC conB conI
  rw [if_pos hc, if_pos hc]
  refine ⟨rfl, ?_⟩
  by_cases h0 : j = 0
  · subst h0
    rw [if_pos (show ((0 : Nat) : Int) = 0 from rfl), if_neg (by omega), List.take_zero, show rootL [] = sumL [] from rootP_nil nodeL (sumL [])]
    simp
  · rw [if_neg (by omega), if_neg (by omega), if_pos ⟨by omega, by omega⟩]
    exact decide_eq_true (leads_part nodeL (sumL []) _ L j true (rootL (L.take j)) rfl (by omega) (by omega) (fun _ => rfl))
theorem back_all (L : List (List UInt8)) (R : List UInt8) (h : 1 ≤ L.length) : errC L.length (L.length : Int) = 0 ∧ conI L (L.length : Int) = [] ∧ conB (L.length : Int) (L.length : Int) [] R R = true := by
  have hc : (0 : Int) ≤ (L.length : Int) ∧ (L.length : Int) ≤ (L.length : Int) := ⟨by omega, by omega⟩
  refine ⟨?_, ?_, ?_⟩
  · unfold errC; rw [if_pos hc]
  · unfold conI
    rw [if_pos ⟨by omega, by omega⟩]
    show partP nodeL (sumL []) L L.length true = []
    rw [partP_all nodeL (sumL []) true rfl]
    rfl
  · unfold conB
    rw [if_pos hc, if_neg (by omega), if_pos rfl]
    simp
theorem incI_length (L : List (List UInt8)) (i : Int) (h : L.length ≤ 1024) : (incI L i).length ≤ 20 := by
  unfold incI; split
  · exact inc_le _ _ h
  · exact Nat.zero_le _
theorem conI_length (L : List (List UInt8)) (i : Int) (h : L.length ≤ 1024) : (conI L i).length ≤ 20 := by
  unfold conI; split
  · exact part_le _ _ _ (by omega) (by omega) h
  · exact Nat.zero_le _
set_option maxRecDepth 100000 in
theorem led_inc (L : List (List UInt8)) (n i : Nat) (l : List UInt8) (hn : n ≤ L.length) (hi : i < n) (hl : L[i]? = some l) : errI n (i : Int) = 0 ∧ incB (leafL l) (i : Int) (n : Int) (incI ((L.map leafL).take n) (i : Int)) (rootL ((L.map leafL).take n)) = true := by
  have hlen : ((L.map leafL).take n).length = n := by rw [List.length_take, List.length_map]; omega
  have hD : ((L.map leafL).take n)[i]? = some (leafL l) := by rw [List.getElem?_take, if_pos hi, List.getElem?_map, hl]; rfl
  have q := back_inc _ i _ hD
  rw [hlen] at q
  exact q
theorem led_con (L : List (List UInt8)) (m n : Nat) (hmn : m ≤ n) (hn : n ≤ L.length) : errC n (m : Int) = 0 ∧ conB (m : Int) (n : Int) (conI ((L.map leafL).take n) (m : Int)) (rootL ((L.map leafL).take m)) (rootL ((L.map leafL).take n)) = true := by
  have hlen : ((L.map leafL).take n).length = n := by rw [List.length_take, List.length_map]; omega
  rcases Nat.lt_or_ge m n with h | h
  · have q := back_con ((L.map leafL).take n) m (by rw [hlen]; exact h)
    rw [hlen, List.take_take, Nat.min_eq_left hmn] at q
    exact q
  · obtain rfl : m = n := by omega
    rcases Nat.eq_zero_or_pos m with h0 | h0
    · subst h0
      refine ⟨rfl, ?_⟩
      rw [List.take_zero]
      have e1 : conI [] ((0 : Nat) : Int) = [] := by unfold conI; rw [if_neg (by omega)]
      rw [e1, show rootL [] = sumL [] from rootP_nil nodeL (sumL [])]
      unfold conB
      rw [if_pos ⟨by omega, by omega⟩, if_pos (by rfl)]
      simp
    · have q := back_all ((L.map leafL).take m) (rootL ((L.map leafL).take m)) (by rw [hlen]; exact h0)
      rw [hlen] at q
      exact ⟨q.1, by rw [q.2.1]; exact q.2.2⟩
theorem run_indexS (b off n c k : Nat) (z : Int) (hz : z = k) (hk : k < n) (w : World) : (Instr.indexAt 27 (.slice (some ⟨b, off, none⟩) n c) (.int .i64 z)).run Tryd.prog w = .ok (.pointer (some ⟨b, off + k, none⟩)) w := by
  subst hz
  have h1 : (0 : Int) ≤ (k : Int) ∧ (k : Int) < (n : Int) := by omega
  simp [Instr.indexAt, asIntOf, run_underlying Tryd.underlying27, h1, Addr.add_mid, hk]
theorem yields_indexS {ops : Array Oper} {S : World → Prop} {o : Oper} {a : Act} (hw : Region.wanted o (yielded ops a.tmps) = true) (x y : Operand) (ho : o.op = .indexAddr 27 x y) (b off n c k : Nat) (z : Int)
    (hx : a.eval x = .slice (some ⟨b, off, none⟩) n c) (hy : a.eval y = .int .i64 z) (hz : z = k) (hk : k < n) : YieldsIf Tryd.prog ops S o (.pointer (some ⟨b, off + k, none⟩)) a :=
  .inl ⟨hw, fun w _ => by
    unfold execOp
    simp only [ho, hx, hy, Sem.run_bind, run_indexS b off n c k z hz hk, Result.andThen_ok]
    rfl⟩
set_option maxRecDepth 100000 in
theorem yields_loadT {ops : Array Oper} {S : World → Prop} {o : Oper} {a : Act} (hw : Region.wanted o (yielded ops a.tmps) = true) (x : Operand) (ho : o.op = .load 31 x) (b k : Nat) (v : Value)
    (hx : a.eval x = .pointer (some ⟨b, k, none⟩)) (hS : ∀ w, S w → w.cell? ⟨b, k, none⟩ = some v) : YieldsIf Tryd.prog ops S o v a :=
  .inl ⟨hw, fun w h => by
    have hc := hS w h
    unfold execOp
    simp only [ho, hx]
    go_simp⟩
/-- a ledger that is made of leaves: as many as there may be; too many -/
theorem made_ok (A : Option Addr) (n c : Nat) (L : List (List UInt8)) (w : World) (hB : Bss w A n L) (hT : Tab 1 w) (hq : longL L = false) : Calls Tryd.prog 26 #[.slice A n c] w fun e w' => ∃ (g : Nat) (F : Nat → Prop), e = .returned (.tuple #[.pointer (some ⟨g, 0, none⟩), .bool true]) ∧ Below w.heap.size w w' ∧ (∀ b, F b → w.heap.size ≤ b) ∧ Led w' g F n L := by
  refine (made_any A n c L w hB hT).mono ?_
  rintro e w' ⟨g, rfl, hb, h⟩
  obtain ⟨F, h1, h2⟩ := h hq
  exact ⟨g, F, by rw [hq]; rfl, hb, h1, h2⟩
theorem made_no (A : Option Addr) (n c : Nat) (L : List (List UInt8)) (w : World) (hB : Bss w A n L) (hT : Tab 1 w) (hq : longL L = true) : Calls Tryd.prog 26 #[.slice A n c] w fun e w' => ∃ g : Nat, e = .returned (.tuple #[.pointer (some ⟨g, 0, none⟩), .bool false]) ∧ Below w.heap.size w w' := by
  refine (made_any A n c L w hB hT).mono ?_
  rintro e w' ⟨g, rfl, hb, h⟩
  exact ⟨g, by rw [hq]; rfl, hb⟩
theorem u64_small (n : Nat) (h : n ≤ 1000000) : IntKind.u64.wrap (n : Int) = (n : Int) := by
  simp [IntKind.wrap, IntKind.bits, IntKind.signed]
  omega
theorem w64_small (r : Int) (h0 : -1000000 ≤ r) (h1 : r ≤ 1000000) : wrap64 r = r := by
  have q := wrap_small r h0 h1
  rw [IntKind.wrap_i64] at q
  unfold wrap64
  omega
end Go.Proofs.YtbpbpdaohganaaaDoor
