/-
  What a vault's calls are made of: a slot's number, a frame of a number and a text, and such a frame read again.
-/
import Derived.Test.YtgiobcpljbpmiaaDoorTxt
import Derived.Test.YtgiobcpljbpmiaaDoorTapF
import Derived.Test.YtgiobcpljbpmiaaDoorFrD
import Derived.Test.YtgiobcpljbpmiaaDoorVltV
namespace Go.Proofs.YtgiobcpljbpmiaaDoor
open Go.RowKit
theorem Tryd.size68 : (Tryd.prog.info? 68).map (·.size) = some 2 := by kernel_rfl
set_option maxRecDepth 100000 in
/-- a cell loaded -/
theorem yieldsC {ops : Array Oper} {S : World → Prop} {o : Oper} {a : Act} (hw : Region.wanted o (yielded ops a.tmps) = true) (ty : TypeId) (x : Operand) (ho : o.op = .load ty x) (hty : ty = 3 ∨ ty = 25 ∨ ty = 27 ∨ ty = 32 ∨ ty = 33) (g k : Nat) (v : Value)
    (hx : a.eval x = .pointer (some ⟨g, k, none⟩)) (hS : ∀ w, S w → w.cell? ⟨g, k, none⟩ = some v) : YieldsIf Tryd.prog ops S o v a :=
  .inl ⟨hw, fun w h => by
    have hc := hS w h
    unfold execOp
    simp only [ho, hx]
    rcases hty with rfl | rfl | rfl | rfl | rfl <;> go_simp⟩
/-- both cells of a number with a text -/
theorem yields_load68 {ops : Array Oper} {S : World → Prop} {o : Oper} {a : Act} (hw : Region.wanted o (yielded ops a.tmps) = true) (x : Operand) (ho : o.op = .load 68 x) (g k : Nat) (v0 v1 : Value)
    (hx : a.eval x = .pointer (some ⟨g, k, none⟩)) (hS : ∀ w, S w → w.rangeAt g k [v0, v1]) : YieldsIf Tryd.prog ops S o (.agg #[v0, v1]) a :=
  yieldsIf_load_mid hw 68 x ho g k hx [v0, v1] _ hS Tryd.underlying68 rfl (by rw [Tryd.size68]; rfl)
abbrev fldOK (T n d : Nat) : Prop := (T = 70 ∧ ((n = 0 ∧ d = 0) ∨ (n = 1 ∧ d = 1) ∨ (n = 2 ∧ d = 3) ∨ (n = 3 ∧ d = 4))) ∨ (T = 68 ∧ ((n = 0 ∧ d = 0) ∨ (n = 1 ∧ d = 1)))
set_option maxRecDepth 100000 in
/-- a field's address, of a vault, of a number with a text -/
theorem yields_fldV {ops : Array Oper} {S : World → Prop} {o : Oper} {a : Act} (hw : Region.wanted o (yielded ops a.tmps) = true) (T : TypeId) (x : Operand) (n : Nat) (ho : o.op = .fieldAddr T x n) {d : Nat} (hT : fldOK T n d) (g k r : Nat)
    (hx : a.eval x = .pointer (some ⟨g, k, none⟩)) (hr : k + d = r) : YieldsIf Tryd.prog ops S o (.pointer (some ⟨g, r, none⟩)) a :=
  .inl ⟨hw, fun w _ => by
    subst hr
    unfold execOp
    simp only [ho, hx]
    rcases hT with ⟨rfl, ⟨rfl, rfl⟩ | ⟨rfl, rfl⟩ | ⟨rfl, rfl⟩ | ⟨rfl, rfl⟩⟩ | ⟨rfl, ⟨rfl, rfl⟩ | ⟨rfl, rfl⟩⟩ <;> go_simp⟩
theorem yields_build68 {ops : Array Oper} {S : World → Prop} {o : Oper} {a : Act} (hw : Region.wanted o (yielded ops a.tmps) = true) (x y : Operand) (ho : o.op = .build 68 #[(0, x), (1, y)]) (z : Int) (A : Option Addr) (n c : Nat)
    (hx : a.eval x = .int .i64 z) (hy : a.eval y = .slice A n c) : YieldsIf Tryd.prog ops S o (.agg #[.int .i64 z, .slice A n c]) a :=
  .inl ⟨hw, fun w _ => by
    unfold execOp
    simp only [ho, List.map_toArray, List.map_cons, List.map_nil, hx, hy]
    go_simp⟩
theorem yields_mkfunc {ops : Array Oper} {S : World → Prop} {o : Oper} {a : Act} (hw : Region.wanted o (yielded ops a.tmps) = true) (f : Fn) (xs ys : Array Operand) (ho : o.op = .makeFunc f xs ys) (us vs : Array Value)
    (hx : xs.map a.eval = us) (hy : ys.map a.eval = vs) : YieldsIf Tryd.prog ops S o (.func f us vs) a :=
  .inl ⟨hw, fun w _ => by
    unfold execOp
    simp only [ho]
    rw [hx, hy]
    rfl⟩
theorem yields_conv {ops : Array Oper} {S : World → Prop} {o : Oper} {a : Act} (hw : Region.wanted o (yielded ops a.tmps) = true) (x : Operand) (ho : o.op = .convert 3 106 x) (z : Int)
    (hx : a.eval x = .int .i64 z) (hz : 0 ≤ z ∧ z < 9223372036854775808) : YieldsIf Tryd.prog ops S o (.int .u64 z) a :=
  .inl ⟨hw, fun w _ => by
    unfold execOp
    simp only [ho, hx]
    have e : IntKind.u64.wrap z = z := by rw [IntKind.wrap_u64]; omega
    go_simp⟩
/-! the mathematics of a record read -/
theorem rdNum_err (b : List UInt8) (h : (rdNum b).1 ≠ 0) : (rdNum b).2.1 = 0 := by
  unfold rdNum at *
  split
  · rfl
  · split
    · rfl
    · split
      · rfl
      · split
        · rfl
        · rename_i h1 h2 h3
          exfalso
          simp only [h1, h2, h3, if_false] at h
          exact h rfl
theorem rdLen_le (b : List UInt8) (most : Int) (h0 : 0 ≤ most) : ((rdLen b most).2.1 : Int) ≤ most := by
  unfold rdLen
  split
  · split
    · exact h0
    · rename_i h; omega
  · rename_i h
    rw [rdNum_err b h]; exact h0
theorem sNum_le (l : List UInt8) (most : Int) (h0 : 0 ≤ most) : ((sNum 0 l most).2.1 : Int) ≤ most := by
  unfold sNum
  rw [if_pos rfl]
  exact rdLen_le l most h0
/-- a record read by a reader: a number, a text, the end -/
theorem partP_read (l : List UInt8) (E1 : Int) (g S1 : Nat) (E2 : Int) (t : List UInt8) (S2 : Nat) (h1 : sNum 0 l 1099511627776 = (E1, g, S1)) (h2 : sText E1 (l.drop S1) 262144 = (E2, t, S2)) :
    (sEnd E2 ((l.drop S1).drop S2) = 0 → partP l = (true, g, t)) ∧ (sEnd E2 ((l.drop S1).drop S2) ≠ 0 → (partP l).1 = false) := by
  unfold sNum at h1
  rw [if_pos rfl] at h1
  unfold partP
  rw [h1]
  simp only
  by_cases e1 : E1 = 0
  · subst e1
    unfold sText at h2
    rw [if_pos rfl] at h2
    rw [h2]
    simp only
    by_cases e2 : E2 = 0
    · subst e2
      by_cases e3 : (l.drop S1).drop S2 = []
      · rw [e3, if_pos (by simp)]
        exact ⟨fun _ => rfl, fun h => absurd rfl h⟩
      · rw [if_neg (fun h => e3 h.2.2)]
        unfold sEnd
        rw [if_pos ⟨rfl, e3⟩]
        exact ⟨fun h => absurd h (by decide), fun _ => rfl⟩
    · rw [if_neg (fun h => e2 h.2.1)]
      unfold sEnd
      rw [if_neg (fun h => e2 h.1)]
      exact ⟨fun h => absurd h e2, fun _ => rfl⟩
  · unfold sText at h2
    rw [if_neg e1] at h2
    obtain ⟨rfl, _⟩ := Prod.mk.inj h2
    rw [if_neg (fun h => e1 h.1)]
    unfold sEnd
    rw [if_neg (fun h => e1 h.1)]
    exact ⟨fun h => absurd h e1, fun _ => rfl⟩
theorem partP_bound (l : List UInt8) (g : Nat) (t : List UInt8) (h : partP l = (true, g, t)) : okV (g, t) ↔ l.length ≤ 262144 := by
  obtain ⟨h1, h2, h3⟩ := partP_is l g t h
  unfold okV
  rw [← h1]
  exact ⟨fun h => h.2, fun h => ⟨h2, h⟩⟩
set_option maxRecDepth 100000 in
theorem slotOf_any (g : Nat) (w : World) : Calls Tryd.prog 40 #[.int .i64 (g : Int)] w fun e w' => e = .returned (.int .i64 (slotNo g : Int)) ∧ w = w' := by
  unfold slotNo
  rcases Nat.mod_two_eq_zero_or_one g with h | h
  · have e : ((g : Int).tmod 2) = 0 := by show ((g % 2 : Nat) : Int) = 0; omega
    rw [if_neg (by omega)]
    clear h
    go_enter Tryd.func40, Tryd.ntmps40
    go_wp2
    go_ret
    exact ⟨rfl, rfl⟩
  · have e : ((g : Int).tmod 2) = 1 := by show ((g % 2 : Nat) : Int) = 1; omega
    rw [if_pos h]
    clear h
    go_enter Tryd.func40, Tryd.ntmps40
    go_wp2
    go_ret
    exact ⟨rfl, rfl⟩
end Go.Proofs.YtgiobcpljbpmiaaDoor
