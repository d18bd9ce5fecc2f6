/-
  Arithmetic and an index under a guard that says yes, in a region that draws its order. Nothing of the program's functions is named here.
-/
import Derived.Test.YtghihgmgadaoeaaDoorExt
namespace Go.Proofs.YtghihgmgadaoeaaDoor
open Go.RowKit
theorem yields_subW {ops : Array Oper} {S : World → Prop} {o : Oper} {a : Act} (hw : Region.wanted o (yielded ops a.tmps) = true) (x y : Operand) (ho : o.op = .binOp .sub 3 x y 3) (p q r : Int)
    (hx : a.eval x = .int .i64 p) (hy : a.eval y = .int .i64 q) (hr : p - q = r) (h0 : -1000000 ≤ r) (h1 : r ≤ 1000000) : YieldsIf Tryd.prog ops S o (.int .i64 r) a :=
  .inl ⟨hw, fun w _ => by
    have hw := wrap_small r h0 h1
    unfold execOp
    simp only [ho, hx, hy]
    go_simp⟩
theorem yields_addW {ops : Array Oper} {S : World → Prop} {o : Oper} {a : Act} (hw : Region.wanted o (yielded ops a.tmps) = true) (x y : Operand) (ho : o.op = .binOp .add 3 x y 3) (p q r : Int)
    (hx : a.eval x = .int .i64 p) (hy : a.eval y = .int .i64 q) (hr : p + q = r) (h0 : -1000000 ≤ r) (h1 : r ≤ 1000000) : YieldsIf Tryd.prog ops S o (.int .i64 r) a :=
  .inl ⟨hw, fun w _ => by
    have hw := wrap_small r h0 h1
    unfold execOp
    simp only [ho, hx, hy]
    go_simp⟩
theorem yields_mulW {ops : Array Oper} {S : World → Prop} {o : Oper} {a : Act} (hw : Region.wanted o (yielded ops a.tmps) = true) (x y : Operand) (ho : o.op = .binOp .mul 3 x y 3) (p q r : Int)
    (hx : a.eval x = .int .i64 p) (hy : a.eval y = .int .i64 q) (hr : p * q = r) (h0 : -1000000 ≤ r) (h1 : r ≤ 1000000) : YieldsIf Tryd.prog ops S o (.int .i64 r) a :=
  .inl ⟨hw, fun w _ => by
    have hw := wrap_small r h0 h1
    unfold execOp
    simp only [ho, hx, hy]
    go_simp⟩
theorem yields_indexW {ops : Array Oper} {S : World → Prop} {o : Oper} {a : Act} (hw : Region.wanted o (yielded ops a.tmps) = true) (x y : Operand) (ho : o.op = .indexAddr 24 x y) (b off n c k at' : Nat) (z : Int)
    (hx : a.eval x = .slice (some ⟨b, off, none⟩) n c) (hy : a.eval y = .int .i64 z) (hz : z = k) (hk : k < n) (hat : off + 32 * k = at') : YieldsIf Tryd.prog ops S o (.pointer (some ⟨b, at', none⟩)) a := by
  subst hat
  exact .inl ⟨hw, fun w _ => by
    unfold execOp
    simp only [ho, hx, hy, Sem.run_bind, run_indexD b off n c k z hz hk, Result.andThen_ok]
    rfl⟩
/-- a digest of a list that lies in memory -/
theorem Ds.at {w : World} {A : Option Addr} {n k : Nat} {L : List (List UInt8)} {d : List UInt8} (h : Ds w A n L) (hd : L[k]? = some d) : ∃ b off, A = some ⟨b, off, none⟩ ∧ d.length = 32 ∧ Bs w (some ⟨b, off + 32 * k, none⟩) 32 d := by
  have hk : k < n := by rw [← h.1]; exact (List.getElem?_eq_some_iff.1 hd).1
  obtain ⟨b, off, x, hA, _, hx, hl, hB⟩ := h.get hk
  obtain rfl : x = d := by rw [hx] at hd; injection hd
  exact ⟨b, off, hA, hl, hB⟩
end Go.Proofs.YtghihgmgadaoeaaDoor
