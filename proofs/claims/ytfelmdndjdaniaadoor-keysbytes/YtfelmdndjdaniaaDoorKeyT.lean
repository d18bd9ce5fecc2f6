/-
  One of a list of things to do, at an operation.
-/
import Derived.Test.YtfelmdndjdaniaaDoorKeyO
namespace Go.Proofs.YtfelmdndjdaniaaDoor
open Go.RowKit
theorem info39 : (Tryd.prog.info? 39).map (fun i => i.size) = some 3 := by kernel_rfl
theorem run_indexT (b off n c k : Nat) (z : Int) (hz : z = k) (hk : k < n) (w : World) : (Instr.indexAt 36 (.slice (some ⟨b, off, none⟩) n c) (.int .i64 z)).run Tryd.prog w = .ok (.pointer (some ⟨b, off + 3 * k, none⟩)) w := by
  subst hz
  have h1 : (0 : Int) ≤ (k : Int) ∧ (k : Int) < (n : Int) := by omega
  simp [Instr.indexAt, asIntOf, run_underlying Tryd.underlying36, h1, Addr.add_mid, hk, Nat.mul_comm]
theorem wpList_indexT {ops : Array Oper} {rest : List Oper} {o : Oper} {a : Act} {w : World} {Q : Exit → Act → World → Prop} (hgd : o.guard = none) (x y : Operand) (ho : o.op = .indexAddr 36 x y) (b off n c k : Nat) (z : Int)
    (hx : a.eval x = .slice (some ⟨b, off, none⟩) n c) (hy : a.eval y = .int .i64 z) (hz : z = k) (hk : k < n)
    (h : wpList Tryd.prog ops Q rest (a.put o.dst (.pointer (some ⟨b, off + 3 * k, none⟩))) w) : wpList Tryd.prog ops Q (o :: rest) a w :=
  wpList_plain hgd fun _ hK => by
    unfold Oper.wp execOp
    simp only [ho, hx, hy, Sem.run_bind, run_indexT b off n c k z hz hk, Result.andThen_ok]
    exact hK _ _ h
theorem yields_indexT {ops : Array Oper} {S : World → Prop} {o : Oper} {a : Act} (hgd : o.guard = none) (x y : Operand) (ho : o.op = .indexAddr 36 x y) (b off n c k : Nat) (z : Int)
    (hx : a.eval x = .slice (some ⟨b, off, none⟩) n c) (hy : a.eval y = .int .i64 z) (hz : z = k) (hk : k < n) : YieldsIf Tryd.prog ops S o (.pointer (some ⟨b, off + 3 * k, none⟩)) a :=
  .inl ⟨by simp [Region.wanted, hgd], fun w _ => by
    unfold execOp
    simp only [ho, hx, hy, Sem.run_bind, run_indexT b off n c k z hz hk, Result.andThen_ok]
    rfl⟩
theorem yields_fld39 {ops : Array Oper} {S : World → Prop} {o : Oper} {a : Act} (hw : Region.wanted o (yielded ops a.tmps) = true) (x : Operand) (k : Nat) (ho : o.op = .fieldAddr 39 x k) (hk : k = 0 ∨ k = 1 ∨ k = 2) (g off : Nat)
    (hx : a.eval x = .pointer (some ⟨g, off, none⟩)) : YieldsIf Tryd.prog ops S o (.pointer (some ⟨g, off + k, none⟩)) a :=
  .inl ⟨hw, fun w _ => by
    unfold execOp
    simp only [ho, hx]
    rcases hk with rfl | rfl | rfl <;> go_simp⟩
theorem yields_neqN {ops : Array Oper} {S : World → Prop} {o : Oper} {a : Act} (hw : Region.wanted o (yielded ops a.tmps) = true) (x y : Operand) (ho : o.op = .binOp .neq 3 x y 3) (p : Int)
    (hx : a.eval x = .int .i64 p) (hy : a.eval y = .int .i64 p) : YieldsIf Tryd.prog ops S o (.bool false) a :=
  .inl ⟨hw, fun w _ => by
    unfold execOp
    simp only [ho, hx, hy]
    go_simp⟩
end Go.Proofs.YtfelmdndjdaniaaDoor
