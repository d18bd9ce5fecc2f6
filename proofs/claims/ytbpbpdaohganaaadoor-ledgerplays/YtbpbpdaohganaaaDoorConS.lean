/-
  What proof.Consistent and the document's own Consistent answer of any proof, any beginning and any length: whether the proof leads to both roots.
-/
import Derived.Test.YtbpbpdaohganaaaDoorLeadsA
import Derived.Test.YtbpbpdaohganaaaDoorLenB
namespace Go.Proofs.YtbpbpdaohganaaaDoor
open Go.RowKit
/-- is the beginning consistent? -/
def conB (m n : Int) (P : List (List UInt8)) (old root : List UInt8) : Bool :=
  if 0 ≤ m ∧ m ≤ n then (if m = 0 then decide (P = []) && decide (old = sumL []) else if m = n then decide (P = []) && decide (old = root) else decide (leadsR nodeL old m.toNat n.toNat true P.reverse = some (old, root))) else false
theorem yields_subL {ops : Array Oper} {S : World → Prop} {o : Oper} {a : Act} (hgd : o.guard = none) (x y : Operand) (ho : o.op = .binOp .sub 3 x y 3) (p q r : Int)
    (hx : a.eval x = .int .i64 p) (hy : a.eval y = .int .i64 q) (hr : IntKind.i64.wrap (p - q) = r) : YieldsIf Tryd.prog ops S o (.int .i64 r) a :=
  .inl ⟨by simp [Region.wanted, hgd], fun w _ => by
    unfold execOp
    simp only [ho, hx, hy]
    go_simp⟩
end Go.Proofs.YtbpbpdaohganaaaDoor
