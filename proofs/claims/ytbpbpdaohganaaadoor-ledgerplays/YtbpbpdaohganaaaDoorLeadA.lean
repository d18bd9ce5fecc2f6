/-
  What the document's own lead answers: where a proof of a place leads, its last digest first, and whether it has neither too few digests nor too many (it calls itself).
-/
import Derived.Test.YtbpbpdaohganaaaDoorClimbA
namespace Go.Proofs.YtbpbpdaohganaaaDoor
open Go.RowKit
/-- what lead answers -/
def LeadR (w : World) (r : Option (List UInt8)) (e : Ending) (w' : World) : Prop :=
  ∃ (f : List UInt8) (is : Bool), e = .returned (.tuple #[.agg (bcells f), .bool is]) ∧ f.length = 32 ∧ (match r with | some v => is = true ∧ v = f | none => is = false) ∧ Below w.heap.size w w'
end Go.Proofs.YtbpbpdaohganaaaDoor
