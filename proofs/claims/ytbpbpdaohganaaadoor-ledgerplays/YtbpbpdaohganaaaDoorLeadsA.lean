/-
  What the document's own leads answers: where a part leads, its last digest first, and whether it has neither too few digests nor too many (it calls itself).
-/
import Derived.Test.YtbpbpdaohganaaaDoorLeadA
namespace Go.Proofs.YtbpbpdaohganaaaDoor
open Go.RowKit
end Go.Proofs.YtbpbpdaohganaaaDoor
