/-
  What juratref01.Same answers: true just where the bytes are the same.
-/
import Derived.Test.YtiidcnjhjojhoaaDoorProg
import Derived.Test.YtiidcnjhjojhoaaDoorNum
import Derived.Test.YtiidcnjhjojhoaaDoorWords
import Derived.Deep.QuietTactic
import Derived.BigQuiet
namespace Go.Proofs.YtiidcnjhjojhoaaDoor
open Go.RowKit
end Go.Proofs.YtiidcnjhjojhoaaDoor
