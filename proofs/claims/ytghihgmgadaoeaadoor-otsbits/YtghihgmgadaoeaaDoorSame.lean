/-
  What juratref01.Same answers: true just where the bytes are the same.
-/
import Derived.Test.YtghihgmgadaoeaaDoorProg
import Derived.Test.YtghihgmgadaoeaaDoorNum
import Derived.Test.YtghihgmgadaoeaaDoorWords
import Derived.Deep.QuietTactic
import Derived.BigQuiet
namespace Go.Proofs.YtghihgmgadaoeaaDoor
open Go.RowKit
end Go.Proofs.YtghihgmgadaoeaaDoor
