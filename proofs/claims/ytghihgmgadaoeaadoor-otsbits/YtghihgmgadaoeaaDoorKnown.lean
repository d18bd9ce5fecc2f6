/-
  The root of the public part of two bits, of the seed that is all zeros, is not all zeros. No conditions.
-/
import Derived.Test.YtghihgmgadaoeaaDoorOnce
namespace Go.Proofs.YtghihgmgadaoeaaDoor
theorem awake_root : (rootL (pubN zero32 2) == zero32) = false := by decide +kernel
end Go.Proofs.YtghihgmgadaoeaaDoor
