/-
  The node above two digests that are not zeros is not all zeros (of 1 and of 2, with zeros behind them). No conditions.
-/
import Derived.Test.YtiidcnjhjojhoaaDoorTrees
namespace Go.Proofs.YtiidcnjhjojhoaaDoor
/-- a byte, and zeros behind it -/
def oneD (x : UInt8) : List UInt8 := x :: List.replicate 31 0
theorem oneD_length (x : UInt8) : (oneD x).length = 32 := by simp [oneD]
theorem awake_node : (abL (oneD 1) (oneD 2) == zero32) = false := by decide +kernel
end Go.Proofs.YtiidcnjhjojhoaaDoor
