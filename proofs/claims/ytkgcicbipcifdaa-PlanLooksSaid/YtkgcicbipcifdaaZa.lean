/- The package variables that are read, with what they hold. -/
import Derived.Test.YtkgcicbipcifdaaRows
namespace Go.Proofs.Ytkgcicbipcifdaa.Ab
def glT : List (Nat × List Int) := []
end Go.Proofs.Ytkgcicbipcifdaa.Ab
