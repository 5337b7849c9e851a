/- The package variables that are read, with what they hold. -/
import Derived.Test.YtfedelfcdjldlaaDoorRows
namespace Go.Proofs.YtfedelfcdjldlaaDoor.Ab
def glT : List (Nat × List Int) := [(0, [6, 9, 12]), (1, [2, 3, 4])]
end Go.Proofs.YtfedelfcdjldlaaDoor.Ab
