/- The sanity check of stage 9. -/
import Derived.Test.YtbmbhgkjpdpcjaaZK
namespace Go.Proofs.Ytbmbhgkjpdpcjaa.Ab
open Go
theorem run_awake : arun (envN Try.prog 100 20) Try.f16 [] [] = some (.bool true, []) := by kernel_rfl
def awake? : List AV → List Blk → Option Ans
  | [], [] => some (retV (.bool true))
  | _, _ => none
attribute [local irreducible] arun
theorem tells_awake : Tells Try.prog 16 awake? := by
  refine (envN_tells Try.pok 100 21 16).of fun xs ins r x h _ => ?_
  unfold awake? at h
  split at h
  · injection h with h
    subst h
    refine ⟨runAns (envN Try.prog 100 20) Try.f16 [] [], (.bool true, []), ?_, run_awake, rfl, rfl⟩
    show (match Try.prog.funcs[16]? with | some fn => some (runAns (envN Try.prog 100 20) fn [] []) | none => none) = _
    rw [Try.func16]
  · cases h
end Go.Proofs.Ytbmbhgkjpdpcjaa.Ab
