/-
  DERIVED. GIVEN WITH THE SEED: THE PROGRAM's TIES (one call each: nine closed facts by the kernel) AND EACH ROW's TIE, after the 31st guide's Derived/Test/Toyas{Tie, Card}.lean. No idea stands in it: it is a product of the set-up. Laid BY PROGRAM, IN A SANDBOX (cutbox-door.mjs). By AI agents, Wed Nov 11 2026. No macro, syntax, notation, axiom, sorry.
-/
import Derived.Test.YtfedelfcdjldlaaDoorRows
import Derived.LaidByTextLater
import Derived.SevenTiedAt
import Derived.LaidSub
import Derived.LaidOnce
namespace Go.Proofs.YtfedelfcdjldlaaDoor
open Go
set_option maxRecDepth 100000
theorem seatTie1 : Tryd.prog.laidByTextLater [("minecontrol/walk.clearAir", Rows.laid_minecontrol_walk_clearAir), ("minecontrol/walk.inSmoke", Rows.laid_minecontrol_walk_inSmoke)] [.wider, .data] true :=
  Program.laidByTextLater_by_one 19 8 4 (by kernel_rfl) (by kernel_rfl) (by kernel_rfl) (by kernel_rfl) (by kernel_rfl) (by kernel_rfl) (fun _ _ => by kernel_rfl)
theorem noOwnUnsafe : Tryd.pinned.checked.prog.headLifts.contains "ownunsafe" = false := by kernel_rfl
theorem tie : Tryd.prog.laidByTextLater [("minecontrol/walk.clearAir", Rows.laid_minecontrol_walk_clearAir), ("minecontrol/walk.inSmoke", Rows.laid_minecontrol_walk_inSmoke)] [.wider, .data] true :=
  Program.laidByTextLater.sub seatTie1 ["minecontrol/walk.clearAir", "minecontrol/walk.inSmoke"] (by kernel_rfl) (by kernel_rfl)
theorem walkWays_row_tie : Rows.walkWaysRow.laidByTextAt .later Tryd.pinned [.wider, .data] true :=
  OpenClaim.laidByTextAt_later rfl rfl tie noOwnUnsafe
theorem walkWaysUpto_row_tie : Rows.walkWaysUptoRow.laidByTextAt .later Tryd.pinned [.wider, .data] true :=
  OpenClaim.laidByTextAt_later rfl rfl tie noOwnUnsafe
end Go.Proofs.YtfedelfcdjldlaaDoor
