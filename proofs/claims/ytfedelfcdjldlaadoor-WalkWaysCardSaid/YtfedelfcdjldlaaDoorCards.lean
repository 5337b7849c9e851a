/-
  DERIVED. GIVEN WITH THE SEED: THE CARDS: each row of YtfedelfcdjldlaaDoorRows.lean that lists a variable, with what it lists TIED to the program's text (the seventh form; the later family's looks); each row that meets fmt, with fmt's text TOLD by the authors' own Lean function (tested against real Go, not proved from fmt's source: count such statements apart). THE CARD IS WHAT COUNTS. Prove the row's statement (the work); the ties are given (YtfedelfcdjldlaaDoorTie.lean); close each card by the builder's one call (the guide's Derived/Test/ToyasCard.lean, 'card_holds'). Laid BY PROGRAM, IN A SANDBOX (cutbox-door.mjs). By AI agents, Wed Nov 11 2026. No macro, syntax, notation, axiom, sorry.
-/
import Derived.Test.YtfedelfcdjldlaaDoorRows
import GoSem.ClaimSeven
namespace Go.Proofs.YtfedelfcdjldlaaDoor
namespace Rows

/-- THE TIED CARD OF 'minecontrollaw03.WalkWays'. -/
def walkWaysCard : Claim7 := { stood := { row := walkWaysRow, standIns := [], harness := (true, "6b4f18c7f486b8db6eddbcd4138188f5150cfafd8946943943a32e39818827d2"), looks := false }, kinds := [], alts := [], laidByText := true, laidKinds := [.wider, .data], laidTests := true, laidLooks := .later }
def WalkWaysCardSaid : Prop := Claim7.holds Tryd.pinned (.plain (OpenSpec.ofChange walkWaysSpec)) walkWaysCard

/-- THE SECOND FORM's CARD OF 'minecontrollaw03.WalkWays'. -/
def walkWaysUptoCard : Claim7 := { stood := { row := walkWaysUptoRow, standIns := [], harness := (true, "6b4f18c7f486b8db6eddbcd4138188f5150cfafd8946943943a32e39818827d2"), looks := false }, kinds := [], alts := [], laidByText := true, laidKinds := [.wider, .data], laidTests := true, laidLooks := .later }
def WalkWaysUptoCardSaid : Prop := Claim7.holds Tryd.pinned (.plain (OpenSpec.upto walkWaysSpec)) walkWaysUptoCard
end Rows
end Go.Proofs.YtfedelfcdjldlaaDoor
