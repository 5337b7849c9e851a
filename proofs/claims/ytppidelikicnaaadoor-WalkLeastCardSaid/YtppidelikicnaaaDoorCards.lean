/-
  DERIVED. GIVEN WITH THE SEED: THE CARDS: each row of YtppidelikicnaaaDoorRows.lean that lists a variable, with what it lists TIED to the program's text (the seventh form; the later family's looks); each row that meets fmt, with fmt's text TOLD by the authors' own Lean function (tested against real Go, not proved from fmt's source: count such statements apart). THE CARD IS WHAT COUNTS. Prove the row's statement (the work); the ties are given (YtppidelikicnaaaDoorTie.lean); close each card by the builder's one call (the guide's Derived/Test/ToyasCard.lean, 'card_holds'). Laid BY PROGRAM, IN A SANDBOX (cutbox-door.mjs). By AI agents, Wed Nov 11 2026. No macro, syntax, notation, axiom, sorry.
-/
import Derived.Test.YtppidelikicnaaaDoorRows
import GoSem.ClaimSeven
namespace Go.Proofs.YtppidelikicnaaaDoor
namespace Rows

/-- THE TIED CARD OF 'minecontrollaw03.WalkTimes'. -/
def walkTimesCard : Claim7 := { stood := { row := walkTimesRow, standIns := [], harness := (true, "e614a2da7bac88f4c5513b3700281dc4960a066f68368c0d63b711ef8543be39"), looks := false }, kinds := [], alts := [], laidByText := true, laidKinds := [.wider, .data], laidTests := true, laidLooks := .later }
def WalkTimesCardSaid : Prop := Claim7.holds Tryd.pinned (.plain (OpenSpec.ofChange walkTimesSpec)) walkTimesCard

/-- THE TIED CARD OF 'minecontrollaw03.WalkLeast'. -/
def walkLeastCard : Claim7 := { stood := { row := walkLeastRow, standIns := [], harness := (true, "e614a2da7bac88f4c5513b3700281dc4960a066f68368c0d63b711ef8543be39"), looks := false }, kinds := [], alts := [], laidByText := true, laidKinds := [.wider, .data], laidTests := true, laidLooks := .later }
def WalkLeastCardSaid : Prop := Claim7.holds Tryd.pinned (.plain (OpenSpec.ofChange walkLeastSpec)) walkLeastCard

/-- THE TIED CARD OF 'minecontrollaw03.WalkWays'. -/
def walkWaysCard : Claim7 := { stood := { row := walkWaysRow, standIns := [], harness := (true, "e614a2da7bac88f4c5513b3700281dc4960a066f68368c0d63b711ef8543be39"), looks := false }, kinds := [], alts := [], laidByText := true, laidKinds := [.wider, .data], laidTests := true, laidLooks := .later }
def WalkWaysCardSaid : Prop := Claim7.holds Tryd.pinned (.plain (OpenSpec.ofChange walkWaysSpec)) walkWaysCard

/-- THE TIED CARD OF 'minecontrollaw03.WalkSums'. -/
def walkSumsCard : Claim7 := { stood := { row := walkSumsRow, standIns := [], harness := (true, "e614a2da7bac88f4c5513b3700281dc4960a066f68368c0d63b711ef8543be39"), looks := false }, kinds := [], alts := [], laidByText := true, laidKinds := [.wider, .data], laidTests := true, laidLooks := .later }
def WalkSumsCardSaid : Prop := Claim7.holds Tryd.pinned (.plain (OpenSpec.ofChange walkSumsSpec)) walkSumsCard

/-- THE TIED CARD OF 'minecontrollaw03.WalkCloses'. -/
def walkClosesCard : Claim7 := { stood := { row := walkClosesRow, standIns := [], harness := (true, "e614a2da7bac88f4c5513b3700281dc4960a066f68368c0d63b711ef8543be39"), looks := false }, kinds := [], alts := [], laidByText := true, laidKinds := [.wider, .data], laidTests := true, laidLooks := .later }
def WalkClosesCardSaid : Prop := Claim7.holds Tryd.pinned (.plain (OpenSpec.ofChange walkClosesSpec)) walkClosesCard

/-- THE TIED CARD OF 'minecontrollaw03.WalkThrough'. -/
def walkThroughCard : Claim7 := { stood := { row := walkThroughRow, standIns := [], harness := (true, "e614a2da7bac88f4c5513b3700281dc4960a066f68368c0d63b711ef8543be39"), looks := false }, kinds := [], alts := [], laidByText := true, laidKinds := [.wider, .data], laidTests := true, laidLooks := .later }
def WalkThroughCardSaid : Prop := Claim7.holds Tryd.pinned (.plain (OpenSpec.ofChange walkThroughSpec)) walkThroughCard

/-- THE SECOND FORM's CARD OF 'minecontrollaw03.WalkTimes'. -/
def walkTimesUptoCard : Claim7 := { stood := { row := walkTimesUptoRow, standIns := [], harness := (true, "e614a2da7bac88f4c5513b3700281dc4960a066f68368c0d63b711ef8543be39"), looks := false }, kinds := [], alts := [], laidByText := true, laidKinds := [.wider, .data], laidTests := true, laidLooks := .later }
def WalkTimesUptoCardSaid : Prop := Claim7.holds Tryd.pinned (.plain (OpenSpec.upto walkTimesSpec)) walkTimesUptoCard

/-- THE SECOND FORM's CARD OF 'minecontrollaw03.WalkLeast'. -/
def walkLeastUptoCard : Claim7 := { stood := { row := walkLeastUptoRow, standIns := [], harness := (true, "e614a2da7bac88f4c5513b3700281dc4960a066f68368c0d63b711ef8543be39"), looks := false }, kinds := [], alts := [], laidByText := true, laidKinds := [.wider, .data], laidTests := true, laidLooks := .later }
def WalkLeastUptoCardSaid : Prop := Claim7.holds Tryd.pinned (.plain (OpenSpec.upto walkLeastSpec)) walkLeastUptoCard

/-- THE SECOND FORM's CARD OF 'minecontrollaw03.WalkWays'. -/
def walkWaysUptoCard : Claim7 := { stood := { row := walkWaysUptoRow, standIns := [], harness := (true, "e614a2da7bac88f4c5513b3700281dc4960a066f68368c0d63b711ef8543be39"), looks := false }, kinds := [], alts := [], laidByText := true, laidKinds := [.wider, .data], laidTests := true, laidLooks := .later }
def WalkWaysUptoCardSaid : Prop := Claim7.holds Tryd.pinned (.plain (OpenSpec.upto walkWaysSpec)) walkWaysUptoCard

/-- THE SECOND FORM's CARD OF 'minecontrollaw03.WalkSums'. -/
def walkSumsUptoCard : Claim7 := { stood := { row := walkSumsUptoRow, standIns := [], harness := (true, "e614a2da7bac88f4c5513b3700281dc4960a066f68368c0d63b711ef8543be39"), looks := false }, kinds := [], alts := [], laidByText := true, laidKinds := [.wider, .data], laidTests := true, laidLooks := .later }
def WalkSumsUptoCardSaid : Prop := Claim7.holds Tryd.pinned (.plain (OpenSpec.upto walkSumsSpec)) walkSumsUptoCard

/-- THE SECOND FORM's CARD OF 'minecontrollaw03.WalkCloses'. -/
def walkClosesUptoCard : Claim7 := { stood := { row := walkClosesUptoRow, standIns := [], harness := (true, "e614a2da7bac88f4c5513b3700281dc4960a066f68368c0d63b711ef8543be39"), looks := false }, kinds := [], alts := [], laidByText := true, laidKinds := [.wider, .data], laidTests := true, laidLooks := .later }
def WalkClosesUptoCardSaid : Prop := Claim7.holds Tryd.pinned (.plain (OpenSpec.upto walkClosesSpec)) walkClosesUptoCard

/-- THE SECOND FORM's CARD OF 'minecontrollaw03.WalkThrough'. -/
def walkThroughUptoCard : Claim7 := { stood := { row := walkThroughUptoRow, standIns := [], harness := (true, "e614a2da7bac88f4c5513b3700281dc4960a066f68368c0d63b711ef8543be39"), looks := false }, kinds := [], alts := [], laidByText := true, laidKinds := [.wider, .data], laidTests := true, laidLooks := .later }
def WalkThroughUptoCardSaid : Prop := Claim7.holds Tryd.pinned (.plain (OpenSpec.upto walkThroughSpec)) walkThroughUptoCard
end Rows
end Go.Proofs.YtppidelikicnaaaDoor
