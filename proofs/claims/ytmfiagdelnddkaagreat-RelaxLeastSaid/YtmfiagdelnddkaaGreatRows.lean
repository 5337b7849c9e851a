/-
  No cell of these rows narrows 'for every input' (looked for: loops, veiled, ifaces, maps, wideKeys, modest, calm, conditions, laid).
  DERIVED. THE GIVEN ROWS OF THIS SEAT. 7 by the template 'for every input the law returns true; each argument reads behind the call as it read before'; 0 by the template 'total and deterministic' (their statements: YtmfiagdelnddkaaGreatTotals.lean).
  GIVEN WITH THE SEED: the statements are not yours to turn. If you find one false, say at which input.
  Laid BY PROGRAM, IN A SANDBOX (cutbox-rows.mjs): the forced cells as the released guide's own fill.sh prints them over the translation 1fcf6496b2c1c3da… (all of the seat's roots in one cut). By AI agents, Wed Nov 11 2026. No macro, syntax, notation, axiom, sorry.
-/
import Derived.Test.YtmfiagdelnddkaaGreatChecked
import GoSem.Claim
import GoSem.ClaimJoined
import GoSem.ClaimMapViews
import Derived.JoinedTies
import Derived.KernelRfl
namespace Go.Proofs.YtmfiagdelnddkaaGreat
/- THE CELL 'sum', in the pinned program and in every row, IS THE sha256 OF THE DUMP (.gsa) THAT YtmfiagdelnddkaaGreatProg.lean LOADS. Nothing in Lean hashes anything: it is a label: what it is worth is what the hold of that sum in a sandbox is worth. -/
noncomputable def Tryz.pinned : Pinned := { name := "ytmfiagdelnddkaagreat", sum := "1fcf6496b2c1c3da46a4cc89f94462ef86d731db47f0986f2a73c6f8f739427a", checked := Tryz.checked }
namespace Rows
def none {H : Type} : Left H := { results := [], args := [] }

/-- 'minecontrollaw12.RelaxRises': WHATEVER THE INPUT: true; the input reads as it did. -/
def relaxRisesSpec : ChangeSpec := { name := "relaxRises", fn := fun _ => fun
  | [d1, d2] => { results := [.lit (.bool true)], args := [d1, d2] }
  | _ => none }
def relaxRisesRow : OpenClaim := { program := "ytmfiagdelnddkaagreat", sum := "1fcf6496b2c1c3da46a4cc89f94462ef86d731db47f0986f2a73c6f8f739427a", func := "minecontrol/minecontrollaw12.RelaxRises", spec := "relaxRises", unfollowed := true, recurses := true, apart := false }
def RelaxRisesSaid : Prop := relaxRisesRow.holds Tryz.pinned (OpenSpec.ofChange relaxRisesSpec)

/-- ITS FALSE NEIGHBOUR: 'it returns false'. Refute it at one input. -/
def relaxRisesWrong : ChangeSpec := { name := "relaxRises", fn := fun _ => fun
  | [d1, d2] => { results := [.lit (.bool false)], args := [d1, d2] }
  | _ => none }
def RelaxRisesWrongFalsely : Prop := relaxRisesRow.holds Tryz.pinned (OpenSpec.ofChange relaxRisesWrong)

/-- 'minecontrollaw12.RelaxSolves': WHATEVER THE INPUT: true; the input reads as it did. -/
def relaxSolvesSpec : ChangeSpec := { name := "relaxSolves", fn := fun _ => fun
  | [d] => { results := [.lit (.bool true)], args := [d] }
  | _ => none }
def relaxSolvesRow : OpenClaim := { program := "ytmfiagdelnddkaagreat", sum := "1fcf6496b2c1c3da46a4cc89f94462ef86d731db47f0986f2a73c6f8f739427a", func := "minecontrol/minecontrollaw12.RelaxSolves", spec := "relaxSolves", unfollowed := true, recurses := true, apart := false }
def RelaxSolvesSaid : Prop := relaxSolvesRow.holds Tryz.pinned (OpenSpec.ofChange relaxSolvesSpec)

/-- ITS FALSE NEIGHBOUR: 'it returns false'. Refute it at one input. -/
def relaxSolvesWrong : ChangeSpec := { name := "relaxSolves", fn := fun _ => fun
  | [d] => { results := [.lit (.bool false)], args := [d] }
  | _ => none }
def RelaxSolvesWrongFalsely : Prop := relaxSolvesRow.holds Tryz.pinned (OpenSpec.ofChange relaxSolvesWrong)

/-- 'minecontrollaw12.RelaxErrors': WHATEVER THE INPUT: true; the input reads as it did. -/
def relaxErrorsSpec : ChangeSpec := { name := "relaxErrors", fn := fun _ => fun
  | [d1, d2, d3, d4] => { results := [.lit (.bool true)], args := [d1, d2, d3, d4] }
  | _ => none }
def relaxErrorsRow : OpenClaim := { program := "ytmfiagdelnddkaagreat", sum := "1fcf6496b2c1c3da46a4cc89f94462ef86d731db47f0986f2a73c6f8f739427a", func := "minecontrol/minecontrollaw12.RelaxErrors", spec := "relaxErrors", unfollowed := true, recurses := true, apart := false }
def RelaxErrorsSaid : Prop := relaxErrorsRow.holds Tryz.pinned (OpenSpec.ofChange relaxErrorsSpec)

/-- ITS FALSE NEIGHBOUR: 'it returns false'. Refute it at one input. -/
def relaxErrorsWrong : ChangeSpec := { name := "relaxErrors", fn := fun _ => fun
  | [d1, d2, d3, d4] => { results := [.lit (.bool false)], args := [d1, d2, d3, d4] }
  | _ => none }
def RelaxErrorsWrongFalsely : Prop := relaxErrorsRow.holds Tryz.pinned (OpenSpec.ofChange relaxErrorsWrong)

/-- 'minecontrollaw12.RelaxAccepted': WHATEVER THE INPUT: true; the input reads as it did. -/
def relaxAcceptedSpec : ChangeSpec := { name := "relaxAccepted", fn := fun _ => fun
  | [d] => { results := [.lit (.bool true)], args := [d] }
  | _ => none }
def relaxAcceptedRow : OpenClaim := { program := "ytmfiagdelnddkaagreat", sum := "1fcf6496b2c1c3da46a4cc89f94462ef86d731db47f0986f2a73c6f8f739427a", func := "minecontrol/minecontrollaw12.RelaxAccepted", spec := "relaxAccepted", unfollowed := true, recurses := true, apart := false }
def RelaxAcceptedSaid : Prop := relaxAcceptedRow.holds Tryz.pinned (OpenSpec.ofChange relaxAcceptedSpec)

/-- ITS FALSE NEIGHBOUR: 'it returns false'. Refute it at one input. -/
def relaxAcceptedWrong : ChangeSpec := { name := "relaxAccepted", fn := fun _ => fun
  | [d] => { results := [.lit (.bool false)], args := [d] }
  | _ => none }
def RelaxAcceptedWrongFalsely : Prop := relaxAcceptedRow.holds Tryz.pinned (OpenSpec.ofChange relaxAcceptedWrong)

/-- 'minecontrollaw12.RelaxLeast': WHATEVER THE INPUT: true; the input reads as it did. -/
def relaxLeastSpec : ChangeSpec := { name := "relaxLeast", fn := fun _ => fun
  | [d1, d2] => { results := [.lit (.bool true)], args := [d1, d2] }
  | _ => none }
def relaxLeastRow : OpenClaim := { program := "ytmfiagdelnddkaagreat", sum := "1fcf6496b2c1c3da46a4cc89f94462ef86d731db47f0986f2a73c6f8f739427a", func := "minecontrol/minecontrollaw12.RelaxLeast", spec := "relaxLeast", unfollowed := true, recurses := true, apart := false }
def RelaxLeastSaid : Prop := relaxLeastRow.holds Tryz.pinned (OpenSpec.ofChange relaxLeastSpec)

/-- ITS FALSE NEIGHBOUR: 'it returns false'. Refute it at one input. -/
def relaxLeastWrong : ChangeSpec := { name := "relaxLeast", fn := fun _ => fun
  | [d1, d2] => { results := [.lit (.bool false)], args := [d1, d2] }
  | _ => none }
def RelaxLeastWrongFalsely : Prop := relaxLeastRow.holds Tryz.pinned (OpenSpec.ofChange relaxLeastWrong)

/-- 'minecontrollaw12.RelaxTurns': WHATEVER THE INPUT: true; the input reads as it did. -/
def relaxTurnsSpec : ChangeSpec := { name := "relaxTurns", fn := fun _ => fun
  | [d] => { results := [.lit (.bool true)], args := [d] }
  | _ => none }
def relaxTurnsRow : OpenClaim := { program := "ytmfiagdelnddkaagreat", sum := "1fcf6496b2c1c3da46a4cc89f94462ef86d731db47f0986f2a73c6f8f739427a", func := "minecontrol/minecontrollaw12.RelaxTurns", spec := "relaxTurns", unfollowed := true, recurses := true, apart := false }
def RelaxTurnsSaid : Prop := relaxTurnsRow.holds Tryz.pinned (OpenSpec.ofChange relaxTurnsSpec)

/-- ITS FALSE NEIGHBOUR: 'it returns false'. Refute it at one input. -/
def relaxTurnsWrong : ChangeSpec := { name := "relaxTurns", fn := fun _ => fun
  | [d] => { results := [.lit (.bool false)], args := [d] }
  | _ => none }
def RelaxTurnsWrongFalsely : Prop := relaxTurnsRow.holds Tryz.pinned (OpenSpec.ofChange relaxTurnsWrong)

/-- 'minecontrollaw12.RelaxSurfaces': WHATEVER THE INPUT: true; the input reads as it did. -/
def relaxSurfacesSpec : ChangeSpec := { name := "relaxSurfaces", fn := fun _ => fun
  | [d1, d2, d3] => { results := [.lit (.bool true)], args := [d1, d2, d3] }
  | _ => none }
def relaxSurfacesRow : OpenClaim := { program := "ytmfiagdelnddkaagreat", sum := "1fcf6496b2c1c3da46a4cc89f94462ef86d731db47f0986f2a73c6f8f739427a", func := "minecontrol/minecontrollaw12.RelaxSurfaces", spec := "relaxSurfaces", unfollowed := true, recurses := true, apart := false }
def RelaxSurfacesSaid : Prop := relaxSurfacesRow.holds Tryz.pinned (OpenSpec.ofChange relaxSurfacesSpec)

/-- ITS FALSE NEIGHBOUR: 'it returns false'. Refute it at one input. -/
def relaxSurfacesWrong : ChangeSpec := { name := "relaxSurfaces", fn := fun _ => fun
  | [d1, d2, d3] => { results := [.lit (.bool false)], args := [d1, d2, d3] }
  | _ => none }
def RelaxSurfacesWrongFalsely : Prop := relaxSurfacesRow.holds Tryz.pinned (OpenSpec.ofChange relaxSurfacesWrong)

/- THE SECOND FORM. 'bulk': how many values and letters a reading holds, each counted each time it is reached (what is shared counts as often as it is met; a slice's spare places count too). A statement '..UptoSaid' is the law's where the arguments, and the package variables that the reading takes, are together of bulk at most 1048576: NARROWER than '..Said'. Prove '..Said' where nothing that the law and all that it calls make is longer than what came in: it says more and counts as full. Else prove '..UptoSaid'. A law counts once. -/
mutual
def uptoBulk {H : Type} : DataW H → Nat
  | .lit (.string bytes) => bytes.length + 1
  | .lit _ => 1
  | .nil => 1
  | .ptr d => uptoBulk d + 1
  | .slice elems spare => uptoBulkAll elems + uptoBulkAll spare + 1
  | .agg parts => uptoBulkAll parts + 1
  | .iface _ d => uptoBulk d + 1
  | .map entries => uptoBulkEntries entries + 1
  | .held _ => 1
def uptoBulkAll {H : Type} : List (DataW H) → Nat
  | [] => 0
  | d :: r => uptoBulk d + uptoBulkAll r
def uptoBulkEntries {H : Type} : List (Lit × DataW H) → Nat
  | [] => 0
  | x :: r => uptoBulkEntry x + uptoBulkEntries r
def uptoBulkEntry {H : Type} : Lit × DataW H → Nat
  | (.string bytes, d) => bytes.length + uptoBulk d + 1
  | (_, d) => uptoBulk d + 1
 end
def uptoSmall : (H : Type) → List (DataW H) → Bool := fun _ ds => decide (uptoBulkAll ds ≤ 1048576)
def OpenSpec.upto (s : _root_.Go.ChangeSpec) : _root_.Go.OpenSpec := { _root_.Go.OpenSpec.ofChange s with cond := some uptoSmall }

/-- 'minecontrollaw12.RelaxRises', WHERE WHAT IT READS IS OF BULK AT MOST 1048576: true; the input reads as it did. -/
def relaxRisesUptoRow : OpenClaim := { program := "ytmfiagdelnddkaagreat", sum := "1fcf6496b2c1c3da46a4cc89f94462ef86d731db47f0986f2a73c6f8f739427a", func := "minecontrol/minecontrollaw12.RelaxRises", spec := "relaxRises", unfollowed := true, recurses := true, apart := false, narrowed := true }
def RelaxRisesUptoSaid : Prop := relaxRisesUptoRow.holds Tryz.pinned (OpenSpec.upto relaxRisesSpec)

/-- 'minecontrollaw12.RelaxSolves', WHERE WHAT IT READS IS OF BULK AT MOST 1048576: true; the input reads as it did. -/
def relaxSolvesUptoRow : OpenClaim := { program := "ytmfiagdelnddkaagreat", sum := "1fcf6496b2c1c3da46a4cc89f94462ef86d731db47f0986f2a73c6f8f739427a", func := "minecontrol/minecontrollaw12.RelaxSolves", spec := "relaxSolves", unfollowed := true, recurses := true, apart := false, narrowed := true }
def RelaxSolvesUptoSaid : Prop := relaxSolvesUptoRow.holds Tryz.pinned (OpenSpec.upto relaxSolvesSpec)

/-- 'minecontrollaw12.RelaxErrors', WHERE WHAT IT READS IS OF BULK AT MOST 1048576: true; the input reads as it did. -/
def relaxErrorsUptoRow : OpenClaim := { program := "ytmfiagdelnddkaagreat", sum := "1fcf6496b2c1c3da46a4cc89f94462ef86d731db47f0986f2a73c6f8f739427a", func := "minecontrol/minecontrollaw12.RelaxErrors", spec := "relaxErrors", unfollowed := true, recurses := true, apart := false, narrowed := true }
def RelaxErrorsUptoSaid : Prop := relaxErrorsUptoRow.holds Tryz.pinned (OpenSpec.upto relaxErrorsSpec)

/-- 'minecontrollaw12.RelaxAccepted', WHERE WHAT IT READS IS OF BULK AT MOST 1048576: true; the input reads as it did. -/
def relaxAcceptedUptoRow : OpenClaim := { program := "ytmfiagdelnddkaagreat", sum := "1fcf6496b2c1c3da46a4cc89f94462ef86d731db47f0986f2a73c6f8f739427a", func := "minecontrol/minecontrollaw12.RelaxAccepted", spec := "relaxAccepted", unfollowed := true, recurses := true, apart := false, narrowed := true }
def RelaxAcceptedUptoSaid : Prop := relaxAcceptedUptoRow.holds Tryz.pinned (OpenSpec.upto relaxAcceptedSpec)

/-- 'minecontrollaw12.RelaxLeast', WHERE WHAT IT READS IS OF BULK AT MOST 1048576: true; the input reads as it did. -/
def relaxLeastUptoRow : OpenClaim := { program := "ytmfiagdelnddkaagreat", sum := "1fcf6496b2c1c3da46a4cc89f94462ef86d731db47f0986f2a73c6f8f739427a", func := "minecontrol/minecontrollaw12.RelaxLeast", spec := "relaxLeast", unfollowed := true, recurses := true, apart := false, narrowed := true }
def RelaxLeastUptoSaid : Prop := relaxLeastUptoRow.holds Tryz.pinned (OpenSpec.upto relaxLeastSpec)

/-- 'minecontrollaw12.RelaxTurns', WHERE WHAT IT READS IS OF BULK AT MOST 1048576: true; the input reads as it did. -/
def relaxTurnsUptoRow : OpenClaim := { program := "ytmfiagdelnddkaagreat", sum := "1fcf6496b2c1c3da46a4cc89f94462ef86d731db47f0986f2a73c6f8f739427a", func := "minecontrol/minecontrollaw12.RelaxTurns", spec := "relaxTurns", unfollowed := true, recurses := true, apart := false, narrowed := true }
def RelaxTurnsUptoSaid : Prop := relaxTurnsUptoRow.holds Tryz.pinned (OpenSpec.upto relaxTurnsSpec)

/-- 'minecontrollaw12.RelaxSurfaces', WHERE WHAT IT READS IS OF BULK AT MOST 1048576: true; the input reads as it did. -/
def relaxSurfacesUptoRow : OpenClaim := { program := "ytmfiagdelnddkaagreat", sum := "1fcf6496b2c1c3da46a4cc89f94462ef86d731db47f0986f2a73c6f8f739427a", func := "minecontrol/minecontrollaw12.RelaxSurfaces", spec := "relaxSurfaces", unfollowed := true, recurses := true, apart := false, narrowed := true }
def RelaxSurfacesUptoSaid : Prop := relaxSurfacesUptoRow.holds Tryz.pinned (OpenSpec.upto relaxSurfacesSpec)

end Rows
end Go.Proofs.YtmfiagdelnddkaaGreat
