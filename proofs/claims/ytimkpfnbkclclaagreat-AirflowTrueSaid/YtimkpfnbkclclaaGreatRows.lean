/-
  No cell of these rows narrows 'for every input' (looked for: loops, veiled, ifaces, maps, wideKeys, modest, calm, conditions, laid).
  DERIVED. THE GIVEN ROWS OF THIS SEAT. 6 by the template 'for every input the law returns true; each argument reads behind the call as it read before'; 0 by the template 'total and deterministic' (their statements: YtimkpfnbkclclaaGreatTotals.lean).
  GIVEN WITH THE SEED: the statements are not yours to turn. If you find one false, say at which input.
  Laid BY PROGRAM, IN A SANDBOX (cutbox-rows.mjs): the forced cells as the released guide's own fill.sh prints them over the translation 62749f28e4e00dc1… (all of the seat's roots in one cut). By AI agents, Wed Nov 11 2026. No macro, syntax, notation, axiom, sorry.
-/
import Derived.Test.YtimkpfnbkclclaaGreatChecked
import GoSem.Claim
import GoSem.ClaimJoined
import GoSem.ClaimMapViews
import Derived.JoinedTies
import Derived.KernelRfl
namespace Go.Proofs.YtimkpfnbkclclaaGreat
/- THE CELL 'sum', in the pinned program and in every row, IS THE sha256 OF THE DUMP (.gsa) THAT YtimkpfnbkclclaaGreatProg.lean LOADS. Nothing in Lean hashes anything: it is a label: what it is worth is what the hold of that sum in a sandbox is worth. -/
noncomputable def Tryz.pinned : Pinned := { name := "ytimkpfnbkclclaagreat", sum := "62749f28e4e00dc10acc5cc1fc46449e3c2aaab070477abb00bc1f3c0a1f6025", checked := Tryz.checked }
namespace Rows
def none {H : Type} : Left H := { results := [], args := [] }

/-- 'minecontrollaw13.AirflowAnalyses': WHATEVER THE INPUT: true; the input reads as it did. -/
def airflowAnalysesSpec : ChangeSpec := { name := "airflowAnalyses", fn := fun _ => fun
  | [d1, d2] => { results := [.lit (.bool true)], args := [d1, d2] }
  | _ => none }
def airflowAnalysesRow : OpenClaim := { program := "ytimkpfnbkclclaagreat", sum := "62749f28e4e00dc10acc5cc1fc46449e3c2aaab070477abb00bc1f3c0a1f6025", func := "minecontrol/minecontrollaw13.AirflowAnalyses", spec := "airflowAnalyses", unfollowed := true, recurses := true, apart := false }
def AirflowAnalysesSaid : Prop := airflowAnalysesRow.holds Tryz.pinned (OpenSpec.ofChange airflowAnalysesSpec)

/-- ITS FALSE NEIGHBOUR: 'it returns false'. Refute it at one input. -/
def airflowAnalysesWrong : ChangeSpec := { name := "airflowAnalyses", fn := fun _ => fun
  | [d1, d2] => { results := [.lit (.bool false)], args := [d1, d2] }
  | _ => none }
def AirflowAnalysesWrongFalsely : Prop := airflowAnalysesRow.holds Tryz.pinned (OpenSpec.ofChange airflowAnalysesWrong)

/-- 'minecontrollaw13.AirflowDirections': WHATEVER THE INPUT: true; the input reads as it did. -/
def airflowDirectionsSpec : ChangeSpec := { name := "airflowDirections", fn := fun _ => fun
  | [d1, d2, d3] => { results := [.lit (.bool true)], args := [d1, d2, d3] }
  | _ => none }
def airflowDirectionsRow : OpenClaim := { program := "ytimkpfnbkclclaagreat", sum := "62749f28e4e00dc10acc5cc1fc46449e3c2aaab070477abb00bc1f3c0a1f6025", func := "minecontrol/minecontrollaw13.AirflowDirections", spec := "airflowDirections", unfollowed := true, recurses := true, apart := false }
def AirflowDirectionsSaid : Prop := airflowDirectionsRow.holds Tryz.pinned (OpenSpec.ofChange airflowDirectionsSpec)

/-- ITS FALSE NEIGHBOUR: 'it returns false'. Refute it at one input. -/
def airflowDirectionsWrong : ChangeSpec := { name := "airflowDirections", fn := fun _ => fun
  | [d1, d2, d3] => { results := [.lit (.bool false)], args := [d1, d2, d3] }
  | _ => none }
def AirflowDirectionsWrongFalsely : Prop := airflowDirectionsRow.holds Tryz.pinned (OpenSpec.ofChange airflowDirectionsWrong)

/-- 'minecontrollaw13.AirflowTightens': WHATEVER THE INPUT: true; the input reads as it did. -/
def airflowTightensSpec : ChangeSpec := { name := "airflowTightens", fn := fun _ => fun
  | [d1, d2, d3, d4] => { results := [.lit (.bool true)], args := [d1, d2, d3, d4] }
  | _ => none }
def airflowTightensRow : OpenClaim := { program := "ytimkpfnbkclclaagreat", sum := "62749f28e4e00dc10acc5cc1fc46449e3c2aaab070477abb00bc1f3c0a1f6025", func := "minecontrol/minecontrollaw13.AirflowTightens", spec := "airflowTightens", unfollowed := true, recurses := true, apart := false }
def AirflowTightensSaid : Prop := airflowTightensRow.holds Tryz.pinned (OpenSpec.ofChange airflowTightensSpec)

/-- ITS FALSE NEIGHBOUR: 'it returns false'. Refute it at one input. -/
def airflowTightensWrong : ChangeSpec := { name := "airflowTightens", fn := fun _ => fun
  | [d1, d2, d3, d4] => { results := [.lit (.bool false)], args := [d1, d2, d3, d4] }
  | _ => none }
def AirflowTightensWrongFalsely : Prop := airflowTightensRow.holds Tryz.pinned (OpenSpec.ofChange airflowTightensWrong)

/-- 'minecontrollaw13.AirflowTrue': WHATEVER THE INPUT: true; the input reads as it did. -/
def airflowTrueSpec : ChangeSpec := { name := "airflowTrue", fn := fun _ => fun
  | [d] => { results := [.lit (.bool true)], args := [d] }
  | _ => none }
def airflowTrueRow : OpenClaim := { program := "ytimkpfnbkclclaagreat", sum := "62749f28e4e00dc10acc5cc1fc46449e3c2aaab070477abb00bc1f3c0a1f6025", func := "minecontrol/minecontrollaw13.AirflowTrue", spec := "airflowTrue", unfollowed := true, recurses := true, apart := false }
def AirflowTrueSaid : Prop := airflowTrueRow.holds Tryz.pinned (OpenSpec.ofChange airflowTrueSpec)

/-- ITS FALSE NEIGHBOUR: 'it returns false'. Refute it at one input. -/
def airflowTrueWrong : ChangeSpec := { name := "airflowTrue", fn := fun _ => fun
  | [d] => { results := [.lit (.bool false)], args := [d] }
  | _ => none }
def AirflowTrueWrongFalsely : Prop := airflowTrueRow.holds Tryz.pinned (OpenSpec.ofChange airflowTrueWrong)

/-- 'minecontrollaw13.AirflowOrder': WHATEVER THE INPUT: true; the input reads as it did. -/
def airflowOrderSpec : ChangeSpec := { name := "airflowOrder", fn := fun _ => fun
  | [d1, d2] => { results := [.lit (.bool true)], args := [d1, d2] }
  | _ => none }
def airflowOrderRow : OpenClaim := { program := "ytimkpfnbkclclaagreat", sum := "62749f28e4e00dc10acc5cc1fc46449e3c2aaab070477abb00bc1f3c0a1f6025", func := "minecontrol/minecontrollaw13.AirflowOrder", spec := "airflowOrder", unfollowed := true, recurses := true, apart := false }
def AirflowOrderSaid : Prop := airflowOrderRow.holds Tryz.pinned (OpenSpec.ofChange airflowOrderSpec)

/-- ITS FALSE NEIGHBOUR: 'it returns false'. Refute it at one input. -/
def airflowOrderWrong : ChangeSpec := { name := "airflowOrder", fn := fun _ => fun
  | [d1, d2] => { results := [.lit (.bool false)], args := [d1, d2] }
  | _ => none }
def AirflowOrderWrongFalsely : Prop := airflowOrderRow.holds Tryz.pinned (OpenSpec.ofChange airflowOrderWrong)

/-- 'minecontrollaw13.AirflowPlaces': WHATEVER THE INPUT: true; the input reads as it did. -/
def airflowPlacesSpec : ChangeSpec := { name := "airflowPlaces", fn := fun _ => fun
  | [d] => { results := [.lit (.bool true)], args := [d] }
  | _ => none }
def airflowPlacesRow : OpenClaim := { program := "ytimkpfnbkclclaagreat", sum := "62749f28e4e00dc10acc5cc1fc46449e3c2aaab070477abb00bc1f3c0a1f6025", func := "minecontrol/minecontrollaw13.AirflowPlaces", spec := "airflowPlaces", unfollowed := true, recurses := true, apart := false }
def AirflowPlacesSaid : Prop := airflowPlacesRow.holds Tryz.pinned (OpenSpec.ofChange airflowPlacesSpec)

/-- ITS FALSE NEIGHBOUR: 'it returns false'. Refute it at one input. -/
def airflowPlacesWrong : ChangeSpec := { name := "airflowPlaces", fn := fun _ => fun
  | [d] => { results := [.lit (.bool false)], args := [d] }
  | _ => none }
def AirflowPlacesWrongFalsely : Prop := airflowPlacesRow.holds Tryz.pinned (OpenSpec.ofChange airflowPlacesWrong)

/- THE SECOND FORM. 'bulk': how many values and letters a reading holds, each counted each time it is reached (what is shared counts as often as it is met; a slice's spare places count too). A statement '..UptoSaid' is the law's where the arguments, and the package variables that the reading takes, are together of bulk at most 1048576: NARROWER than '..Said'. Prove '..Said' where nothing that the law and all that it calls make is longer than what came in: it says more and counts as full. Else prove '..UptoSaid'. A law counts once. -/
mutual
def uptoBulk {H : Type} : DataW H → Nat
  | .lit (.string bytes) => bytes.length + 1
  | .lit _ => 1
  | .nil => 1
  | .ptr d => uptoBulk d + 1
  | .slice elems spare => uptoBulkAll elems + uptoBulkAll spare + 1
  | .agg parts => uptoBulkAll parts + 1
  | .iface _ d => uptoBulk d + 1
  | .map entries => uptoBulkEntries entries + 1
  | .held _ => 1
def uptoBulkAll {H : Type} : List (DataW H) → Nat
  | [] => 0
  | d :: r => uptoBulk d + uptoBulkAll r
def uptoBulkEntries {H : Type} : List (Lit × DataW H) → Nat
  | [] => 0
  | x :: r => uptoBulkEntry x + uptoBulkEntries r
def uptoBulkEntry {H : Type} : Lit × DataW H → Nat
  | (.string bytes, d) => bytes.length + uptoBulk d + 1
  | (_, d) => uptoBulk d + 1
 end
def uptoSmall : (H : Type) → List (DataW H) → Bool := fun _ ds => decide (uptoBulkAll ds ≤ 1048576)
def OpenSpec.upto (s : _root_.Go.ChangeSpec) : _root_.Go.OpenSpec := { _root_.Go.OpenSpec.ofChange s with cond := some uptoSmall }

/-- 'minecontrollaw13.AirflowAnalyses', WHERE WHAT IT READS IS OF BULK AT MOST 1048576: true; the input reads as it did. -/
def airflowAnalysesUptoRow : OpenClaim := { program := "ytimkpfnbkclclaagreat", sum := "62749f28e4e00dc10acc5cc1fc46449e3c2aaab070477abb00bc1f3c0a1f6025", func := "minecontrol/minecontrollaw13.AirflowAnalyses", spec := "airflowAnalyses", unfollowed := true, recurses := true, apart := false, narrowed := true }
def AirflowAnalysesUptoSaid : Prop := airflowAnalysesUptoRow.holds Tryz.pinned (OpenSpec.upto airflowAnalysesSpec)

/-- 'minecontrollaw13.AirflowDirections', WHERE WHAT IT READS IS OF BULK AT MOST 1048576: true; the input reads as it did. -/
def airflowDirectionsUptoRow : OpenClaim := { program := "ytimkpfnbkclclaagreat", sum := "62749f28e4e00dc10acc5cc1fc46449e3c2aaab070477abb00bc1f3c0a1f6025", func := "minecontrol/minecontrollaw13.AirflowDirections", spec := "airflowDirections", unfollowed := true, recurses := true, apart := false, narrowed := true }
def AirflowDirectionsUptoSaid : Prop := airflowDirectionsUptoRow.holds Tryz.pinned (OpenSpec.upto airflowDirectionsSpec)

/-- 'minecontrollaw13.AirflowTightens', WHERE WHAT IT READS IS OF BULK AT MOST 1048576: true; the input reads as it did. -/
def airflowTightensUptoRow : OpenClaim := { program := "ytimkpfnbkclclaagreat", sum := "62749f28e4e00dc10acc5cc1fc46449e3c2aaab070477abb00bc1f3c0a1f6025", func := "minecontrol/minecontrollaw13.AirflowTightens", spec := "airflowTightens", unfollowed := true, recurses := true, apart := false, narrowed := true }
def AirflowTightensUptoSaid : Prop := airflowTightensUptoRow.holds Tryz.pinned (OpenSpec.upto airflowTightensSpec)

/-- 'minecontrollaw13.AirflowTrue', WHERE WHAT IT READS IS OF BULK AT MOST 1048576: true; the input reads as it did. -/
def airflowTrueUptoRow : OpenClaim := { program := "ytimkpfnbkclclaagreat", sum := "62749f28e4e00dc10acc5cc1fc46449e3c2aaab070477abb00bc1f3c0a1f6025", func := "minecontrol/minecontrollaw13.AirflowTrue", spec := "airflowTrue", unfollowed := true, recurses := true, apart := false, narrowed := true }
def AirflowTrueUptoSaid : Prop := airflowTrueUptoRow.holds Tryz.pinned (OpenSpec.upto airflowTrueSpec)

/-- 'minecontrollaw13.AirflowOrder', WHERE WHAT IT READS IS OF BULK AT MOST 1048576: true; the input reads as it did. -/
def airflowOrderUptoRow : OpenClaim := { program := "ytimkpfnbkclclaagreat", sum := "62749f28e4e00dc10acc5cc1fc46449e3c2aaab070477abb00bc1f3c0a1f6025", func := "minecontrol/minecontrollaw13.AirflowOrder", spec := "airflowOrder", unfollowed := true, recurses := true, apart := false, narrowed := true }
def AirflowOrderUptoSaid : Prop := airflowOrderUptoRow.holds Tryz.pinned (OpenSpec.upto airflowOrderSpec)

/-- 'minecontrollaw13.AirflowPlaces', WHERE WHAT IT READS IS OF BULK AT MOST 1048576: true; the input reads as it did. -/
def airflowPlacesUptoRow : OpenClaim := { program := "ytimkpfnbkclclaagreat", sum := "62749f28e4e00dc10acc5cc1fc46449e3c2aaab070477abb00bc1f3c0a1f6025", func := "minecontrol/minecontrollaw13.AirflowPlaces", spec := "airflowPlaces", unfollowed := true, recurses := true, apart := false, narrowed := true }
def AirflowPlacesUptoSaid : Prop := airflowPlacesUptoRow.holds Tryz.pinned (OpenSpec.upto airflowPlacesSpec)

end Rows
end Go.Proofs.YtimkpfnbkclclaaGreat
