/-
  No cell of these rows narrows 'for every input' (looked for: loops, veiled, ifaces, maps, wideKeys, modest, calm, conditions, laid).
  DERIVED. THE GIVEN ROWS OF THIS SEAT. 12 by the template 'for every input the law returns true; each argument reads behind the call as it read before'; 0 by the template 'total and deterministic' (their statements: YtackckljldpldaaTotals.lean).
  GIVEN WITH THE SEED: the statements are not yours to turn. If you find one false, say at which input.
  Laid BY PROGRAM, IN A SANDBOX (cutbox-rows.mjs): the forced cells as the released guide's own fill.sh prints them over the translation 3b8fbb561020677e… (all of the seat's roots in one cut). By AI agents, Wed Nov 11 2026. No macro, syntax, notation, axiom, sorry.
-/
import Derived.Test.YtackckljldpldaaChecked
import GoSem.Claim
import GoSem.ClaimJoined
import GoSem.ClaimMapViews
import Derived.JoinedTies
import Derived.KernelRfl
namespace Go.Proofs.Ytackckljldpldaa
/- THE CELL 'sum', in the pinned program and in every row, IS THE sha256 OF THE DUMP (.gsa) THAT YtackckljldpldaaProg.lean LOADS. Nothing in Lean hashes anything: it is a label: what it is worth is what the hold of that sum in a sandbox is worth. -/
noncomputable def Try.pinned : Pinned := { name := "ytackckljldpldaa", sum := "3b8fbb561020677eb0dde6cc7fd063347cadacf0fae0c4a552fba61654a5e8c8", checked := Try.checked }
namespace Rows
def none {H : Type} : Left H := { results := [], args := [] }

/-- 'minecontrollaw05.SensorValues': WHATEVER THE INPUT: true; the input reads as it did. -/
def sensorValuesSpec : ChangeSpec := { name := "sensorValues", fn := fun _ => fun
  | [d1, d2, d3, d4] => { results := [.lit (.bool true)], args := [d1, d2, d3, d4] }
  | _ => none }
def sensorValuesRow : OpenClaim := { program := "ytackckljldpldaa", sum := "3b8fbb561020677eb0dde6cc7fd063347cadacf0fae0c4a552fba61654a5e8c8", func := "minecontrol/minecontrollaw05.SensorValues", spec := "sensorValues", unfollowed := true, recurses := true, apart := false }
def SensorValuesSaid : Prop := sensorValuesRow.holds Try.pinned (OpenSpec.ofChange sensorValuesSpec)

/-- ITS FALSE NEIGHBOUR: 'it returns false'. Refute it at one input. -/
def sensorValuesWrong : ChangeSpec := { name := "sensorValues", fn := fun _ => fun
  | [d1, d2, d3, d4] => { results := [.lit (.bool false)], args := [d1, d2, d3, d4] }
  | _ => none }
def SensorValuesWrongFalsely : Prop := sensorValuesRow.holds Try.pinned (OpenSpec.ofChange sensorValuesWrong)

/-- 'minecontrollaw05.SensorDecodes': WHATEVER THE INPUT: true; the input reads as it did. -/
def sensorDecodesSpec : ChangeSpec := { name := "sensorDecodes", fn := fun _ => fun
  | [d1, d2, d3, d4] => { results := [.lit (.bool true)], args := [d1, d2, d3, d4] }
  | _ => none }
def sensorDecodesRow : OpenClaim := { program := "ytackckljldpldaa", sum := "3b8fbb561020677eb0dde6cc7fd063347cadacf0fae0c4a552fba61654a5e8c8", func := "minecontrol/minecontrollaw05.SensorDecodes", spec := "sensorDecodes", unfollowed := true, recurses := true, apart := false }
def SensorDecodesSaid : Prop := sensorDecodesRow.holds Try.pinned (OpenSpec.ofChange sensorDecodesSpec)

/-- ITS FALSE NEIGHBOUR: 'it returns false'. Refute it at one input. -/
def sensorDecodesWrong : ChangeSpec := { name := "sensorDecodes", fn := fun _ => fun
  | [d1, d2, d3, d4] => { results := [.lit (.bool false)], args := [d1, d2, d3, d4] }
  | _ => none }
def SensorDecodesWrongFalsely : Prop := sensorDecodesRow.holds Try.pinned (OpenSpec.ofChange sensorDecodesWrong)

/-- 'minecontrollaw05.SensorRaw': WHATEVER THE INPUT: true; the input reads as it did. -/
def sensorRawSpec : ChangeSpec := { name := "sensorRaw", fn := fun _ => fun
  | [d1, d2, d3] => { results := [.lit (.bool true)], args := [d1, d2, d3] }
  | _ => none }
def sensorRawRow : OpenClaim := { program := "ytackckljldpldaa", sum := "3b8fbb561020677eb0dde6cc7fd063347cadacf0fae0c4a552fba61654a5e8c8", func := "minecontrol/minecontrollaw05.SensorRaw", spec := "sensorRaw", unfollowed := true, recurses := true, apart := false }
def SensorRawSaid : Prop := sensorRawRow.holds Try.pinned (OpenSpec.ofChange sensorRawSpec)

/-- ITS FALSE NEIGHBOUR: 'it returns false'. Refute it at one input. -/
def sensorRawWrong : ChangeSpec := { name := "sensorRaw", fn := fun _ => fun
  | [d1, d2, d3] => { results := [.lit (.bool false)], args := [d1, d2, d3] }
  | _ => none }
def SensorRawWrongFalsely : Prop := sensorRawRow.holds Try.pinned (OpenSpec.ofChange sensorRawWrong)

/-- 'minecontrollaw05.SensorTrue': WHATEVER THE INPUT: true; the input reads as it did. -/
def sensorTrueSpec : ChangeSpec := { name := "sensorTrue", fn := fun _ => fun
  | [d1, d2, d3, d4] => { results := [.lit (.bool true)], args := [d1, d2, d3, d4] }
  | _ => none }
def sensorTrueRow : OpenClaim := { program := "ytackckljldpldaa", sum := "3b8fbb561020677eb0dde6cc7fd063347cadacf0fae0c4a552fba61654a5e8c8", func := "minecontrol/minecontrollaw05.SensorTrue", spec := "sensorTrue", unfollowed := true, recurses := true, apart := false }
def SensorTrueSaid : Prop := sensorTrueRow.holds Try.pinned (OpenSpec.ofChange sensorTrueSpec)

/-- ITS FALSE NEIGHBOUR: 'it returns false'. Refute it at one input. -/
def sensorTrueWrong : ChangeSpec := { name := "sensorTrue", fn := fun _ => fun
  | [d1, d2, d3, d4] => { results := [.lit (.bool false)], args := [d1, d2, d3, d4] }
  | _ => none }
def SensorTrueWrongFalsely : Prop := sensorTrueRow.holds Try.pinned (OpenSpec.ofChange sensorTrueWrong)

/-- 'minecontrollaw05.SensorFaults': WHATEVER THE INPUT: true; the input reads as it did. -/
def sensorFaultsSpec : ChangeSpec := { name := "sensorFaults", fn := fun _ => fun
  | [d1, d2, d3] => { results := [.lit (.bool true)], args := [d1, d2, d3] }
  | _ => none }
def sensorFaultsRow : OpenClaim := { program := "ytackckljldpldaa", sum := "3b8fbb561020677eb0dde6cc7fd063347cadacf0fae0c4a552fba61654a5e8c8", func := "minecontrol/minecontrollaw05.SensorFaults", spec := "sensorFaults", unfollowed := true, recurses := true, apart := false }
def SensorFaultsSaid : Prop := sensorFaultsRow.holds Try.pinned (OpenSpec.ofChange sensorFaultsSpec)

/-- ITS FALSE NEIGHBOUR: 'it returns false'. Refute it at one input. -/
def sensorFaultsWrong : ChangeSpec := { name := "sensorFaults", fn := fun _ => fun
  | [d1, d2, d3] => { results := [.lit (.bool false)], args := [d1, d2, d3] }
  | _ => none }
def SensorFaultsWrongFalsely : Prop := sensorFaultsRow.holds Try.pinned (OpenSpec.ofChange sensorFaultsWrong)

/-- 'minecontrollaw05.SensorBack': WHATEVER THE INPUT: true; the input reads as it did. -/
def sensorBackSpec : ChangeSpec := { name := "sensorBack", fn := fun _ => fun
  | [d1, d2] => { results := [.lit (.bool true)], args := [d1, d2] }
  | _ => none }
def sensorBackRow : OpenClaim := { program := "ytackckljldpldaa", sum := "3b8fbb561020677eb0dde6cc7fd063347cadacf0fae0c4a552fba61654a5e8c8", func := "minecontrol/minecontrollaw05.SensorBack", spec := "sensorBack", unfollowed := true, recurses := true, apart := false }
def SensorBackSaid : Prop := sensorBackRow.holds Try.pinned (OpenSpec.ofChange sensorBackSpec)

/-- ITS FALSE NEIGHBOUR: 'it returns false'. Refute it at one input. -/
def sensorBackWrong : ChangeSpec := { name := "sensorBack", fn := fun _ => fun
  | [d1, d2] => { results := [.lit (.bool false)], args := [d1, d2] }
  | _ => none }
def SensorBackWrongFalsely : Prop := sensorBackRow.holds Try.pinned (OpenSpec.ofChange sensorBackWrong)

/-- 'minecontrollaw06.WindowLater': WHATEVER THE INPUT: true; the input reads as it did. -/
def windowLaterSpec : ChangeSpec := { name := "windowLater", fn := fun _ => fun
  | [d1, d2, d3, d4] => { results := [.lit (.bool true)], args := [d1, d2, d3, d4] }
  | _ => none }
def windowLaterRow : OpenClaim := { program := "ytackckljldpldaa", sum := "3b8fbb561020677eb0dde6cc7fd063347cadacf0fae0c4a552fba61654a5e8c8", func := "minecontrol/minecontrollaw06.WindowLater", spec := "windowLater", unfollowed := true, recurses := true, apart := false }
def WindowLaterSaid : Prop := windowLaterRow.holds Try.pinned (OpenSpec.ofChange windowLaterSpec)

/-- ITS FALSE NEIGHBOUR: 'it returns false'. Refute it at one input. -/
def windowLaterWrong : ChangeSpec := { name := "windowLater", fn := fun _ => fun
  | [d1, d2, d3, d4] => { results := [.lit (.bool false)], args := [d1, d2, d3, d4] }
  | _ => none }
def WindowLaterWrongFalsely : Prop := windowLaterRow.holds Try.pinned (OpenSpec.ofChange windowLaterWrong)

/-- 'minecontrollaw06.WindowTogether': WHATEVER THE INPUT: true; the input reads as it did. -/
def windowTogetherSpec : ChangeSpec := { name := "windowTogether", fn := fun _ => fun
  | [d1, d2] => { results := [.lit (.bool true)], args := [d1, d2] }
  | _ => none }
def windowTogetherRow : OpenClaim := { program := "ytackckljldpldaa", sum := "3b8fbb561020677eb0dde6cc7fd063347cadacf0fae0c4a552fba61654a5e8c8", func := "minecontrol/minecontrollaw06.WindowTogether", spec := "windowTogether", unfollowed := true, recurses := true, apart := false }
def WindowTogetherSaid : Prop := windowTogetherRow.holds Try.pinned (OpenSpec.ofChange windowTogetherSpec)

/-- ITS FALSE NEIGHBOUR: 'it returns false'. Refute it at one input. -/
def windowTogetherWrong : ChangeSpec := { name := "windowTogether", fn := fun _ => fun
  | [d1, d2] => { results := [.lit (.bool false)], args := [d1, d2] }
  | _ => none }
def WindowTogetherWrongFalsely : Prop := windowTogetherRow.holds Try.pinned (OpenSpec.ofChange windowTogetherWrong)

/-- 'minecontrollaw06.WindowAbove': WHATEVER THE INPUT: true; the input reads as it did. -/
def windowAboveSpec : ChangeSpec := { name := "windowAbove", fn := fun _ => fun
  | [d1, d2, d3] => { results := [.lit (.bool true)], args := [d1, d2, d3] }
  | _ => none }
def windowAboveRow : OpenClaim := { program := "ytackckljldpldaa", sum := "3b8fbb561020677eb0dde6cc7fd063347cadacf0fae0c4a552fba61654a5e8c8", func := "minecontrol/minecontrollaw06.WindowAbove", spec := "windowAbove", unfollowed := true, recurses := true, apart := false }
def WindowAboveSaid : Prop := windowAboveRow.holds Try.pinned (OpenSpec.ofChange windowAboveSpec)

/-- ITS FALSE NEIGHBOUR: 'it returns false'. Refute it at one input. -/
def windowAboveWrong : ChangeSpec := { name := "windowAbove", fn := fun _ => fun
  | [d1, d2, d3] => { results := [.lit (.bool false)], args := [d1, d2, d3] }
  | _ => none }
def WindowAboveWrongFalsely : Prop := windowAboveRow.holds Try.pinned (OpenSpec.ofChange windowAboveWrong)

/-- 'minecontrollaw06.WindowUntil': WHATEVER THE INPUT: true; the input reads as it did. -/
def windowUntilSpec : ChangeSpec := { name := "windowUntil", fn := fun _ => fun
  | [d1, d2] => { results := [.lit (.bool true)], args := [d1, d2] }
  | _ => none }
def windowUntilRow : OpenClaim := { program := "ytackckljldpldaa", sum := "3b8fbb561020677eb0dde6cc7fd063347cadacf0fae0c4a552fba61654a5e8c8", func := "minecontrol/minecontrollaw06.WindowUntil", spec := "windowUntil", unfollowed := true, recurses := true, apart := false }
def WindowUntilSaid : Prop := windowUntilRow.holds Try.pinned (OpenSpec.ofChange windowUntilSpec)

/-- ITS FALSE NEIGHBOUR: 'it returns false'. Refute it at one input. -/
def windowUntilWrong : ChangeSpec := { name := "windowUntil", fn := fun _ => fun
  | [d1, d2] => { results := [.lit (.bool false)], args := [d1, d2] }
  | _ => none }
def WindowUntilWrongFalsely : Prop := windowUntilRow.holds Try.pinned (OpenSpec.ofChange windowUntilWrong)

/-- 'minecontrollaw06.WindowWidens': WHATEVER THE INPUT: true; the input reads as it did. -/
def windowWidensSpec : ChangeSpec := { name := "windowWidens", fn := fun _ => fun
  | [d1, d2, d3, d4] => { results := [.lit (.bool true)], args := [d1, d2, d3, d4] }
  | _ => none }
def windowWidensRow : OpenClaim := { program := "ytackckljldpldaa", sum := "3b8fbb561020677eb0dde6cc7fd063347cadacf0fae0c4a552fba61654a5e8c8", func := "minecontrol/minecontrollaw06.WindowWidens", spec := "windowWidens", unfollowed := true, recurses := true, apart := false }
def WindowWidensSaid : Prop := windowWidensRow.holds Try.pinned (OpenSpec.ofChange windowWidensSpec)

/-- ITS FALSE NEIGHBOUR: 'it returns false'. Refute it at one input. -/
def windowWidensWrong : ChangeSpec := { name := "windowWidens", fn := fun _ => fun
  | [d1, d2, d3, d4] => { results := [.lit (.bool false)], args := [d1, d2, d3, d4] }
  | _ => none }
def WindowWidensWrongFalsely : Prop := windowWidensRow.holds Try.pinned (OpenSpec.ofChange windowWidensWrong)

/-- 'minecontrollaw06.WindowMeets': WHATEVER THE INPUT: true; the input reads as it did. -/
def windowMeetsSpec : ChangeSpec := { name := "windowMeets", fn := fun _ => fun
  | [d1, d2] => { results := [.lit (.bool true)], args := [d1, d2] }
  | _ => none }
def windowMeetsRow : OpenClaim := { program := "ytackckljldpldaa", sum := "3b8fbb561020677eb0dde6cc7fd063347cadacf0fae0c4a552fba61654a5e8c8", func := "minecontrol/minecontrollaw06.WindowMeets", spec := "windowMeets", unfollowed := true, recurses := true, apart := false }
def WindowMeetsSaid : Prop := windowMeetsRow.holds Try.pinned (OpenSpec.ofChange windowMeetsSpec)

/-- ITS FALSE NEIGHBOUR: 'it returns false'. Refute it at one input. -/
def windowMeetsWrong : ChangeSpec := { name := "windowMeets", fn := fun _ => fun
  | [d1, d2] => { results := [.lit (.bool false)], args := [d1, d2] }
  | _ => none }
def WindowMeetsWrongFalsely : Prop := windowMeetsRow.holds Try.pinned (OpenSpec.ofChange windowMeetsWrong)

/- THE SECOND FORM. 'bulk': how many values and letters a reading holds, each counted each time it is reached (what is shared counts as often as it is met; a slice's spare places count too). A statement '..UptoSaid' is the law's where the arguments, and the package variables that the reading takes, are together of bulk at most 1048576: NARROWER than '..Said'. Prove '..Said' where nothing that the law and all that it calls make is longer than what came in: it says more and counts as full. Else prove '..UptoSaid'. A law counts once. -/
mutual
def uptoBulk {H : Type} : DataW H → Nat
  | .lit (.string bytes) => bytes.length + 1
  | .lit _ => 1
  | .nil => 1
  | .ptr d => uptoBulk d + 1
  | .slice elems spare => uptoBulkAll elems + uptoBulkAll spare + 1
  | .agg parts => uptoBulkAll parts + 1
  | .iface _ d => uptoBulk d + 1
  | .map entries => uptoBulkEntries entries + 1
  | .held _ => 1
def uptoBulkAll {H : Type} : List (DataW H) → Nat
  | [] => 0
  | d :: r => uptoBulk d + uptoBulkAll r
def uptoBulkEntries {H : Type} : List (Lit × DataW H) → Nat
  | [] => 0
  | x :: r => uptoBulkEntry x + uptoBulkEntries r
def uptoBulkEntry {H : Type} : Lit × DataW H → Nat
  | (.string bytes, d) => bytes.length + uptoBulk d + 1
  | (_, d) => uptoBulk d + 1
 end
def uptoSmall : (H : Type) → List (DataW H) → Bool := fun _ ds => decide (uptoBulkAll ds ≤ 1048576)
def OpenSpec.upto (s : _root_.Go.ChangeSpec) : _root_.Go.OpenSpec := { _root_.Go.OpenSpec.ofChange s with cond := some uptoSmall }

/-- 'minecontrollaw05.SensorValues', WHERE WHAT IT READS IS OF BULK AT MOST 1048576: true; the input reads as it did. -/
def sensorValuesUptoRow : OpenClaim := { program := "ytackckljldpldaa", sum := "3b8fbb561020677eb0dde6cc7fd063347cadacf0fae0c4a552fba61654a5e8c8", func := "minecontrol/minecontrollaw05.SensorValues", spec := "sensorValues", unfollowed := true, recurses := true, apart := false, narrowed := true }
def SensorValuesUptoSaid : Prop := sensorValuesUptoRow.holds Try.pinned (OpenSpec.upto sensorValuesSpec)

/-- 'minecontrollaw05.SensorDecodes', WHERE WHAT IT READS IS OF BULK AT MOST 1048576: true; the input reads as it did. -/
def sensorDecodesUptoRow : OpenClaim := { program := "ytackckljldpldaa", sum := "3b8fbb561020677eb0dde6cc7fd063347cadacf0fae0c4a552fba61654a5e8c8", func := "minecontrol/minecontrollaw05.SensorDecodes", spec := "sensorDecodes", unfollowed := true, recurses := true, apart := false, narrowed := true }
def SensorDecodesUptoSaid : Prop := sensorDecodesUptoRow.holds Try.pinned (OpenSpec.upto sensorDecodesSpec)

/-- 'minecontrollaw05.SensorRaw', WHERE WHAT IT READS IS OF BULK AT MOST 1048576: true; the input reads as it did. -/
def sensorRawUptoRow : OpenClaim := { program := "ytackckljldpldaa", sum := "3b8fbb561020677eb0dde6cc7fd063347cadacf0fae0c4a552fba61654a5e8c8", func := "minecontrol/minecontrollaw05.SensorRaw", spec := "sensorRaw", unfollowed := true, recurses := true, apart := false, narrowed := true }
def SensorRawUptoSaid : Prop := sensorRawUptoRow.holds Try.pinned (OpenSpec.upto sensorRawSpec)

/-- 'minecontrollaw05.SensorTrue', WHERE WHAT IT READS IS OF BULK AT MOST 1048576: true; the input reads as it did. -/
def sensorTrueUptoRow : OpenClaim := { program := "ytackckljldpldaa", sum := "3b8fbb561020677eb0dde6cc7fd063347cadacf0fae0c4a552fba61654a5e8c8", func := "minecontrol/minecontrollaw05.SensorTrue", spec := "sensorTrue", unfollowed := true, recurses := true, apart := false, narrowed := true }
def SensorTrueUptoSaid : Prop := sensorTrueUptoRow.holds Try.pinned (OpenSpec.upto sensorTrueSpec)

/-- 'minecontrollaw05.SensorFaults', WHERE WHAT IT READS IS OF BULK AT MOST 1048576: true; the input reads as it did. -/
def sensorFaultsUptoRow : OpenClaim := { program := "ytackckljldpldaa", sum := "3b8fbb561020677eb0dde6cc7fd063347cadacf0fae0c4a552fba61654a5e8c8", func := "minecontrol/minecontrollaw05.SensorFaults", spec := "sensorFaults", unfollowed := true, recurses := true, apart := false, narrowed := true }
def SensorFaultsUptoSaid : Prop := sensorFaultsUptoRow.holds Try.pinned (OpenSpec.upto sensorFaultsSpec)

/-- 'minecontrollaw05.SensorBack', WHERE WHAT IT READS IS OF BULK AT MOST 1048576: true; the input reads as it did. -/
def sensorBackUptoRow : OpenClaim := { program := "ytackckljldpldaa", sum := "3b8fbb561020677eb0dde6cc7fd063347cadacf0fae0c4a552fba61654a5e8c8", func := "minecontrol/minecontrollaw05.SensorBack", spec := "sensorBack", unfollowed := true, recurses := true, apart := false, narrowed := true }
def SensorBackUptoSaid : Prop := sensorBackUptoRow.holds Try.pinned (OpenSpec.upto sensorBackSpec)

/-- 'minecontrollaw06.WindowLater', WHERE WHAT IT READS IS OF BULK AT MOST 1048576: true; the input reads as it did. -/
def windowLaterUptoRow : OpenClaim := { program := "ytackckljldpldaa", sum := "3b8fbb561020677eb0dde6cc7fd063347cadacf0fae0c4a552fba61654a5e8c8", func := "minecontrol/minecontrollaw06.WindowLater", spec := "windowLater", unfollowed := true, recurses := true, apart := false, narrowed := true }
def WindowLaterUptoSaid : Prop := windowLaterUptoRow.holds Try.pinned (OpenSpec.upto windowLaterSpec)

/-- 'minecontrollaw06.WindowTogether', WHERE WHAT IT READS IS OF BULK AT MOST 1048576: true; the input reads as it did. -/
def windowTogetherUptoRow : OpenClaim := { program := "ytackckljldpldaa", sum := "3b8fbb561020677eb0dde6cc7fd063347cadacf0fae0c4a552fba61654a5e8c8", func := "minecontrol/minecontrollaw06.WindowTogether", spec := "windowTogether", unfollowed := true, recurses := true, apart := false, narrowed := true }
def WindowTogetherUptoSaid : Prop := windowTogetherUptoRow.holds Try.pinned (OpenSpec.upto windowTogetherSpec)

/-- 'minecontrollaw06.WindowAbove', WHERE WHAT IT READS IS OF BULK AT MOST 1048576: true; the input reads as it did. -/
def windowAboveUptoRow : OpenClaim := { program := "ytackckljldpldaa", sum := "3b8fbb561020677eb0dde6cc7fd063347cadacf0fae0c4a552fba61654a5e8c8", func := "minecontrol/minecontrollaw06.WindowAbove", spec := "windowAbove", unfollowed := true, recurses := true, apart := false, narrowed := true }
def WindowAboveUptoSaid : Prop := windowAboveUptoRow.holds Try.pinned (OpenSpec.upto windowAboveSpec)

/-- 'minecontrollaw06.WindowUntil', WHERE WHAT IT READS IS OF BULK AT MOST 1048576: true; the input reads as it did. -/
def windowUntilUptoRow : OpenClaim := { program := "ytackckljldpldaa", sum := "3b8fbb561020677eb0dde6cc7fd063347cadacf0fae0c4a552fba61654a5e8c8", func := "minecontrol/minecontrollaw06.WindowUntil", spec := "windowUntil", unfollowed := true, recurses := true, apart := false, narrowed := true }
def WindowUntilUptoSaid : Prop := windowUntilUptoRow.holds Try.pinned (OpenSpec.upto windowUntilSpec)

/-- 'minecontrollaw06.WindowWidens', WHERE WHAT IT READS IS OF BULK AT MOST 1048576: true; the input reads as it did. -/
def windowWidensUptoRow : OpenClaim := { program := "ytackckljldpldaa", sum := "3b8fbb561020677eb0dde6cc7fd063347cadacf0fae0c4a552fba61654a5e8c8", func := "minecontrol/minecontrollaw06.WindowWidens", spec := "windowWidens", unfollowed := true, recurses := true, apart := false, narrowed := true }
def WindowWidensUptoSaid : Prop := windowWidensUptoRow.holds Try.pinned (OpenSpec.upto windowWidensSpec)

/-- 'minecontrollaw06.WindowMeets', WHERE WHAT IT READS IS OF BULK AT MOST 1048576: true; the input reads as it did. -/
def windowMeetsUptoRow : OpenClaim := { program := "ytackckljldpldaa", sum := "3b8fbb561020677eb0dde6cc7fd063347cadacf0fae0c4a552fba61654a5e8c8", func := "minecontrol/minecontrollaw06.WindowMeets", spec := "windowMeets", unfollowed := true, recurses := true, apart := false, narrowed := true }
def WindowMeetsUptoSaid : Prop := windowMeetsUptoRow.holds Try.pinned (OpenSpec.upto windowMeetsSpec)

end Rows
end Go.Proofs.Ytackckljldpldaa
