/-
  No cell of these rows narrows 'for every input' (looked for: loops, veiled, ifaces, maps, wideKeys, modest, calm, conditions, laid).
  DERIVED. THE GIVEN ROWS OF THIS SEAT. 5 by the template 'for every input the law returns true; each argument reads behind the call as it read before'; 0 by the template 'total and deterministic' (their statements: YtnoeblpanfbpjaaGreatTotals.lean).
  GIVEN WITH THE SEED: the statements are not yours to turn. If you find one false, say at which input.
  Laid BY PROGRAM, IN A SANDBOX (cutbox-rows.mjs): the forced cells as the released guide's own fill.sh prints them over the translation 8edf0f0b7e9a6b80… (all of the seat's roots in one cut). By AI agents, Wed Nov 11 2026. No macro, syntax, notation, axiom, sorry.
-/
import Derived.Test.YtnoeblpanfbpjaaGreatChecked
import GoSem.Claim
import GoSem.ClaimJoined
import GoSem.ClaimMapViews
import Derived.JoinedTies
import Derived.KernelRfl
namespace Go.Proofs.YtnoeblpanfbpjaaGreat
/- THE CELL 'sum', in the pinned program and in every row, IS THE sha256 OF THE DUMP (.gsa) THAT YtnoeblpanfbpjaaGreatProg.lean LOADS. Nothing in Lean hashes anything: it is a label: what it is worth is what the hold of that sum in a sandbox is worth. -/
noncomputable def Tryz.pinned : Pinned := { name := "ytnoeblpanfbpjaagreat", sum := "8edf0f0b7e9a6b802823ebf4455269ba305a9841d715cbf8dfc046c815c94d3b", checked := Tryz.checked }
namespace Rows
def none {H : Type} : Left H := { results := [], args := [] }

/-- 'minecontrollaw11.CertifyChecks': WHATEVER THE INPUT: true; the input reads as it did. -/
def certifyChecksSpec : ChangeSpec := { name := "certifyChecks", fn := fun _ => fun
  | [d1, d2] => { results := [.lit (.bool true)], args := [d1, d2] }
  | _ => none }
def certifyChecksRow : OpenClaim := { program := "ytnoeblpanfbpjaagreat", sum := "8edf0f0b7e9a6b802823ebf4455269ba305a9841d715cbf8dfc046c815c94d3b", func := "minecontrol/minecontrollaw11.CertifyChecks", spec := "certifyChecks", unfollowed := true, recurses := true, apart := false }
def CertifyChecksSaid : Prop := certifyChecksRow.holds Tryz.pinned (OpenSpec.ofChange certifyChecksSpec)

/-- ITS FALSE NEIGHBOUR: 'it returns false'. Refute it at one input. -/
def certifyChecksWrong : ChangeSpec := { name := "certifyChecks", fn := fun _ => fun
  | [d1, d2] => { results := [.lit (.bool false)], args := [d1, d2] }
  | _ => none }
def CertifyChecksWrongFalsely : Prop := certifyChecksRow.holds Tryz.pinned (OpenSpec.ofChange certifyChecksWrong)

/-- 'minecontrollaw11.CertifyErrors': WHATEVER THE INPUT: true; the input reads as it did. -/
def certifyErrorsSpec : ChangeSpec := { name := "certifyErrors", fn := fun _ => fun
  | [d1, d2, d3] => { results := [.lit (.bool true)], args := [d1, d2, d3] }
  | _ => none }
def certifyErrorsRow : OpenClaim := { program := "ytnoeblpanfbpjaagreat", sum := "8edf0f0b7e9a6b802823ebf4455269ba305a9841d715cbf8dfc046c815c94d3b", func := "minecontrol/minecontrollaw11.CertifyErrors", spec := "certifyErrors", unfollowed := true, recurses := true, apart := false }
def CertifyErrorsSaid : Prop := certifyErrorsRow.holds Tryz.pinned (OpenSpec.ofChange certifyErrorsSpec)

/-- ITS FALSE NEIGHBOUR: 'it returns false'. Refute it at one input. -/
def certifyErrorsWrong : ChangeSpec := { name := "certifyErrors", fn := fun _ => fun
  | [d1, d2, d3] => { results := [.lit (.bool false)], args := [d1, d2, d3] }
  | _ => none }
def CertifyErrorsWrongFalsely : Prop := certifyErrorsRow.holds Tryz.pinned (OpenSpec.ofChange certifyErrorsWrong)

/-- 'minecontrollaw11.CertifyProves': WHATEVER THE INPUT: true; the input reads as it did. -/
def certifyProvesSpec : ChangeSpec := { name := "certifyProves", fn := fun _ => fun
  | [d] => { results := [.lit (.bool true)], args := [d] }
  | _ => none }
def certifyProvesRow : OpenClaim := { program := "ytnoeblpanfbpjaagreat", sum := "8edf0f0b7e9a6b802823ebf4455269ba305a9841d715cbf8dfc046c815c94d3b", func := "minecontrol/minecontrollaw11.CertifyProves", spec := "certifyProves", unfollowed := true, recurses := true, apart := false }
def CertifyProvesSaid : Prop := certifyProvesRow.holds Tryz.pinned (OpenSpec.ofChange certifyProvesSpec)

/-- ITS FALSE NEIGHBOUR: 'it returns false'. Refute it at one input. -/
def certifyProvesWrong : ChangeSpec := { name := "certifyProves", fn := fun _ => fun
  | [d] => { results := [.lit (.bool false)], args := [d] }
  | _ => none }
def CertifyProvesWrongFalsely : Prop := certifyProvesRow.holds Tryz.pinned (OpenSpec.ofChange certifyProvesWrong)

/-- 'minecontrollaw11.CertifyUnknown': WHATEVER THE INPUT: true; the input reads as it did. -/
def certifyUnknownSpec : ChangeSpec := { name := "certifyUnknown", fn := fun _ => fun
  | [d1, d2, d3] => { results := [.lit (.bool true)], args := [d1, d2, d3] }
  | _ => none }
def certifyUnknownRow : OpenClaim := { program := "ytnoeblpanfbpjaagreat", sum := "8edf0f0b7e9a6b802823ebf4455269ba305a9841d715cbf8dfc046c815c94d3b", func := "minecontrol/minecontrollaw11.CertifyUnknown", spec := "certifyUnknown", unfollowed := true, recurses := true, apart := false }
def CertifyUnknownSaid : Prop := certifyUnknownRow.holds Tryz.pinned (OpenSpec.ofChange certifyUnknownSpec)

/-- ITS FALSE NEIGHBOUR: 'it returns false'. Refute it at one input. -/
def certifyUnknownWrong : ChangeSpec := { name := "certifyUnknown", fn := fun _ => fun
  | [d1, d2, d3] => { results := [.lit (.bool false)], args := [d1, d2, d3] }
  | _ => none }
def CertifyUnknownWrongFalsely : Prop := certifyUnknownRow.holds Tryz.pinned (OpenSpec.ofChange certifyUnknownWrong)

/-- 'minecontrollaw11.CertifyMeans': WHATEVER THE INPUT: true; the input reads as it did. -/
def certifyMeansSpec : ChangeSpec := { name := "certifyMeans", fn := fun _ => fun
  | [d] => { results := [.lit (.bool true)], args := [d] }
  | _ => none }
def certifyMeansRow : OpenClaim := { program := "ytnoeblpanfbpjaagreat", sum := "8edf0f0b7e9a6b802823ebf4455269ba305a9841d715cbf8dfc046c815c94d3b", func := "minecontrol/minecontrollaw11.CertifyMeans", spec := "certifyMeans", unfollowed := true, recurses := true, apart := false }
def CertifyMeansSaid : Prop := certifyMeansRow.holds Tryz.pinned (OpenSpec.ofChange certifyMeansSpec)

/-- ITS FALSE NEIGHBOUR: 'it returns false'. Refute it at one input. -/
def certifyMeansWrong : ChangeSpec := { name := "certifyMeans", fn := fun _ => fun
  | [d] => { results := [.lit (.bool false)], args := [d] }
  | _ => none }
def CertifyMeansWrongFalsely : Prop := certifyMeansRow.holds Tryz.pinned (OpenSpec.ofChange certifyMeansWrong)

/- THE SECOND FORM. 'bulk': how many values and letters a reading holds, each counted each time it is reached (what is shared counts as often as it is met; a slice's spare places count too). A statement '..UptoSaid' is the law's where the arguments, and the package variables that the reading takes, are together of bulk at most 1048576: NARROWER than '..Said'. Prove '..Said' where nothing that the law and all that it calls make is longer than what came in: it says more and counts as full. Else prove '..UptoSaid'. A law counts once. -/
mutual
def uptoBulk {H : Type} : DataW H → Nat
  | .lit (.string bytes) => bytes.length + 1
  | .lit _ => 1
  | .nil => 1
  | .ptr d => uptoBulk d + 1
  | .slice elems spare => uptoBulkAll elems + uptoBulkAll spare + 1
  | .agg parts => uptoBulkAll parts + 1
  | .iface _ d => uptoBulk d + 1
  | .map entries => uptoBulkEntries entries + 1
  | .held _ => 1
def uptoBulkAll {H : Type} : List (DataW H) → Nat
  | [] => 0
  | d :: r => uptoBulk d + uptoBulkAll r
def uptoBulkEntries {H : Type} : List (Lit × DataW H) → Nat
  | [] => 0
  | x :: r => uptoBulkEntry x + uptoBulkEntries r
def uptoBulkEntry {H : Type} : Lit × DataW H → Nat
  | (.string bytes, d) => bytes.length + uptoBulk d + 1
  | (_, d) => uptoBulk d + 1
 end
def uptoSmall : (H : Type) → List (DataW H) → Bool := fun _ ds => decide (uptoBulkAll ds ≤ 1048576)
def OpenSpec.upto (s : _root_.Go.ChangeSpec) : _root_.Go.OpenSpec := { _root_.Go.OpenSpec.ofChange s with cond := some uptoSmall }

/-- 'minecontrollaw11.CertifyChecks', WHERE WHAT IT READS IS OF BULK AT MOST 1048576: true; the input reads as it did. -/
def certifyChecksUptoRow : OpenClaim := { program := "ytnoeblpanfbpjaagreat", sum := "8edf0f0b7e9a6b802823ebf4455269ba305a9841d715cbf8dfc046c815c94d3b", func := "minecontrol/minecontrollaw11.CertifyChecks", spec := "certifyChecks", unfollowed := true, recurses := true, apart := false, narrowed := true }
def CertifyChecksUptoSaid : Prop := certifyChecksUptoRow.holds Tryz.pinned (OpenSpec.upto certifyChecksSpec)

/-- 'minecontrollaw11.CertifyErrors', WHERE WHAT IT READS IS OF BULK AT MOST 1048576: true; the input reads as it did. -/
def certifyErrorsUptoRow : OpenClaim := { program := "ytnoeblpanfbpjaagreat", sum := "8edf0f0b7e9a6b802823ebf4455269ba305a9841d715cbf8dfc046c815c94d3b", func := "minecontrol/minecontrollaw11.CertifyErrors", spec := "certifyErrors", unfollowed := true, recurses := true, apart := false, narrowed := true }
def CertifyErrorsUptoSaid : Prop := certifyErrorsUptoRow.holds Tryz.pinned (OpenSpec.upto certifyErrorsSpec)

/-- 'minecontrollaw11.CertifyProves', WHERE WHAT IT READS IS OF BULK AT MOST 1048576: true; the input reads as it did. -/
def certifyProvesUptoRow : OpenClaim := { program := "ytnoeblpanfbpjaagreat", sum := "8edf0f0b7e9a6b802823ebf4455269ba305a9841d715cbf8dfc046c815c94d3b", func := "minecontrol/minecontrollaw11.CertifyProves", spec := "certifyProves", unfollowed := true, recurses := true, apart := false, narrowed := true }
def CertifyProvesUptoSaid : Prop := certifyProvesUptoRow.holds Tryz.pinned (OpenSpec.upto certifyProvesSpec)

/-- 'minecontrollaw11.CertifyUnknown', WHERE WHAT IT READS IS OF BULK AT MOST 1048576: true; the input reads as it did. -/
def certifyUnknownUptoRow : OpenClaim := { program := "ytnoeblpanfbpjaagreat", sum := "8edf0f0b7e9a6b802823ebf4455269ba305a9841d715cbf8dfc046c815c94d3b", func := "minecontrol/minecontrollaw11.CertifyUnknown", spec := "certifyUnknown", unfollowed := true, recurses := true, apart := false, narrowed := true }
def CertifyUnknownUptoSaid : Prop := certifyUnknownUptoRow.holds Tryz.pinned (OpenSpec.upto certifyUnknownSpec)

/-- 'minecontrollaw11.CertifyMeans', WHERE WHAT IT READS IS OF BULK AT MOST 1048576: true; the input reads as it did. -/
def certifyMeansUptoRow : OpenClaim := { program := "ytnoeblpanfbpjaagreat", sum := "8edf0f0b7e9a6b802823ebf4455269ba305a9841d715cbf8dfc046c815c94d3b", func := "minecontrol/minecontrollaw11.CertifyMeans", spec := "certifyMeans", unfollowed := true, recurses := true, apart := false, narrowed := true }
def CertifyMeansUptoSaid : Prop := certifyMeansUptoRow.holds Tryz.pinned (OpenSpec.upto certifyMeansSpec)

end Rows
end Go.Proofs.YtnoeblpanfbpjaaGreat
