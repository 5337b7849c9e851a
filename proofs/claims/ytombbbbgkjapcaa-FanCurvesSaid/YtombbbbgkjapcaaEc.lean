/- Stage 7, the laws FanCurves and FanStates, by the plain evaluator. -/
import Derived.Test.YtombbbbgkjapcaaEu
namespace Go.Proofs.Ytombbbbgkjapcaa.Ab
open Go

noncomputable def envW : Env := envS (fun f => match f with
  | 9 => made?
  | 12 => awake?
  | 13 => mod?
  | 16 => at?
  | 17 => at?
  | 14 => ccurve?
  | 15 => ccurve?
  | _ => fun _ _ => none) (fun _ => none) 10
theorem envW_ok : ∀ f, Tells Try.prog f (envW.fs f) := by
  intro f
  by_cases h1 : f = 9
  · subst h1; exact tells_made
  by_cases h2 : f = 12
  · subst h2; exact tells_awake
  by_cases h3 : f = 13
  · subst h3; exact tells_mod
  by_cases h4 : f = 16
  · subst h4; exact tells_at
  by_cases h5 : f = 17
  · subst h5; exact tells_rat
  by_cases h6 : f = 14
  · subst h6; exact tells_ccurve
  by_cases h7 : f = 15
  · subst h7; exact tells_rcurve
  have : envW.fs f = fun _ _ => none := by
    unfold envW envS
    dsimp only
    split
    · exact absurd rfl h1
    · exact absurd rfl h2
    · exact absurd rfl h3
    · exact absurd rfl h4
    · exact absurd rfl h5
    · exact absurd rfl h6
    · exact absurd rfl h7
    · rfl
  rw [this]
  exact Tells.none_ f
def yes : Option (AV × List Blk) := some (.bool true, [])
def no : Option (AV × List Blk) := some (.bool false, [])
noncomputable def twoC (cs : List AV) (x : Int) (a b : Option (AV × List Blk)) : Option (AV × List Blk) := match ccG cs x with
  | some s => (match ccG cs x with
    | some t => (match !(eqS s t) with
      | true => a
      | false => b)
    | none => none)
  | none => none
def k100 (flow : Int) : Int := wr (modV flow 300 - 100)
theorem run_curves (n : Nat) (F : Nat → List AV) (raw : Fn7) (at_ by_ flow : Int) : arun envW Try.f4 [.slc 1 n F, .agg (fanL raw), .int .i64 at_, .int .i64 by_, .int .i64 flow] [] =
    match madeG n F at_ by_ with
    | some f => twoC (madeL f) flow no (twoC (madeL f) (k100 flow) no (twoC (fanL raw) flow no (twoC (fanL raw) (k100 flow) no yes)))
    | none => none := by kernel_rfl
noncomputable def twoA (cs : List AV) (st x : Int) (a b : Option (AV × List Blk)) : Option (AV × List Blk) := match atG cs st x with
  | some s => (match atG cs st x with
    | some t => (match !(eqS s t) with
      | true => a
      | false => b)
    | none => none)
  | none => none
def k150 (flow : Int) : Int := wr (modV flow 300 - 150)
def n6 (state : Int) : Int := wr (modV state 6 - 2)
def far (flow : Int) : Int := wr (1048576 + (k150 flow).tmod 3)
theorem run_states (n : Nat) (F : Nat → List AV) (raw : Fn7) (at_ by_ st flow : Int) : arun envW Try.f5 [.slc 1 n F, .agg (fanL raw), .int .i64 at_, .int .i64 by_, .int .i64 st, .int .i64 flow] [] =
    match madeG n F at_ by_ with
    | some f => twoA (madeL f) st flow no (twoA (madeL f) (n6 st) (k150 flow) no (twoA (madeL f) (n6 st) (far flow) no (twoA (fanL raw) st flow no (twoA (fanL raw) (n6 st) (k150 flow) no (twoA (fanL raw) (n6 st) (far flow) no yes)))))
    | none => none := by kernel_rfl
attribute [local irreducible] arun
theorem twoC_eq (f : Fn7) (x : Int) (a b : Option (AV × List Blk)) : twoC (fanL f) x a b = b := by
  unfold twoC
  rw [ccG_eq]
  dsimp only
  rw [eqS_refl]
  rfl
theorem twoA_eq (f : Fn7) (st x : Int) (a b : Option (AV × List Blk)) : twoA (fanL f) st x a b = b := by
  unfold twoA
  rw [atG_eq]
  dsimp only
  rw [eqS_refl]
  rfl
theorem curves_eq (n : Nat) (b : Nat → Int) (raw : Fn7) (at_ by_ flow : Int) : arun envW Try.f4 [.slc 1 n (bytesF b), .agg (fanL raw), .int .i64 at_, .int .i64 by_, .int .i64 flow] [] = some (.bool true, []) := by
  obtain ⟨f, e1, ok⟩ := madeG_ex n b at_ by_
  rw [run_curves, e1]
  dsimp only
  rw [madeL_eq ok, twoC_eq, twoC_eq, twoC_eq, twoC_eq]
  rfl
theorem states_eq (n : Nat) (b : Nat → Int) (raw : Fn7) (at_ by_ st flow : Int) : arun envW Try.f5 [.slc 1 n (bytesF b), .agg (fanL raw), .int .i64 at_, .int .i64 by_, .int .i64 st, .int .i64 flow] [] = some (.bool true, []) := by
  obtain ⟨f, e1, ok⟩ := madeG_ex n b at_ by_
  rw [run_states, e1]
  dsimp only
  rw [madeL_eq ok, twoA_eq, twoA_eq, twoA_eq, twoA_eq, twoA_eq, twoA_eq]
  rfl
open Go.ChangeShapes Go.WideShapes Go.ChangeAt Go.RowKit Go.Deep Go.Joins
theorem curves_calls (n : Nat) (b : Nat → Int) (raw : Fn7) (at_ by_ flow : Int) {w : World} {vs : Array Value} (hl : vs.size = 5)
    (hv : ∀ j, j < 5 → ∀ (M : Nat → Prop) (σ : Nat → Value) (V : Nat → Option Nat), (∀ g, ¬ M g) → VR w M σ V ([AV.slc 1 n (bytesF b), .agg (fanL raw), .int .i64 at_, .int .i64 by_, .int .i64 flow].getD j .undef) (vs.getD j undef)) : Calls Try.prog 4 vs w fun e w' => e = .returned (.bool true) ∧ Below w.heap.size w w' :=
  law_calls (E := envW) rfl envW_ok (fun _ => rfl) Try.func4 (curves_eq n b raw at_ by_ flow) hl hv
theorem states_calls (n : Nat) (b : Nat → Int) (raw : Fn7) (at_ by_ st flow : Int) {w : World} {vs : Array Value} (hl : vs.size = 6)
    (hv : ∀ j, j < 6 → ∀ (M : Nat → Prop) (σ : Nat → Value) (V : Nat → Option Nat), (∀ g, ¬ M g) → VR w M σ V ([AV.slc 1 n (bytesF b), .agg (fanL raw), .int .i64 at_, .int .i64 by_, .int .i64 st, .int .i64 flow].getD j .undef) (vs.getD j undef)) : Calls Try.prog 5 vs w fun e w' => e = .returned (.bool true) ∧ Below w.heap.size w w' :=
  law_calls (E := envW) rfl envW_ok (fun _ => rfl) Try.func5 (states_eq n b raw at_ by_ st flow) hl hv
end Go.Proofs.Ytombbbbgkjapcaa.Ab
