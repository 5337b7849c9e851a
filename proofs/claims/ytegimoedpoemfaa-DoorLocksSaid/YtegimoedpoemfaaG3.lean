/- Stage 8, made doors: the run, by the plain evaluator. -/
import Derived.Test.YtegimoedpoemfaaG2
namespace Go.Proofs.Ytegimoedpoemfaa.Ab
open Go

/-- A door as it is made: its numbers as cells. -/
structure MD where
  road : Int
  other : Int
  k : Nat
  f : Nat → List AV
abbrev DoorT : TypeId := 36
abbrev IntT : TypeId := 3
noncomputable def envDs : Env := envS (fun f => match f with
  | 12 => mod?
  | 22 => new?
  | 23 => next?
  | 24 => one?
  | 26 => door?
  | 25 => double?
  | _ => fun _ _ => none) (fun r => match r with | 5 => some ([], [4, 1, 2, 8, 9, 10, 11]) | 11 => some ([], [8, 1, 2, 8, 9, 10, 12]) | _ => none)
abbrev OutD := AV × List Blk
def cellsD : Nat → List MD → List AV
  | _, [] => []
  | i, d :: ds => .int .i64 d.road :: .int .i64 d.other :: .own i 0 :: cellsD (i + 1) ds
def rowsD : List MD → List Blk
  | [] => []
  | d :: ds => .row 0 1 d.k IntT d.f :: rowsD ds
def lenD : List MD → Nat
  | [] => 0
  | _ :: ds => lenD ds + 1
/-- A round of the first loop. -/
noncomputable def rd1 (n : Nat) (F : Nat → List AV) (next : Int → Int → List MD → (Int → List MD → Option OutD) → Option OutD) (cnt a : Int) (ds : List MD) (K : Int → List MD → Option OutD) : Option OutD :=
  match decide (cnt > 0) with
  | true => match oneG n F a 2 with
    | some x => match x.1 with
      | true => match nextG n F x.2 3 with
        | some y => match nextG n F y.2 3 with
          | some z => match doubleG n F z.2 ((lenD ds : Nat) : Int) y.1 z.1 with
            | some d => next (wr (cnt - 1)) d.a (ds ++ [⟨y.1, wr (((lenD ds : Nat) : Int) + 1), d.k1, intsF d.q1⟩, ⟨z.1, ((lenD ds : Nat) : Int), d.k2, intsF d.q2⟩]) K
            | none => none
          | none => none
        | none => none
      | false => match nextG n F x.2 3 with
        | some y => match doorG n F y.2 y.1 with
          | some d => next (wr (cnt - 1)) d.2.2 (ds ++ [⟨y.1, -1, d.1, intsF d.2.1⟩]) K
          | none => none
        | none => none
    | none => none
  | false => K a ds
/-- The states, one after the other. -/
noncomputable def rd2 (n : Nat) (F : Nat → List AV) (K : Int → Nat → (Nat → List AV) → Option OutD) : List MD → Int → Nat → (Nat → List AV) → Option OutD
  | [], a, m, G => K a m G
  | d :: ds, a, m, G => match nextG n F a (wr ((d.k : Int) + 1)) with
    | some y => rd2 n F K ds y.2 (m + 1) (match m with | 0 => rowC 1 1 [.int .i64 (wr (y.1 - 1))] | _ + 1 => fun j => if j < m then G j else rowC 1 1 [.int .i64 (wr (y.1 - 1))] (j - m))
    | none => none
def outD (ds : List MD) (m : Nat) (G : Nat → List AV) : Option OutD := some (.tup [.own 0 0, .own 1 0], .lrow 0 3 (lenD ds) DoorT (cellsD 2 ds) :: .row 0 1 m IntT G :: rowsD ds)
def setD (d : MD) : Nat → List MD → List MD
  | _, [] => []
  | 0, _ :: ds => d :: ds
  | i + 1, e :: ds => e :: setD d i ds
/-- What is changed, now and then. -/
noncomputable def rd4 (n : Nat) (F : Nat → List AV) (at' by' : Int) (ds : List MD) (a : Int) (m : Nat) (G : Nat → List AV) (i : Nat) (d : MD) : Option OutD :=
  match nextG n F a 10 with
  | some y => match y.1 == 1 with
    | true => outD (setD { d with other := by' } i ds) m G
    | false => match y.1 == 2 with
      | true => match decide (0 ≤ modV at' d.k ∧ modV at' d.k < d.k) with
        | true => outD (setD { d with f := fun j => if j = (modV at' d.k).toNat then setAt (d.f (modV at' d.k).toNat) 0 [.int .i64 by'] else d.f j } i ds) m G
        | false => none
      | false => match y.1 == 3 with
        | true => outD (setD { d with road := by' } i ds) m G
        | false => match y.1 == 4 with
          | true => some (.tup [.own 0 0, .slc 1 (m - 1) fun k => G (k + 1)], .lrow 0 3 (lenD ds) DoorT (cellsD 1 ds) :: rowsD ds)
          | false => outD ds m G
  | none => none
noncomputable def rd3 (n : Nat) (F : Nat → List AV) (at' by' : Int) (ds : List MD) (a : Int) (m : Nat) (G : Nat → List AV) : List MD → Nat → Option OutD
  | [], _ => none
  | d :: r, i => match decide (modV at' ((lenD ds : Nat) : Int) = ((i : Nat) : Int)) with
    | true => rd4 n F at' by' ds a m G i d
    | false => rd3 n F at' by' ds a m G r (i + 1)
noncomputable def rdT (n : Nat) (F : Nat → List AV) (at' by' : Int) (ds : List MD) (a : Int) (m : Nat) (G : Nat → List AV) : Option OutD :=
  match ds with
  | [] => some (.tup [.own 0 0, .own 1 0], [.nilrow 0, .nilrow 0])
  | _ :: _ => rd3 n F at' by' ds a m G ds 0
noncomputable def rdAll (n : Nat) (F : Nat → List AV) (at' by' : Int) : Option OutD :=
  match nextG n F 0 4 with
  | some x => rd1 n F (rd1 n F (rd1 n F (rd1 n F fun _ _ _ _ => none))) x.1 x.2 [] fun a ds => rd2 n F (rdT n F at' by' ds) ds a 0 (fun _ => [])
  | none => none
theorem run_doors (n : Nat) (F : Nat → List AV) (at' by' : Int) : arun envDs Try.f9 [.slc 1 n F, .int .i64 at', .int .i64 by'] [] = rdAll (cut300 n).toNat F at' by' := by kernel_rfl
end Go.Proofs.Ytegimoedpoemfaa.Ab
