/- Stage 7, a drawn fan, and the sanity check, by the plain evaluator. -/
import Derived.Test.YtombbbbgkjapcaaE5
namespace Go.Proofs.Ytombbbbgkjapcaa.Ab
open Go

attribute [local irreducible] arun in
theorem curve_ex (n : Nat) (b : Nat → Int) (a : Int) (hn : n ≤ 300) (h0 : 0 ≤ a) (h1 : a ≤ 300) : ∃ x : Nat × (Nat → Int × Int) × Int, (1 ≤ x.1 ∧ x.1 ≤ 4 ∧ 0 ≤ x.2.2 ∧ x.2.2 ≤ 300) ∧
    arun envC0 Try.f21 [.ptr 0 0] [.var [.slc 1 n (bytesF b), .int .i64 a]] = some (.own 1 0, [.var [.slc 1 n (bytesF b), .int .i64 x.2.2], .row 0 2 x.1 42 (ptsF x.2.1)]) := by
  obtain ⟨v1, a1, e1, q1, q2⟩ := rangeG_ex n b a (-20) 10 hn h0 h1
  obtain ⟨v2, a2, e2, q3, q4⟩ := rangeG_ex n b a1 500 3000 hn q1 q2
  obtain ⟨v3, a3, e3, q5⟩ := nextG_ex n b a2 4 hn q3 q4
  obtain ⟨x, g1, g2⟩ := go_ex n b hn 3 a3 1 (fun _ => (v1, v2)) v3 q5.lo q5.hi (by omega) (by omega) (by have := q5.lt (by omega); omega)
  have hs : startC n (bytesF b) a3 v1 v2 v3 = sC n (bytesF b) a3 1 (ptsF fun _ => (v1, v2)) v3 := by
    unfold startC
    rw [show rowC 2 1 [AV.int .i64 v1, AV.int .i64 v2] = ptsF (fun _ => (v1, v2)) from funext fun m => rowC_one _ _ m]
  obtain ⟨z, hz, _, _, _, _, _, y, _, _, rfl, hy⟩ := theOne_some (p := fun z => ∃ n' F a p cnt x, startC n (bytesF b) a3 v1 v2 v3 = sC n' F a 1 (ptsF p) cnt ∧ GoC n' F a 1 p cnt x ∧ z = Sum.inl (β := Nat × (Nat → Int × Int) × Int) x ∧ (1 ≤ x.1 ∧ x.1 ≤ 4 ∧ 0 ≤ x.2.2 ∧ x.2.2 ≤ 300)) ⟨.inl x, n, bytesF b, a3, _, v3, x, hs, g1, rfl, g2⟩
  refine ⟨y, hy, ?_⟩
  rw [run_curve, e1]
  dsimp only
  rw [e2]
  dsimp only
  rw [e3]
  dsimp only
  rw [show gC (startC n (bytesF b) a3 v1 v2 v3) = some (.inl y) from hz]
noncomputable def curveG (n : Nat) (F : Nat → List AV) (a : Int) : Option (Nat × (Nat → Int × Int) × Int) :=
  theOne fun x => (1 ≤ x.1 ∧ x.1 ≤ 4 ∧ 0 ≤ x.2.2 ∧ x.2.2 ≤ 300) ∧ arun envC0 Try.f21 [.ptr 0 0] [.var [.slc 1 n F, .int .i64 a]] = some (.own 1 0, [.var [.slc 1 n F, .int .i64 x.2.2], .row 0 2 x.1 42 (ptsF x.2.1)])
noncomputable def curve? : List AV → List Blk → Option Ans
  | [.ptr 0 0], [.var [.slc 1 n F, .int .i64 a]] => some ⟨⟨_, curveG n F a, fun _ => .own 1 0, fun x => [.var [.slc 1 n F, .int .i64 x.2.2], .row 0 2 x.1 42 (ptsF x.2.1)]⟩, fun _ => false, fun _ h => by cases h⟩
  | _, _ => none
theorem tells_curve : Tells Try.prog 21 curve? := by
  refine tells_run (E := envC0) rfl Try.pok envC0_ok Try.func21 (fun c hc => ?_) fun xs ins r x h hx => ?_
  · refine loops_of c fun c' hc' f hf => ?_
    have hb : loopsOf c = [bC] := by
      have : Try.f21.body.map loopsOf = some [bC] := by kernel_rfl
      rw [hc] at this
      injection this
    rw [hb] at hc'
    obtain rfl := List.mem_singleton.1 hc'
    have h6 : firstReg bC = 3 := by kernel_rfl
    rw [h6] at hf
    injection hf with hf
    subst hf
    exact ltC
  · unfold curve? at h
    split at h
    · injection h with h
      subst h
      exact (theOne_spec (show theOne _ = some x from hx)).2
    · cases h
theorem curveG_ex (n : Nat) (b : Nat → Int) (a : Int) (hn : n ≤ 300) (h0 : 0 ≤ a) (h1 : a ≤ 300) : ∃ k p a', curveG n (bytesF b) a = some (k, p, a') ∧ 1 ≤ k ∧ k ≤ 4 ∧ 0 ≤ a' ∧ a' ≤ 300 := by
  obtain ⟨⟨k, p, a'⟩, h, h2, _⟩ := theOne_some (curve_ex n b a hn h0 h1)
  exact ⟨k, p, a', h, h2⟩

noncomputable def envM : Env := envS fun f => match f with
  | 13 => mod?
  | 18 => new?
  | 19 => next?
  | 20 => one?
  | 21 => curve?
  | _ => fun _ _ => none
theorem envM_ok : ∀ f, Tells Try.prog f (envM.fs f) := by
  intro f
  by_cases h1 : f = 13
  · subst h1; exact tells_mod
  by_cases h2 : f = 18
  · subst h2; exact tells_new
  by_cases h3 : f = 19
  · subst h3; exact tells_next
  by_cases h4 : f = 20
  · subst h4; exact tells_one
  by_cases h5 : f = 21
  · subst h5; exact tells_curve
  have : envM.fs f = fun _ _ => none := by
    unfold envM envS
    dsimp only
    split
    · exact absurd rfl h1
    · exact absurd rfl h2
    · exact absurd rfl h3
    · exact absurd rfl h4
    · exact absurd rfl h5
    · rfl
  rw [this]
  exact Tells.none_ f
def madeR (road : Int) (back : Bool) (k : Nat) (G : Nat → List AV) : Option (AV × List Blk) := some (.agg [.int .i64 road, .bool back, .bool false, .own 0 0], [.row 0 2 k 42 G])
def cutN (n : Nat) : Nat := (cut300 n).toNat
theorem run_made (n : Nat) (F : Nat → List AV) (at_ by_ : Int) : arun envM Try.f9 [.slc 1 n F, .int .i64 at_, .int .i64 by_] [] =
    match nextG (cutN n) F 0 3 with
    | some x1 => (match oneG (cutN n) F x1.2 2 with
      | some x2 => (match curveG (cutN n) F x2.2 with
        | some x3 => (match nextG (cutN n) F x3.2.2 8 with
          | some x4 => (match x4.1 == 1 with
            | true => (match decide (0 ≤ modV at_ x3.1 ∧ modV at_ x3.1 < (x3.1 : Int)) with
              | true => madeR x1.1 x2.1 x3.1 (fun j => if j = (modV at_ x3.1).toNat then setAt (ptsF x3.2.1 (modV at_ x3.1).toNat) 0 [.int .i64 by_] else ptsF x3.2.1 j)
              | false => none)
            | false => match x4.1 == 2 with
              | true => (match decide (0 ≤ modV at_ x3.1 ∧ modV at_ x3.1 < (x3.1 : Int)) with
                | true => madeR x1.1 x2.1 x3.1 (fun j => if j = (modV at_ x3.1).toNat then setAt (ptsF x3.2.1 (modV at_ x3.1).toNat) 1 [.int .i64 by_] else ptsF x3.2.1 j)
                | false => none)
              | false => match x4.1 == 3 with
                | true => madeR by_ x2.1 x3.1 (ptsF x3.2.1)
                | false => match x4.1 == 4 with
                  | true => (match decide ((x3.1 + x3.1) * 16 ≤ 140737488355328 ∧ x3.1 + x3.1 ≤ 1099511627776) with
                    | true => madeR x1.1 x2.1 (x3.1 + x3.1) (fun j => if j < x3.1 then ptsF x3.2.1 j else ptsF x3.2.1 (j - x3.1))
                    | false => none)
                  | false => madeR x1.1 x2.1 x3.1 (ptsF x3.2.1))
          | none => none)
        | none => none)
      | none => none)
    | none => none := by kernel_rfl
theorem run_awake : arun (envN Try.prog 100 20) Try.f12 [] [] = some (.bool true, []) := by kernel_rfl
def awake? : List AV → List Blk → Option Ans
  | [], [] => some (retV (.bool true))
  | _, _ => none
attribute [local irreducible] arun in
theorem tells_awake : Tells Try.prog 12 awake? := by
  refine (envN_tells Try.pok 100 21 12).of fun xs ins r x h _ => ?_
  unfold awake? at h
  split at h
  · injection h with h
    subst h
    refine ⟨runAns (envN Try.prog 100 20) Try.f12 [] [], (.bool true, []), ?_, run_awake, rfl, rfl⟩
    show (match Try.prog.funcs[12]? with | some fn => some (runAns (envN Try.prog 100 20) fn [] []) | none => none) = _
    rw [Try.func12]
  · cases h
end Go.Proofs.Ytombbbbgkjapcaa.Ab
