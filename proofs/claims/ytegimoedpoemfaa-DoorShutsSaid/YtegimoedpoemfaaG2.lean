/- Stage 8, drawing double doors and doors, by the plain evaluator. -/
import Derived.Test.YtegimoedpoemfaaG1
namespace Go.Proofs.Ytegimoedpoemfaa.Ab
open Go

theorem run_double (n : Nat) (F : Nat → List AV) (a p r s : Int) : arun envDD Try.f25 [.ptr 0 0, .int .i64 p, .int .i64 r, .int .i64 s] [.var [.slc 1 n F, .int .i64 a]] =
    match doorG n F a r with
    | some x => (match doorG n F x.2.2 s with
      | some y => some (.own 1 0, [.var [.slc 1 n F, .int .i64 y.2.2], .lrow 0 3 2 36 [.int .i64 r, .int .i64 (wr (p + 1)), .own 2 0, .int .i64 s, .int .i64 p, .own 3 0], .row 0 1 x.1 3 (intsF x.2.1), .row 0 1 y.1 3 (intsF y.2.1)])
      | none => none)
    | none => none := by kernel_rfl
attribute [local irreducible] arun
/-- What is drawn: two doors' numbers. -/
structure DD where
  k1 : Nat
  q1 : Nat → Int
  k2 : Nat
  q2 : Nat → Int
  a : Int
noncomputable def doubleG (n : Nat) (F : Nat → List AV) (a p r s : Int) : Option DD :=
  theOne fun x => (1 ≤ x.k1 ∧ x.k1 ≤ 8 ∧ 1 ≤ x.k2 ∧ x.k2 ≤ 8 ∧ 0 ≤ x.a ∧ x.a ≤ 300) ∧ arun envDD Try.f25 [.ptr 0 0, .int .i64 p, .int .i64 r, .int .i64 s] [.var [.slc 1 n F, .int .i64 a]] =
    some (.own 1 0, [.var [.slc 1 n F, .int .i64 x.a], .lrow 0 3 2 36 [.int .i64 r, .int .i64 (wr (p + 1)), .own 2 0, .int .i64 s, .int .i64 p, .own 3 0], .row 0 1 x.k1 3 (intsF x.q1), .row 0 1 x.k2 3 (intsF x.q2)])
noncomputable def double? : List AV → List Blk → Option Ans
  | [.ptr 0 0, .int .i64 p, .int .i64 r, .int .i64 s], [.var [.slc 1 n F, .int .i64 a]] => some ⟨⟨_, doubleG n F a p r s, fun _ => .own 1 0, fun x => [.var [.slc 1 n F, .int .i64 x.a], .lrow 0 3 2 36 [.int .i64 r, .int .i64 (wr (p + 1)), .own 2 0, .int .i64 s, .int .i64 p, .own 3 0], .row 0 1 x.k1 3 (intsF x.q1), .row 0 1 x.k2 3 (intsF x.q2)]⟩, fun _ => false, fun _ h => by cases h⟩
  | _, _ => none
theorem tells_double : Tells Try.prog 25 double? := by
  refine tells_run (E := envDD) rfl Try.pok envDD_ok Try.func25 (fun c _ => envS_loops c) fun xs ins r x h hx => ?_
  unfold double? at h
  split at h
  · injection h with h
    subst h
    exact (theOne_spec (show theOne _ = some x from hx)).2
  · cases h
theorem doubleG_ex (n : Nat) (b : Nat → Int) (a p r s : Int) (hn : n ≤ 300) (h0 : 0 ≤ a) (h1 : a ≤ 300) : ∃ x, doubleG n (bytesF b) a p r s = some x ∧ 1 ≤ x.k1 ∧ x.k1 ≤ 8 ∧ 1 ≤ x.k2 ∧ x.k2 ≤ 8 ∧ 0 ≤ x.a ∧ x.a ≤ 300 := by
  obtain ⟨k1, q1, a1, e1, f1, f2, f3, f4⟩ := doorG_ex n b a r hn h0 h1
  obtain ⟨k2, q2, a2, e2, g1, g2, g3, g4⟩ := doorG_ex n b a1 s hn f3 f4
  obtain ⟨x, h, h2, _⟩ := theOne_some (p := fun x : DD => (1 ≤ x.k1 ∧ x.k1 ≤ 8 ∧ 1 ≤ x.k2 ∧ x.k2 ≤ 8 ∧ 0 ≤ x.a ∧ x.a ≤ 300) ∧ arun envDD Try.f25 [.ptr 0 0, .int .i64 p, .int .i64 r, .int .i64 s] [.var [.slc 1 n (bytesF b), .int .i64 a]] =
    some (.own 1 0, [.var [.slc 1 n (bytesF b), .int .i64 x.a], .lrow 0 3 2 36 [.int .i64 r, .int .i64 (wr (p + 1)), .own 2 0, .int .i64 s, .int .i64 p, .own 3 0], .row 0 1 x.k1 3 (intsF x.q1), .row 0 1 x.k2 3 (intsF x.q2)]))
    ⟨⟨k1, q1, k2, q2, a2⟩, ⟨f1, f2, g1, g2, g3, g4⟩, by
      rw [run_double, e1]
      dsimp only
      rw [e2]⟩
  exact ⟨x, h, h2⟩
end Go.Proofs.Ytegimoedpoemfaa.Ab
