/- Drawing: Mod, New, Next, One, Range, by the plain evaluator. -/
import Derived.Test.YtegimoedpoemfaaE1
namespace Go.Proofs.Ytegimoedpoemfaa.Ab
open Go

noncomputable def env0 : Env := envS fun _ _ _ => none
def wr (x : Int) : Int := IntKind.i64.wrap x
def bytesF (b : Nat → Int) (k : Nat) : List AV := [.int .u8 (b k)]
def codesB (n : Nat) (b : Nat → Int) (a : Int) : Blk := .var [.slc 1 n (bytesF b), .int .i64 a]

def modV (k n : Int) : Int := if n < 1 then 0 else if k.tmod n < 0 then wr (k.tmod n + n) else k.tmod n
def mod? : List AV → List Blk → Option Ans
  | [.int .i64 k, .int .i64 n], [] => some (retV (.int .i64 (modV k n)))
  | _, _ => none
theorem run_mod (k n : Int) : arun env0 Try.f12 [.int .i64 k, .int .i64 n] [] =
    match decide (n < 1) with
    | true => some (.int .i64 0, [])
    | false => match n != 0 with
      | true => (match decide (k.tmod n < 0) with
        | true => some (.int .i64 (wr (k.tmod n + n)), [])
        | false => some (.int .i64 (k.tmod n), []))
      | false => none := by kernel_rfl
theorem tells_mod : Tells Try.prog 12 mod? := by
  refine tells_run (E := env0) rfl Try.pok (fun f => Tells.none_ f) Try.func12 (fun c _ => envS_loops c) fun xs ins r x h _ => ?_
  unfold mod? at h
  split at h
  · rename_i k n
    injection h with h
    subst h
    rw [run_mod]
    show _ = some (AV.int .i64 (modV k n), [])
    unfold modV
    by_cases h1 : n < 1
    · rw [if_pos h1]; exact kt (decide_eq_true h1) rfl
    · rw [if_neg h1]
      refine kf (decide_eq_false h1) (kt (by simp; omega) ?_)
      by_cases h2 : k.tmod n < 0
      · rw [if_pos h2]; exact kt (decide_eq_true h2) rfl
      · rw [if_neg h2]; exact kf (decide_eq_false h2) rfl
  · cases h
theorem modV_range {k n : Int} (h1 : 1 ≤ n) (h2 : n ≤ 1099511627776) : 0 ≤ modV k n ∧ modV k n < n := by
  unfold modV wr
  have := Int.tmod_lt_of_pos k (show 0 < n by omega)
  have h3 : -n < k.tmod n := by
    have e := Int.tmod_lt_of_pos (-k) (show 0 < n by omega)
    rw [Int.neg_tmod] at e
    omega
  rw [if_neg (by omega)]
  by_cases h4 : k.tmod n < 0
  · rw [if_pos h4, IntKind.wrap_i64]; omega
  · rw [if_neg h4]; omega

def cut300 (n : Nat) : Int := if (300 : Int) < (n : Int) then (300 : Int) else (n : Int)
theorem run_new (n : Nat) (F : Nat → List AV) : arun env0 Try.f22 [.slc 1 n F] [] =
    match decide (0 ≤ cut300 n ∧ cut300 n ≤ (n : Int)) with
    | true => some (.ptr 0 0, [.var [.slc 1 (cut300 n).toNat F, .int .i64 0]])
    | false => none := by kernel_rfl
theorem cut300_ok (n : Nat) : 0 ≤ cut300 n ∧ cut300 n ≤ (n : Int) ∧ (cut300 n).toNat ≤ 300 := by unfold cut300; split <;> omega
def new? : List AV → List Blk → Option Ans
  | [.slc 1 n F], [] => some ⟨⟨Unit, some (), fun _ => .ptr 0 0, fun _ => [.var [.slc 1 (cut300 n).toNat F, .int .i64 0]]⟩, fun _ => false, fun _ h => by cases h⟩
  | _, _ => none
theorem tells_new : Tells Try.prog 22 new? := by
  refine tells_run (E := env0) rfl Try.pok (fun f => Tells.none_ f) Try.func22 (fun c _ => envS_loops c) fun xs ins r x h _ => ?_
  unfold new? at h
  split at h
  · rename_i n F
    injection h with h
    subst h
    rw [run_new]
    have := cut300_ok n
    exact kt (decide_eq_true ⟨this.1, this.2.1⟩) rfl
  · cases h
theorem run_next (n : Nat) (b : Nat → Int) (a m : Int) : arun env0 Try.f23 [.ptr 0 0, .int .i64 m] [codesB n b a] =
    match decide (m < 1) with
    | true => some (.int .i64 0, [codesB n b a])
    | false => match decide (a ≥ n) with
      | true => some (.int .i64 0, [codesB n b a])
      | false => match decide (0 ≤ wr (wr (a + 1) - 1) ∧ wr (wr (a + 1) - 1) < n) with
        | true => (match decide (m > 256) with
          | true => (match decide (wr (a + 1) < n) with
            | true => (match decide (0 ≤ wr (a + 1) ∧ wr (a + 1) < n) with
              | true => (match m != 0 with
                | true => some (.int .i64 ((wr (wr (wr (b (wr (wr (a + 1) - 1)).toNat) * 256) + wr (b (wr (a + 1)).toNat))).tmod m), [codesB n b (wr (wr (a + 1) + 1))])
                | false => none)
              | false => none)
            | false => match m != 0 with
              | true => some (.int .i64 ((wr (b (wr (wr (a + 1) - 1)).toNat)).tmod m), [codesB n b (wr (a + 1))])
              | false => none)
          | false => match m != 0 with
            | true => some (.int .i64 ((wr (b (wr (wr (a + 1) - 1)).toNat)).tmod m), [codesB n b (wr (a + 1))])
            | false => none)
        | false => none := by kernel_rfl
theorem wr_small {x : Int} (h0 : -1000 ≤ x) (h1 : x ≤ 1000) : wr x = x := by show IntKind.i64.wrap x = x; rw [IntKind.wrap_i64]; omega
/-- What a drawing leaves: a value below m, the codes a place further. -/
structure NextOK (n : Nat) (m v a' : Int) : Prop where
  lo : 0 ≤ a'
  hi : a' ≤ 300
  lt : 1 ≤ m → v < m
  gt : 1 ≤ m → -m < v
theorem next_ex (n : Nat) (b : Nat → Int) (a m : Int) (hn : n ≤ 300) (h0 : 0 ≤ a) (h1 : a ≤ 300) :
    ∃ x : Int × Int, NextOK n m x.1 x.2 ∧ arun env0 Try.f23 [.ptr 0 0, .int .i64 m] [codesB n b a] = some (.int .i64 x.1, [codesB n b x.2]) := by
  rw [run_next]
  by_cases c1 : m < 1
  · exact ⟨(0, a), ⟨h0, h1, fun h => by omega, fun h => by omega⟩, kt (decide_eq_true c1) rfl⟩
  rw [show decide (m < 1) = false from decide_eq_false c1]
  by_cases c2 : a ≥ n
  · exact ⟨(0, a), ⟨h0, h1, fun h => by dsimp only; omega, fun h => by dsimp only; omega⟩, kt (decide_eq_true c2) rfl⟩
  have e1 : wr (a + 1) = a + 1 := wr_small (by omega) (by omega)
  have e2 : wr (a + 1 - 1) = a := by rw [wr_small (by omega) (by omega)]; omega
  have e3 : (m != 0) = true := by simp; omega
  have lt : ∀ x : Int, 1 ≤ m → x.tmod m < m := fun x h => Int.tmod_lt_of_pos x (by omega)
  have gt : ∀ x : Int, 1 ≤ m → -m < x.tmod m := fun x h => by
    have e := Int.tmod_lt_of_pos (-x) (show 0 < m by omega)
    rw [Int.neg_tmod] at e
    omega
  rw [e1, e2]
  dsimp only
  rw [show decide (a ≥ n) = false from decide_eq_false c2, show decide (0 ≤ a ∧ a < n) = true from decide_eq_true ⟨h0, by omega⟩, e3]
  dsimp only
  by_cases c3 : m > 256
  · rw [show decide (m > 256) = true from decide_eq_true c3]
    dsimp only
    by_cases c4 : a + 1 < n
    · rw [show decide (a + 1 < n) = true from decide_eq_true c4, show decide (0 ≤ a + 1 ∧ a + 1 < n) = true from decide_eq_true ⟨by omega, c4⟩, wr_small (x := a + 1 + 1) (by omega) (by omega)]
      exact ⟨(_, a + 1 + 1), ⟨by omega, by omega, lt _, gt _⟩, rfl⟩
    · rw [show decide (a + 1 < n) = false from decide_eq_false c4]
      exact ⟨(_, a + 1), ⟨by omega, by omega, lt _, gt _⟩, rfl⟩
  · rw [show decide (m > 256) = false from decide_eq_false c3]
    exact ⟨(_, a + 1), ⟨by omega, by omega, lt _, gt _⟩, rfl⟩
/-- What is told of a drawing. -/
noncomputable def nextG (n : Nat) (F : Nat → List AV) (a m : Int) : Option (Int × Int) :=
  theOne fun x => NextOK n m x.1 x.2 ∧ arun env0 Try.f23 [.ptr 0 0, .int .i64 m] [.var [.slc 1 n F, .int .i64 a]] = some (.int .i64 x.1, [.var [.slc 1 n F, .int .i64 x.2]])
noncomputable def next? : List AV → List Blk → Option Ans
  | [.ptr 0 0, .int .i64 m], [.var [.slc 1 n F, .int .i64 a]] => some ⟨⟨Int × Int, nextG n F a m, fun x => .int .i64 x.1, fun x => [.var [.slc 1 n F, .int .i64 x.2]]⟩, fun _ => false, fun _ h => by cases h⟩
  | _, _ => none
theorem tells_next : Tells Try.prog 23 next? := by
  refine tells_run (E := env0) rfl Try.pok (fun f => Tells.none_ f) Try.func23 (fun c _ => envS_loops c) fun xs ins r x h hx => ?_
  unfold next? at h
  split at h
  · injection h with h
    subst h
    exact (theOne_spec (show theOne _ = some x from hx)).2
  · cases h
theorem nextG_ex (n : Nat) (b : Nat → Int) (a m : Int) (hn : n ≤ 300) (h0 : 0 ≤ a) (h1 : a ≤ 300) : ∃ v a', nextG n (bytesF b) a m = some (v, a') ∧ NextOK n m v a' := by
  obtain ⟨⟨v, a'⟩, h, h2⟩ := theOne_some (next_ex n b a m hn h0 h1)
  exact ⟨v, a', h, h2.1⟩
/-- One environment with these contracts. -/
noncomputable def envD : Env := envS fun f => match f with | 23 => next? | _ => fun _ _ => none
theorem envD_ok : ∀ f, Tells Try.prog f (envD.fs f) := by
  intro f
  by_cases h1 : f = 23
  · subst h1; exact tells_next
  have : envD.fs f = fun _ _ => none := by
    show (match f with | 23 => next? | _ => fun _ _ => none) = _
    split
    · exact absurd rfl h1
    · rfl
  rw [this]
  exact Tells.none_ f
theorem run_one (n : Nat) (b : Nat → Int) (a m : Int) : arun envD Try.f24 [.ptr 0 0, .int .i64 m] [codesB n b a] =
    match nextG n (bytesF b) a m with
    | some x => some (.bool (x.1 == wr (m - 1)), [codesB n b x.2])
    | none => none := by kernel_rfl
theorem run_range (n : Nat) (b : Nat → Int) (a lo hi : Int) : arun envD Try.f34 [.ptr 0 0, .int .i64 lo, .int .i64 hi] [codesB n b a] =
    match nextG n (bytesF b) a (wr (wr (hi - lo) + 1)) with
    | some x => some (.int .i64 (wr (lo + x.1)), [codesB n b x.2])
    | none => none := by kernel_rfl
attribute [local irreducible] arun
/-- What is told of One and Range. -/
noncomputable def oneG (n : Nat) (F : Nat → List AV) (a m : Int) : Option (Bool × Int) :=
  theOne fun x => (0 ≤ x.2 ∧ x.2 ≤ 300) ∧ arun envD Try.f24 [.ptr 0 0, .int .i64 m] [.var [.slc 1 n F, .int .i64 a]] = some (.bool x.1, [.var [.slc 1 n F, .int .i64 x.2]])
noncomputable def one? : List AV → List Blk → Option Ans
  | [.ptr 0 0, .int .i64 m], [.var [.slc 1 n F, .int .i64 a]] => some ⟨⟨Bool × Int, oneG n F a m, fun x => .bool x.1, fun x => [.var [.slc 1 n F, .int .i64 x.2]]⟩, fun _ => false, fun _ h => by cases h⟩
  | _, _ => none
theorem tells_one : Tells Try.prog 24 one? := by
  refine tells_run (E := envD) rfl Try.pok envD_ok Try.func24 (fun c _ => envS_loops c) fun xs ins r x h hx => ?_
  unfold one? at h
  split at h
  · injection h with h
    subst h
    exact (theOne_spec (show theOne _ = some x from hx)).2
  · cases h
theorem oneG_ex (n : Nat) (b : Nat → Int) (a m : Int) (hn : n ≤ 300) (h0 : 0 ≤ a) (h1 : a ≤ 300) : ∃ v a', oneG n (bytesF b) a m = some (v, a') ∧ 0 ≤ a' ∧ a' ≤ 300 := by
  obtain ⟨v, a', e, ok⟩ := nextG_ex n b a m hn h0 h1
  obtain ⟨⟨v, a'⟩, h, h2⟩ := theOne_some (p := fun x : Bool × Int => (0 ≤ x.2 ∧ x.2 ≤ 300) ∧ arun envD Try.f24 [.ptr 0 0, .int .i64 m] [.var [.slc 1 n (bytesF b), .int .i64 a]] = some (.bool x.1, [.var [.slc 1 n (bytesF b), .int .i64 x.2]]))
    ⟨(v == wr (m - 1), a'), ⟨ok.lo, ok.hi⟩, by
      have := run_one n b a m
      rw [e] at this
      exact this⟩
  exact ⟨v, a', h, h2.1⟩
noncomputable def rangeG (n : Nat) (F : Nat → List AV) (a lo hi : Int) : Option (Int × Int) :=
  theOne fun x => ((0 ≤ x.2 ∧ x.2 ≤ 300) ∧ (lo ≤ hi → -1000 ≤ lo → hi ≤ 1000 → x.1 ≤ hi)) ∧ arun envD Try.f34 [.ptr 0 0, .int .i64 lo, .int .i64 hi] [.var [.slc 1 n F, .int .i64 a]] = some (.int .i64 x.1, [.var [.slc 1 n F, .int .i64 x.2]])
noncomputable def range? : List AV → List Blk → Option Ans
  | [.ptr 0 0, .int .i64 lo, .int .i64 hi], [.var [.slc 1 n F, .int .i64 a]] => some ⟨⟨Int × Int, rangeG n F a lo hi, fun x => .int .i64 x.1, fun x => [.var [.slc 1 n F, .int .i64 x.2]]⟩, fun _ => false, fun _ h => by cases h⟩
  | _, _ => none
theorem tells_range : Tells Try.prog 34 range? := by
  refine tells_run (E := envD) rfl Try.pok envD_ok Try.func34 (fun c _ => envS_loops c) fun xs ins r x h hx => ?_
  unfold range? at h
  split at h
  · injection h with h
    subst h
    exact (theOne_spec (show theOne _ = some x from hx)).2
  · cases h
theorem rangeG_ex2 (n : Nat) (b : Nat → Int) (a lo hi : Int) (hn : n ≤ 300) (h0 : 0 ≤ a) (h1 : a ≤ 300) : ∃ v a', rangeG n (bytesF b) a lo hi = some (v, a') ∧ 0 ≤ a' ∧ a' ≤ 300 ∧ (lo ≤ hi → -1000 ≤ lo → hi ≤ 1000 → v ≤ hi) := by
  obtain ⟨v, a', e, ok⟩ := nextG_ex n b a (wr (wr (hi - lo) + 1)) hn h0 h1
  obtain ⟨⟨v, a'⟩, h, h2⟩ := theOne_some (p := fun x : Int × Int => ((0 ≤ x.2 ∧ x.2 ≤ 300) ∧ (lo ≤ hi → -1000 ≤ lo → hi ≤ 1000 → x.1 ≤ hi)) ∧ arun envD Try.f34 [.ptr 0 0, .int .i64 lo, .int .i64 hi] [.var [.slc 1 n (bytesF b), .int .i64 a]] = some (.int .i64 x.1, [.var [.slc 1 n (bytesF b), .int .i64 x.2]]))
    ⟨(wr (lo + v), a'), ⟨⟨ok.lo, ok.hi⟩, fun h3 h4 h5 => by
      have e1 : wr (hi - lo) = hi - lo := by show IntKind.i64.wrap _ = _; rw [IntKind.wrap_i64]; omega
      have e2 : wr (hi - lo + 1) = hi - lo + 1 := by show IntKind.i64.wrap _ = _; rw [IntKind.wrap_i64]; omega
      rw [e1, e2] at ok
      have q1 := ok.lt (by omega)
      have q2 := ok.gt (by omega)
      dsimp only
      have e3 : wr (lo + v) = lo + v := by show IntKind.i64.wrap _ = _; rw [IntKind.wrap_i64]; omega
      omega⟩, by
      have := run_range n b a lo hi
      rw [e] at this
      exact this⟩
  exact ⟨v, a', h, h2.1.1.1, h2.1.1.2, h2.1.2⟩
theorem rangeG_ex (n : Nat) (b : Nat → Int) (a lo hi : Int) (hn : n ≤ 300) (h0 : 0 ≤ a) (h1 : a ≤ 300) : ∃ v a', rangeG n (bytesF b) a lo hi = some (v, a') ∧ 0 ≤ a' ∧ a' ≤ 300 := by
  obtain ⟨v, a', e, q1, q2, _⟩ := rangeG_ex2 n b a lo hi hn h0 h1
  exact ⟨v, a', e, q1, q2⟩
end Go.Proofs.Ytegimoedpoemfaa.Ab
