/- Stage 7, the program's pressure on a curve, by the plain evaluator. -/
import Derived.Test.YtombbbbgkjapcaaE6
namespace Go.Proofs.Ytombbbbgkjapcaa.Ab
open Go

def spanA (s : Int × Int) : AV := .agg [.int .i64 s.1, .int .i64 s.2]
/-- The first point at or behind a flow. -/
def idxFrom (p : Nat → Int × Int) (x : Int) : Nat → Nat → Int
  | 0, _ => -1
  | k + 1, i => if (p i).1 ≥ x then i else idxFrom p x k (i + 1)
def ge? : List AV → List Blk → Option Ans
  | [.agg [.int .i64 a, .int .i64 _], .ptr 0 0], [.var [.int .i64 x]] => some ⟨⟨Unit, some (), fun _ => .bool (decide (a ≥ x)), fun _ => [.var [.int .i64 x]]⟩, fun _ => true, fun _ _ => ⟨rfl, fun b hb => by
      obtain rfl := List.mem_singleton.1 hb
      rfl⟩⟩
  | _, _ => none
theorem run_ge (a b x : Int) : arun env0 Try.f30 [.agg [.int .i64 a, .int .i64 b], .ptr 0 0] [.var [.int .i64 x]] = some (.bool (decide (a ≥ x)), [.var [.int .i64 x]]) := by kernel_rfl
attribute [local irreducible] arun in
theorem tells_ge : Tells Try.prog 30 ge? := by
  refine tells_run (E := env0) rfl Try.pok (fun f => Tells.none_ f) Try.func30 (fun c _ => envS_loops c) fun xs ins r x h _ => ?_
  unfold ge? at h
  split at h
  · injection h with h
    subst h
    exact run_ge _ _ _
  · cases h

noncomputable def b29 : Code := loopOf 2 Try.f29
def s29 (n : Nat) (F : Nat → List AV) (x i : Int) : St := ⟨[(0, .slc 2 n F), (1, .fn 30 [.ptr 0 0]), (7, .int .i64 n), (8, .int .i64 i)], [(0, .var [.int .i64 x])], 257⟩
def x29 (x : Int) (v : AV) : St := ⟨[(4, v)], [(0, .var [.int .i64 x])], 257⟩
def zI (r : Int) : Unit ⊕ Int := if r = -1 then .inl () else .inr r
noncomputable def g29 (s : St) : Option (Unit ⊕ Int) := theOne fun z => ∃ n p x, s = s29 n (ptsF p) x 0 ∧ n ≤ 8 ∧ z = zI (idxFrom p x n 0)
noncomputable def loop29 (s : St) : Option LRes := some ⟨Unit, Int, g29 s, .exit 0, fun _ => ⟨[(4, .undef)], s.hp, 257⟩, .ret, fun r => ⟨[(4, .int .i64 r)], s.hp, 257⟩⟩
noncomputable def env29 : Env := { envS (fun f => match f with | 30 => ge? | _ => fun _ _ => none) (fun r => match r with | 2 => some ([0, 1, 7, 8], [4]) | _ => none) with loops := fun r => match r with | 2 => some loop29 | _ => none }
theorem env29_ok : ∀ f, Tells Try.prog f (env29.fs f) := by
  intro f
  by_cases h1 : f = 30
  · subst h1; exact tells_ge
  have : env29.fs f = fun _ _ => none := by
    unfold env29 envS
    dsimp only
    split
    · exact absurd rfl h1
    · rfl
  rw [this]
  exact Tells.none_ f
noncomputable def e29 : Env := { env29 with nt := 19 }
noncomputable def l29 {R : Type} (N : Nat) (s : St) (K : AX → St → Option R) : Option R := aloop (fun s j => aexec e29 b29 s j) (headOf e29 b29 257) (exitOf e29 b29 257) N s K
theorem round29 {R : Type} (n : Nat) (p : Nat → Int × Int) (x i : Int) (N : Nat) (K : AX → St → Option R) :
    l29 (N + 1) (s29 n (ptsF p) x i) K =
    match decide (i < n) with
    | true => (match decide (0 ≤ i ∧ i < n) with
      | true => (match decide ((p i.toNat).1 ≥ x) with
        | true => K .ret (x29 x (.int .i64 i))
        | false => l29 N (s29 n (ptsF p) x (IntKind.i64.wrap (i + 1))) K)
      | false => none)
    | false => K (.exit 0) (x29 x .undef) := by kernel_rfl
theorem idxFrom_lo (p : Nat → Int × Int) (x : Int) : ∀ k i, idxFrom p x k i = -1 ∨ ((i : Int) ≤ idxFrom p x k i ∧ idxFrom p x k i < i + k ∧ (p (idxFrom p x k i).toNat).1 ≥ x ∧ ∀ j : Nat, i ≤ j → (j : Int) < idxFrom p x k i → (p j).1 < x) := by
  intro k
  induction k with
  | zero => intro i; exact .inl rfl
  | succ k ih =>
    intro i
    unfold idxFrom
    split
    · rename_i h; exact .inr ⟨Int.le_refl _, by omega, h, fun j h1 h2 => by omega⟩
    · rename_i h
      rcases ih (i + 1) with h2 | ⟨h2, h3, h4, h5⟩
      · exact .inl h2
      · refine .inr ⟨by omega, by omega, h4, fun j h6 h7 => ?_⟩
        by_cases hj : j = i
        · subst hj; omega
        · exact h5 j (by omega) h7
theorem idxFrom_none (p : Nat → Int × Int) (x : Int) : ∀ k i, idxFrom p x k i = -1 → ∀ j, i ≤ j → j < i + k → (p j).1 < x := by
  intro k
  induction k with
  | zero => intro i _ j h1 h2; omega
  | succ k ih =>
    intro i h j h1 h2
    unfold idxFrom at h
    split at h
    · omega
    · by_cases hj : j = i
      · subst hj; omega
      · exact ih (i + 1) h j (by omega) (by omega)
theorem rounds29 {R : Type} (n : Nat) (p : Nat → Int × Int) (x : Int) (K : AX → St → Option R) (hn : n ≤ 8) : ∀ (k i : Nat), i + k = n →
    l29 (k + 1) (s29 n (ptsF p) x i) K = match zI (idxFrom p x k i) with | .inl _ => K (.exit 0) (x29 x .undef) | .inr r => K .ret (x29 x (.int .i64 r)) := by
  intro k
  induction k with
  | zero =>
    intro i hi
    rw [round29]
    exact kf (decide_eq_false (by omega)) rfl
  | succ k ih =>
    intro i hi
    rw [round29]
    refine kt (decide_eq_true (by omega)) (kt (decide_eq_true ⟨by omega, by omega⟩) ?_)
    have e0 : ((i : Int)).toNat = i := rfl
    rw [e0, wrap_small (by omega) (by omega)]
    have hck : idxFrom p x (k + 1) i = if (p i).1 ≥ x then (i : Int) else idxFrom p x k (i + 1) := rfl
    rw [hck]
    by_cases h : (p i).1 ≥ x
    · rw [if_pos h]
      refine kt (decide_eq_true h) ?_
      have : zI (i : Int) = .inr (i : Int) := by unfold zI; rw [if_neg (by omega)]
      rw [this]
    · rw [if_neg h]
      exact kf (decide_eq_false h) (ih (i + 1) (by omega))
theorem ptsF_inj {p p' : Nat → Int × Int} (h : ptsF p = ptsF p') : p = p' := by
  funext k
  have := congrFun h k
  simp only [ptsF, List.cons.injEq, AV.int.injEq, true_and, and_true] at this
  exact Prod.ext this.1 this.2
theorem g29_eq (n : Nat) (p : Nat → Int × Int) (x : Int) (hn : n ≤ 8) : g29 (s29 n (ptsF p) x 0) = some (zI (idxFrom p x n 0)) :=
  theOne_eq ⟨n, p, x, rfl, hn, rfl⟩ fun z ⟨n', p', x', h1, _, h3⟩ => by
    simp only [s29, St.mk.injEq, List.cons.injEq, Prod.mk.injEq, AV.slc.injEq, Blk.var.injEq, AV.int.injEq, true_and, and_true] at h1
    obtain ⟨⟨⟨rfl, h5⟩, _⟩, rfl⟩ := h1
    rw [h3, ptsF_inj h5]
theorem lt29 : LoopTells e29 b29 loop29 := by
  intro s r z hr hz
  injection hr with hr
  subst hr
  obtain ⟨n, p, x, rfl, hn, rfl⟩ := theOne_spec (show theOne _ = some z from hz)
  refine ⟨n + 1, fun k => ?_⟩
  refine Eq.trans (show _ = l29 (n + 1) (s29 n (ptsF p) x 0) k from rfl) ((rounds29 n p x k hn n 0 (by omega)).trans ?_)
  cases zI (idxFrom p x n 0) <;> rfl
theorem run_index (n : Nat) (F : Nat → List AV) (x : Int) : arun env29 Try.f29 [.slc 2 n F, .fn 30 [.ptr 0 0]] [.var [.int .i64 x]] =
    match g29 (s29 n F x 0) with
    | some (.inl _) => some (.int .i64 (-1), [.var [.int .i64 x]])
    | some (.inr r) => some (.int .i64 r, [.var [.int .i64 x]])
    | none => none := by kernel_rfl
noncomputable def idxG (n : Nat) (F : Nat → List AV) (x : Int) : Option Int := theOne fun r => ∃ p, F = ptsF p ∧ n ≤ 8 ∧ r = idxFrom p x n 0
theorem idxG_eq (n : Nat) (p : Nat → Int × Int) (x : Int) (hn : n ≤ 8) : idxG n (ptsF p) x = some (idxFrom p x n 0) := theOne_eq ⟨p, rfl, hn, rfl⟩ fun z ⟨p', h1, _, h3⟩ => by rw [h3, ptsF_inj h1]
noncomputable def idx? : List AV → List Blk → Option Ans
  | [.slc 2 n F, .fn 30 [.ptr 0 0]], [.var [.int .i64 x]] => some ⟨⟨Int, idxG n F x, fun r => .int .i64 r, fun _ => [.var [.int .i64 x]]⟩, fun _ => true, fun _ _ => ⟨rfl, fun b hb => by
      obtain rfl := List.mem_singleton.1 hb
      rfl⟩⟩
  | _, _ => none
attribute [local irreducible] arun in
theorem tells_idx : Tells Try.prog 29 idx? := by
  refine tells_run (E := env29) rfl Try.pok env29_ok Try.func29 (fun c hc => ?_) fun xs ins r x h hx => ?_
  · refine loops_of c fun c' hc' f hf => ?_
    have hb : loopsOf c = [b29] := by
      have : Try.f29.body.map loopsOf = some [b29] := by kernel_rfl
      rw [hc] at this
      injection this
    rw [hb] at hc'
    obtain rfl := List.mem_singleton.1 hc'
    have h6 : firstReg b29 = 2 := by kernel_rfl
    rw [h6] at hf
    injection hf with hf
    subst hf
    exact lt29
  · unfold idx? at h
    split at h
    · rename_i n F x0
      injection h with h
      subst h
      obtain ⟨p, rfl, hn, rfl⟩ := theOne_spec (show theOne _ = some x from hx)
      rw [run_index, g29_eq n p x0 hn]
      show _ = some (AV.int .i64 (idxFrom p x0 n 0), [Blk.var [.int .i64 x0]])
      unfold zI
      by_cases h4 : idxFrom p x0 n 0 = -1
      · rw [if_pos h4, h4]
      · rw [if_neg h4]
    · cases h

def exactly? : List AV → List Blk → Option Ans
  | [.int .i64 n], [] => some (retV (spanA (n, n)))
  | _, _ => none
theorem run_exactly (n : Int) : arun env0 Try.f31 [.int .i64 n] [] = some (spanA (n, n), []) := by kernel_rfl
attribute [local irreducible] arun in
theorem tells_exactly : Tells Try.prog 31 exactly? := by
  refine tells_run (E := env0) rfl Try.pok (fun f => Tells.none_ f) Try.func31 (fun c _ => envS_loops c) fun xs ins r x h _ => ?_
  unfold exactly? at h
  split at h
  · injection h with h
    subst h
    exact run_exactly _
  · cases h
noncomputable def env32 : Env := envS fun f => match f with | 31 => exactly? | _ => fun _ _ => none
theorem env32_ok : ∀ f, Tells Try.prog f (env32.fs f) := by
  intro f
  by_cases h1 : f = 31
  · subst h1; exact tells_exactly
  have : env32.fs f = fun _ _ => none := by
    unfold env32 envS
    dsimp only
    split
    · exact absurd rfl h1
    · rfl
  rw [this]
  exact Tells.none_ f
def lossV (a b : Int × Int) (x : Int) : Int := wr (wr (a.2 - b.2) * wr (x - a.1))
def wideV (a b : Int × Int) : Int := wr (b.1 - a.1)
def hiV (a b : Int × Int) (x : Int) : Int := wr (a.2 - wr ((lossV a b x).tdiv (wideV a b)))
def btwV (a b : Int × Int) (x : Int) : Int × Int := match decide ((lossV a b x).tmod (wideV a b) > 0) with
  | true => (wr (hiV a b x - 1), hiV a b x)
  | false => (hiV a b x, hiV a b x)
theorem run_between (a b : Int × Int) (x : Int) : arun env32 Try.f32 [.agg [.int .i64 a.1, .int .i64 a.2], .agg [.int .i64 b.1, .int .i64 b.2], .int .i64 x] [] =
    match wideV a b != 0 with
    | true => (match wideV a b != 0 with
      | true => (match decide ((lossV a b x).tmod (wideV a b) > 0) with
        | true => some (spanA (wr (hiV a b x - 1), hiV a b x), [])
        | false => some (spanA (hiV a b x, hiV a b x), []))
      | false => none)
    | false => none := by kernel_rfl
def btwG (a b : Int × Int) (x : Int) : Option (Int × Int) := match wideV a b != 0 with
  | true => some (btwV a b x)
  | false => none
def btw? : List AV → List Blk → Option Ans
  | [.agg [.int .i64 a1, .int .i64 a2], .agg [.int .i64 b1, .int .i64 b2], .int .i64 x], [] => some ⟨⟨Int × Int, btwG (a1, a2) (b1, b2) x, spanA, fun _ => []⟩, fun _ => true, fun _ _ => ⟨rfl, fun b hb => by cases hb⟩⟩
  | _, _ => none
attribute [local irreducible] arun in
theorem tells_btw : Tells Try.prog 32 btw? := by
  refine tells_run (E := env32) rfl Try.pok env32_ok Try.func32 (fun c _ => envS_loops c) fun xs ins r x h hx => ?_
  unfold btw? at h
  split at h
  · rename_i a1 a2 b1 b2 x0
    injection h with h
    subst h
    have hx : btwG (a1, a2) (b1, b2) x0 = some x := hx
    have hr := run_between (a1, a2) (b1, b2) x0
    unfold btwG at hx
    cases hw : (wideV (a1, a2) (b1, b2) != 0) with
    | false => rw [hw] at hx; cases hx
    | true =>
      rw [hw] at hx hr
      injection hx with hx
      subst hx
      refine hr.trans ?_
      show _ = some (spanA (btwV (a1, a2) (b1, b2) x0), [])
      unfold btwV
      cases decide ((lossV (a1, a2) (b1, b2) x0).tmod (wideV (a1, a2) (b1, b2)) > 0) <;> rfl
  · cases h
end Go.Proofs.Ytombbbbgkjapcaa.Ab
