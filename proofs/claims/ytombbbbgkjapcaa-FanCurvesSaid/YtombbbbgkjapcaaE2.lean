/- Stage 7, the program's falls and Check, by the plain evaluator. -/
import Derived.Test.YtombbbbgkjapcaaE1
namespace Go.Proofs.Ytombbbbgkjapcaa.Ab
open Go

theorem kt {α : Type} {b : Bool} {x y z : α} : b = true → x = z → (match b with | true => x | false => y) = z := fun h hx => by subst h; exact hx
theorem kf {α : Type} {b : Bool} {x y z : α} : b = false → y = z → (match b with | true => x | false => y) = z := fun h hx => by subst h; exact hx

/-- A fan: its points as a function of their places. -/
structure Fn7 where
  road : Int
  back : Bool
  aux : Bool
  n : Nat
  p : Nat → Int × Int
def ptsF (p : Nat → Int × Int) (k : Nat) : List AV := [.int .i64 (p k).1, .int .i64 (p k).2]
def fanL (f : Fn7) : List AV := [.int .i64 f.road, .bool f.back, .bool f.aux, .slc 2 f.n (ptsF f.p)]
def fallsB (a b : Int × Int) : Bool := match decide (a.1 < b.1) with | true => decide (a.2 ≥ b.2) | false => false
def falls? : List AV → List Blk → Option Ans
  | [.agg [.int .i64 a, .int .i64 b], .agg [.int .i64 c, .int .i64 d]], [] => some (retV (.bool (fallsB (a, b) (c, d))))
  | _, _ => none
theorem run_falls (a b c d : Int) : arun (envS fun _ _ _ => none) Try.f23 [.agg [.int .i64 a, .int .i64 b], .agg [.int .i64 c, .int .i64 d]] [] =
    match decide (a < c) with | true => some (.bool (decide (b ≥ d)), []) | false => some (.bool false, []) := by kernel_rfl
theorem tells_falls : Tells Try.prog 23 falls? := by
  refine tells_run (E := envS fun _ _ _ => none) rfl Try.pok (fun f => Tells.none_ f) Try.func23 (fun c _ => envS_loops c) fun xs ins r x h _ => ?_
  unfold falls? at h
  split at h
  · rename_i a b c d
    injection h with h
    subst h
    rw [run_falls]
    by_cases q : a < c
    · simp [retV, fallsB, q]
    · simp [retV, fallsB, q]
  · cases h

def inB (lo hi x : Int) : Bool := decide (lo ≤ x ∧ x ≤ hi)
/-- The state at the loop's head. -/
def s10 (f : Fn7) (i : Int) : St := ⟨[(1, .ptr 0 0), (21, .slc 2 f.n (ptsF f.p)), (22, .int .i64 f.n), (23, .int .i64 i)], [(0, .var (fanL f))], 1344⟩
def x10 (f : Fn7) (v : AV) : St := ⟨[(2, v)], [(0, .var (fanL f))], 1344⟩
/-- What is said of the point i (0: nothing). -/
def pt10 (f : Fn7) (i : Nat) : Int := match inB (-1048576) 1048576 (f.p i).1 && inB 0 2199023255552 (f.p i).2 with
  | false => 1
  | true => match decide (i = 0) || fallsB (f.p (i - 1)) (f.p i) with
    | false => 14
    | true => 0
/-- What is said of k points from i on. -/
def ckPts (pt : Nat → Int) : Nat → Nat → Int
  | 0, _ => 0
  | k + 1, i => if pt i = 0 then ckPts pt k (i + 1) else pt i
def zOf (r : Int) : Unit ⊕ Int := if r = 0 then .inl () else .inr r
noncomputable def g10 (s : St) : Option (Unit ⊕ Int) := theOne fun z => ∃ f : Fn7, s = s10 f 0 ∧ f.n ≤ 8 ∧ z = zOf (ckPts (pt10 f) f.n 0)
noncomputable def loop10 (s : St) : Option LRes := match s.hp with
  | [(0, .var cs)] => some ⟨Unit, Int, g10 s, .exit 1, fun _ => ⟨[(2, .undef)], [(0, .var cs)], 1344⟩, .ret, fun r => ⟨[(2, .int .i64 r)], [(0, .var cs)], 1344⟩⟩
  | _ => none
noncomputable def env10 : Env := { envS (fun f => match f with | 22 => within? | 23 => falls? | _ => fun _ _ => none) (fun r => match r with | 6 => some ([1, 21, 22, 23], [2]) | _ => none) with loops := fun r => match r with | 6 => some loop10 | _ => none }
noncomputable def e10 : Env := { env10 with nt := 52 }
noncomputable def b10 : Code := loopOf 6 Try.f10
theorem env10_ok : ∀ f, Tells Try.prog f (env10.fs f) := by
  intro f
  by_cases h1 : f = 22
  · subst h1; exact tells_within
  by_cases h2 : f = 23
  · subst h2; exact tells_falls
  have : env10.fs f = fun _ _ => none := by
    show (match f with | 22 => within? | 23 => falls? | _ => fun _ _ => none) = _
    split
    · exact absurd rfl h1
    · exact absurd rfl h2
    · rfl
  rw [this]
  exact Tells.none_ f

noncomputable def l10 {R : Type} (N : Nat) (s : St) (K : AX → St → Option R) : Option R := aloop (fun s j => aexec e10 b10 s j) (headOf e10 b10 1344) (exitOf e10 b10 1344) N s K
theorem round10 {R : Type} (f : Fn7) (N : Nat) (i : Int) (K : AX → St → Option R) :
    l10 (N + 1) (s10 f i) K =
    match decide (i < f.n) with
    | true => (match decide (0 ≤ i ∧ i < f.n) with
      | true => (match !(inB (-1048576) 1048576 (f.p i.toNat).1) with
        | true => K .ret (x10 f (.int .i64 1))
        | false => match !(inB 0 2199023255552 (f.p i.toNat).2) with
          | true => K .ret (x10 f (.int .i64 1))
          | false => match decide (i > 0) with
            | true => (match decide (0 ≤ IntKind.i64.wrap (i - 1) ∧ IntKind.i64.wrap (i - 1) < f.n) with
              | true => (match !(fallsB (f.p (IntKind.i64.wrap (i - 1)).toNat) (f.p i.toNat)) with
                | true => K .ret (x10 f (.int .i64 14))
                | false => l10 N (s10 f (IntKind.i64.wrap (i + 1))) K)
              | false => none)
            | false => l10 N (s10 f (IntKind.i64.wrap (i + 1))) K)
      | false => none)
    | false => K (.exit 1) (x10 f .undef) := by kernel_rfl
theorem wrap_small {x : Int} (h0 : -100 ≤ x) (h1 : x ≤ 100) : IntKind.i64.wrap x = x := by rw [IntKind.wrap_i64]; omega
theorem rounds10 {R : Type} (f : Fn7) (K : AX → St → Option R) (hn : f.n ≤ 8) : ∀ (k i : Nat), i + k = f.n →
    l10 (k + 1) (s10 f i) K = match zOf (ckPts (pt10 f) k i) with | .inl _ => K (.exit 1) (x10 f .undef) | .inr r => K .ret (x10 f (.int .i64 r)) := by
  intro k
  induction k with
  | zero =>
    intro i hi
    rw [round10]
    refine (kf (decide_eq_false (by omega)) rfl).trans ?_
    rfl
  | succ k ih =>
    intro i hi
    rw [round10]
    refine (kt (decide_eq_true (by omega)) (kt (decide_eq_true ⟨by omega, by omega⟩) rfl)).trans ?_
    have hnext : l10 (k + 1) (s10 f (IntKind.i64.wrap ((i : Int) + 1))) K = match zOf (ckPts (pt10 f) k (i + 1)) with | .inl _ => K (.exit 1) (x10 f .undef) | .inr r => K .ret (x10 f (.int .i64 r)) := by
      rw [wrap_small (by omega) (by omega)]
      exact ih (i + 1) (by omega)
    rw [hnext]
    have e0 : ((i : Int)).toNat = i := rfl
    rw [e0]
    have hck : ckPts (pt10 f) (k + 1) i = if pt10 f i = 0 then ckPts (pt10 f) k (i + 1) else pt10 f i := rfl
    rw [hck]
    cases h1 : inB (-1048576) 1048576 (f.p i).1 with
    | false =>
      have : pt10 f i = 1 := by unfold pt10; rw [h1]; rfl
      rw [this]; rfl
    | true =>
      cases h2 : inB 0 2199023255552 (f.p i).2 with
      | false =>
        have : pt10 f i = 1 := by unfold pt10; rw [h1, h2]; rfl
        rw [this]; rfl
      | true =>
        have hpt : pt10 f i = match decide (i = 0) || fallsB (f.p (i - 1)) (f.p i) with | false => 14 | true => 0 := by unfold pt10; rw [h1, h2]; rfl
        by_cases hi0 : i = 0
        · have : pt10 f i = 0 := by rw [hpt, decide_eq_true hi0]; rfl
          rw [this]
          refine (kf (decide_eq_false (by omega)) rfl).trans ?_
          rfl
        · have ew : IntKind.i64.wrap ((i : Int) - 1) = ((i - 1 : Nat) : Int) := by rw [wrap_small (by omega) (by omega)]; omega
          rw [ew]
          refine (kt (decide_eq_true (by omega)) (kt (decide_eq_true ⟨by omega, by omega⟩) rfl)).trans ?_
          have e1 : (((i - 1 : Nat) : Int)).toNat = i - 1 := rfl
          rw [e1]
          cases h3 : fallsB (f.p (i - 1)) (f.p i) with
          | false =>
            have : pt10 f i = 14 := by rw [hpt, decide_eq_false hi0, h3]; rfl
            rw [this]; rfl
          | true =>
            have : pt10 f i = 0 := by rw [hpt, decide_eq_false hi0, h3]; rfl
            rw [this]; rfl
theorem s10_inj {f f' : Fn7} {i i' : Int} (h : s10 f i = s10 f' i') : f = f' := by
  obtain ⟨r, b, a, n, p⟩ := f
  obtain ⟨r', b', a', n', p'⟩ := f'
  simp only [s10, fanL, St.mk.injEq, List.cons.injEq, Prod.mk.injEq, AV.slc.injEq, Blk.var.injEq, AV.int.injEq, AV.bool.injEq, true_and, and_true] at h
  obtain ⟨_, h1, h2, h3, h4, h5⟩ := h
  have : p = p' := by
    funext k
    have := congrFun h5 k
    simp only [ptsF, List.cons.injEq, AV.int.injEq, true_and, and_true] at this
    exact Prod.ext this.1 this.2
  subst h1 h2 h3 h4 this
  rfl
theorem g10_eq (f : Fn7) (hn : f.n ≤ 8) : g10 (s10 f 0) = some (zOf (ckPts (pt10 f) f.n 0)) :=
  theOne_eq ⟨f, rfl, hn, rfl⟩ fun z ⟨f', h1, _, h3⟩ => by rw [h3, ← s10_inj h1]
theorem lt10 : LoopTells e10 b10 loop10 := by
  intro s r z hr hz
  unfold loop10 at hr
  split at hr
  · rename_i cs hs
    injection hr with hr
    subst hr
    obtain ⟨f, rfl, hn, rfl⟩ := theOne_spec (show theOne _ = some z from hz)
    refine ⟨f.n + 1, fun k => ?_⟩
    have := rounds10 f k hn f.n 0 (by omega)
    refine Eq.trans (show _ = l10 (f.n + 1) (s10 f 0) k from rfl) (this.trans ?_)
    have hcs : [Blk.var (fanL f)] = [Blk.var cs] := by
      have : s10 f 0 = s10 f 0 := rfl
      have h : [(0, Blk.var (fanL f))] = [(0, Blk.var cs)] := hs
      simpa using h
    obtain rfl : fanL f = cs := by simpa using hcs
    cases zOf (ckPts (pt10 f) f.n 0) <;> rfl
  · cases hr
theorem run_check (f : Fn7) : arun env10 Try.f10 [.agg (fanL f)] [] =
    match decide (f.road < 0) with
    | true => some (.int .i64 4, [])
    | false => match (f.n : Int) == 0 with
      | true => some (.int .i64 2, [])
      | false => match decide ((f.n : Int) > 8) with
        | true => some (.int .i64 2, [])
        | false => match g10 (s10 f 0) with
          | some (.inl _) => some (.int .i64 0, [])
          | some (.inr r) => some (.int .i64 r, [])
          | none => none := by kernel_rfl
def ckFan (pt : Nat → Int) (f : Fn7) : Int := if f.road < 0 then 4 else if f.n = 0 ∨ 8 < f.n then 2 else ckPts pt f.n 0
theorem check_eq (f : Fn7) : arun env10 Try.f10 [.agg (fanL f)] [] = some (.int .i64 (ckFan (pt10 f) f), []) := by
  rw [run_check]
  unfold ckFan
  by_cases h1 : f.road < 0
  · rw [if_pos h1]; exact kt (decide_eq_true h1) rfl
  · rw [if_neg h1]
    refine kf (decide_eq_false h1) ?_
    by_cases h2 : f.n = 0
    · rw [if_pos (.inl h2)]; exact kt (by simp [h2]) rfl
    · refine kf (by simp; omega) ?_
      by_cases h3 : 8 < f.n
      · rw [if_pos (.inr h3)]; exact kt (decide_eq_true (by omega)) rfl
      · rw [if_neg (by omega)]
        refine kf (decide_eq_false (by omega)) ?_
        rw [g10_eq f (by omega)]
        unfold zOf
        by_cases h4 : ckPts (pt10 f) f.n 0 = 0
        · rw [if_pos h4, h4]
        · rw [if_neg h4]
theorem fanL_inj {f f' : Fn7} (h : fanL f = fanL f') : f = f' := by
  have : s10 f 0 = s10 f' 0 := by
    obtain ⟨r, b, a, n, p⟩ := f
    obtain ⟨r', b', a', n', p'⟩ := f'
    simp only [fanL, List.cons.injEq, AV.slc.injEq, AV.int.injEq, AV.bool.injEq, true_and, and_true] at h
    obtain ⟨rfl, rfl, rfl, rfl, h5⟩ := h
    simp only [s10, fanL, h5]
  exact s10_inj this
/-- A number that is told of a fan. -/
noncomputable def ofFan (c : Fn7 → Int) : List AV → List Blk → Option Ans
  | [.agg cs], [] => some ⟨⟨Int, theOne fun r => ∃ f, cs = fanL f ∧ r = c f, fun r => .int .i64 r, fun _ => []⟩, fun _ => true, fun _ _ => ⟨rfl, fun b hb => by cases hb⟩⟩
  | _, _ => none
theorem ofFan_tells {c : Fn7 → Int} {E : Env} (hE : E.tt = ttOf Try.prog) (hfs : ∀ f, Tells Try.prog f (E.fs f)) {n : FuncId} {fn : Func} (hf : Try.prog.funcs[n]? = some fn) (hl : ∀ c, fn.body = some c → LoopsOK { E with nt := fn.ntmps } c)
    (h : ∀ f, arun E fn [.agg (fanL f)] [] = some (.int .i64 (c f), [])) : Tells Try.prog n (ofFan c) := by
  refine tells_run hE Try.pok hfs hf hl fun xs ins r x hr hx => ?_
  unfold ofFan at hr
  split at hr
  · injection hr with hr
    subst hr
    obtain ⟨f, rfl, rfl⟩ := theOne_spec (show theOne _ = some x from hx)
    exact h f
  · cases hr
theorem tells_check : Tells Try.prog 10 (ofFan fun f => ckFan (pt10 f) f) := by
  refine ofFan_tells (E := env10) rfl env10_ok Try.func10 (fun c hc => ?_) check_eq
  refine loops_of c fun c' hc' f hf => ?_
  have hb : loopsOf c = [b10] := by
    have : Try.f10.body.map loopsOf = some [b10] := by kernel_rfl
    rw [hc] at this
    injection this
  rw [hb] at hc'
  obtain rfl := List.mem_singleton.1 hc'
  have h6 : firstReg b10 = 6 := by kernel_rfl
  rw [h6] at hf
  injection hf with hf
  subst hf
  exact lt10
end Go.Proofs.Ytombbbbgkjapcaa.Ab
