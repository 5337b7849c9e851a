/- Stage 7, the document's pressure and states, by the plain evaluator: they are the program's. -/
import Derived.Test.YtombbbbgkjapcaaEp
namespace Go.Proofs.Ytombbbbgkjapcaa.Ab
open Go

/-! ### Rounded quotients -/
def floorV (a b : Int) : Int := match decide (a.tmod b < 0) with
  | true => wr (wr (a.tdiv b) - 1)
  | false => wr (a.tdiv b)
def floorG (a b : Int) : Option Int := match b != 0 with
  | true => some (floorV a b)
  | false => none
theorem run_floor (a b : Int) : arun env0 Try.f33 [.int .i64 a, .int .i64 b] [] =
    match b != 0 with
    | true => (match b != 0 with
      | true => (match decide (a.tmod b < 0) with
        | true => some (.int .i64 (wr (wr (a.tdiv b) - 1)), [])
        | false => some (.int .i64 (wr (a.tdiv b)), []))
      | false => none)
    | false => none := by kernel_rfl
def intAns (g : Option Int) : Ans := ⟨⟨Int, g, fun r => .int .i64 r, fun _ => []⟩, fun _ => true, fun _ _ => ⟨rfl, fun b hb => by cases hb⟩⟩
def floor? : List AV → List Blk → Option Ans
  | [.int .i64 a, .int .i64 b], [] => some (intAns (floorG a b))
  | _, _ => none
attribute [local irreducible] arun in
theorem tells_floor : Tells Try.prog 33 floor? := by
  refine tells_run (E := env0) rfl Try.pok (fun f => Tells.none_ f) Try.func33 (fun c _ => envS_loops c) fun xs ins r x h hx => ?_
  unfold floor? at h
  split at h
  · rename_i a b
    injection h with h
    subst h
    have hx : floorG a b = some x := hx
    have hr := run_floor a b
    unfold floorG at hx
    cases hw : (b != 0) with
    | false => rw [hw] at hx; cases hx
    | true =>
      rw [hw] at hx hr
      injection hx with hx
      subst hx
      refine hr.trans ?_
      show _ = some (AV.int .i64 (floorV a b), [])
      unfold floorV
      cases decide (a.tmod b < 0) <;> rfl
  · cases h
noncomputable def envF : Env := envS fun f => match f with | 33 => floor? | _ => fun _ _ => none
theorem envF_ok : ∀ f, Tells Try.prog f (envF.fs f) := by
  intro f
  by_cases h1 : f = 33
  · subst h1; exact tells_floor
  have : envF.fs f = fun _ _ => none := by
    unfold envF envS
    dsimp only
    split
    · exact absurd rfl h1
    · rfl
  rw [this]
  exact Tells.none_ f
def ceilG (a b : Int) : Option Int := match floorG (wr (0 - a)) b with
  | some q => some (wr (0 - q))
  | none => none
theorem run_ceil (a b : Int) : arun envF Try.f34 [.int .i64 a, .int .i64 b] [] =
    match floorG (wr (0 - a)) b with
    | some q => some (.int .i64 (wr (0 - q)), [])
    | none => none := by kernel_rfl
def ceil? : List AV → List Blk → Option Ans
  | [.int .i64 a, .int .i64 b], [] => some (intAns (ceilG a b))
  | _, _ => none
attribute [local irreducible] arun in
theorem tells_ceil : Tells Try.prog 34 ceil? := by
  refine tells_run (E := envF) rfl Try.pok envF_ok Try.func34 (fun c _ => envS_loops c) fun xs ins r x h hx => ?_
  unfold ceil? at h
  split at h
  · rename_i a b
    injection h with h
    subst h
    have hx : ceilG a b = some x := hx
    have hr := run_ceil a b
    unfold ceilG at hx
    cases hw : floorG (wr (0 - a)) b with
    | none => rw [hw] at hx; cases hx
    | some q =>
      rw [hw] at hx hr
      injection hx with hx
      subst hx
      exact hr
  · cases h

/-! ### Inner -/
noncomputable def b25 : Code := loopOf 7 Try.f25
def s25 (f : Fn7) (x k : Int) : St := ⟨[(1, .int .i64 x), (2, .ptr 0 0), (4, .ptr 64 0), (6, .int .i64 k)], [(0, .var (fanL f)), (64, .var [.int .i64 0, .int .i64 0])], 1472⟩
/-- The last point up to a flow. -/
def goK (p : Nat → Int × Int) (x : Int) : Nat → Nat → Nat
  | 0, k => k
  | m + 1, k => if (p (k + 1)).1 ≤ x then goK p x m (k + 1) else k
noncomputable def g25 (s : St) : Option (Int ⊕ Int) := theOne fun z => ∃ f x, s = s25 f x 0 ∧ OkP f.p f.n ∧ (f.p 0).1 ≤ x ∧ x < (f.p (f.n - 1)).1 ∧ z = .inl (goK f.p x (f.n - 1) 0 : Int)
noncomputable def loop25 (s : St) : Option LRes := match s.tm with
  | [(1, .int .i64 x), _, _, _] => some ⟨Int, Int, g25 s, .exit 0, fun k => ⟨[(1, .int .i64 x), (2, .ptr 0 0), (4, .ptr 64 0), (6, .int .i64 k)], s.hp, 1472⟩, .exit 0, fun k => ⟨[(1, .int .i64 x), (2, .ptr 0 0), (4, .ptr 64 0), (6, .int .i64 k)], s.hp, 1472⟩⟩
  | _ => none
noncomputable def env25 : Env := { envS (fun f => match f with | 33 => floor? | 34 => ceil? | _ => fun _ _ => none) (fun r => match r with | 7 => some ([1, 2, 4, 6], [1, 2, 4, 6]) | _ => none) with loops := fun r => match r with | 7 => some loop25 | _ => none }
theorem env25_ok : ∀ f, Tells Try.prog f (env25.fs f) := by
  intro f
  by_cases h1 : f = 33
  · subst h1; exact tells_floor
  by_cases h2 : f = 34
  · subst h2; exact tells_ceil
  have : env25.fs f = fun _ _ => none := by
    unfold env25 envS
    dsimp only
    split
    · exact absurd rfl h1
    · exact absurd rfl h2
    · rfl
  rw [this]
  exact Tells.none_ f
noncomputable def e25 : Env := { env25 with nt := 106 }
noncomputable def l25 {R : Type} (N : Nat) (s : St) (K : AX → St → Option R) : Option R := aloop (fun s j => aexec e25 b25 s j) (headOf e25 b25 1472) (exitOf e25 b25 1472) N s K
theorem round25 {R : Type} (f : Fn7) (x k : Int) (N : Nat) (K : AX → St → Option R) :
    l25 (N + 1) (s25 f x k) K =
    match decide (0 ≤ wr (k + 1) ∧ wr (k + 1) < f.n) with
    | true => (match decide ((f.p (wr (k + 1)).toNat).1 ≤ x) with
      | true => l25 N (s25 f x (wr (k + 1))) K
      | false => K (.exit 0) (s25 f x k))
    | false => none := by kernel_rfl
theorem rounds25 {R : Type} (f : Fn7) (x : Int) (K : AX → St → Option R) (hn : f.n ≤ 8) (hx : x < (f.p (f.n - 1)).1) : ∀ (m k : Nat), k + m + 1 = f.n → (f.p k).1 ≤ x →
    l25 (m + 1) (s25 f x k) K = K (.exit 0) (s25 f x (goK f.p x m k : Int)) := by
  intro m
  induction m with
  | zero =>
    intro k hk h
    rw [show f.n - 1 = k by omega] at hx
    omega
  | succ m ih =>
    intro k hk h
    rw [round25]
    have e : wr ((k : Int) + 1) = ((k + 1 : Nat) : Int) := by rw [wr_small (by omega) (by omega)]; omega
    rw [e]
    have e2 : (((k + 1 : Nat) : Int)).toNat = k + 1 := rfl
    rw [e2]
    refine kt (decide_eq_true ⟨by omega, by omega⟩) ?_
    have hg : goK f.p x (m + 1) k = if (f.p (k + 1)).1 ≤ x then goK f.p x m (k + 1) else k := rfl
    rw [hg]
    by_cases hc : (f.p (k + 1)).1 ≤ x
    · rw [if_pos hc]
      exact kt (decide_eq_true hc) (ih (k + 1) (by omega) hc)
    · rw [if_neg hc]
      exact kf (decide_eq_false hc) rfl
theorem goK_in (p : Nat → Int × Int) (x : Int) (n : Nat) (hx : x < (p (n - 1)).1) : ∀ (m k : Nat), k + m + 1 = n → (p k).1 ≤ x → goK p x m k + 1 < n ∧ (p (goK p x m k)).1 ≤ x ∧ x < (p (goK p x m k + 1)).1 := by
  intro m
  induction m with
  | zero =>
    intro k hk h
    rw [show n - 1 = k by omega] at hx
    omega
  | succ m ih =>
    intro k hk h
    unfold goK
    split
    · rename_i hc; exact ih (k + 1) (by omega) hc
    · exact ⟨by omega, h, by omega⟩
theorem g25_eq (f : Fn7) (x : Int) (ok : OkP f.p f.n) (h0 : (f.p 0).1 ≤ x) (h1 : x < (f.p (f.n - 1)).1) : g25 (s25 f x 0) = some (.inl (goK f.p x (f.n - 1) 0 : Int)) :=
  theOne_eq ⟨f, x, rfl, ok, h0, h1, rfl⟩ fun z ⟨f', x', h1, _, _, _, h3⟩ => by
    simp only [s25, St.mk.injEq, List.cons.injEq, Prod.mk.injEq, Blk.var.injEq, AV.int.injEq, true_and, and_true] at h1
    obtain ⟨rfl, h5⟩ := h1
    rw [h3, fanL_inj h5]
theorem lt25 : LoopTells e25 b25 loop25 := by
  intro s r z hr hz
  unfold loop25 at hr
  split at hr
  · rename_i x _ _ _ htm
    injection hr with hr
    subst hr
    obtain ⟨f, x', rfl, ok, h0, h1, rfl⟩ := theOne_spec (show theOne _ = some z from hz)
    refine ⟨f.n - 1 + 1, fun k => ?_⟩
    refine Eq.trans (show _ = l25 (f.n - 1 + 1) (s25 f x' 0) k from rfl) ((rounds25 f x' k ok.hi h1 (f.n - 1) 0 (by have := ok.lo; omega) h0).trans ?_)
    simp only [s25, List.cons.injEq, Prod.mk.injEq, AV.int.injEq, true_and] at htm
    rw [htm.1]
    rfl
  · cases hr
def segUp (a b : Int × Int) (x : Int) : Int := wr (wr (b.2 - a.2) * wr (x - a.1))
theorem run_inner (f : Fn7) (x : Int) : arun env25 Try.f25 [.agg (fanL f), .int .i64 x] [] =
    match decide ((0 : Int) ≤ 0 ∧ (0 : Int) < f.n) with
    | true => (match decide (x ≤ (f.p 0).1) with
      | true => (match decide ((0 : Int) ≤ 0 ∧ (0 : Int) < f.n) with
        | true => (match decide ((0 : Int) ≤ 0 ∧ (0 : Int) < f.n) with
          | true => some (spanA ((f.p 0).2, (f.p 0).2), [])
          | false => none)
        | false => none)
      | false => match decide (0 ≤ wr ((f.n : Int) - 1) ∧ wr ((f.n : Int) - 1) < f.n) with
        | true => (match decide (x ≥ (f.p (wr ((f.n : Int) - 1)).toNat).1) with
          | true => (match decide (0 ≤ wr ((f.n : Int) - 1) ∧ wr ((f.n : Int) - 1) < f.n) with
            | true => (match decide (0 ≤ wr ((f.n : Int) - 1) ∧ wr ((f.n : Int) - 1) < f.n) with
              | true => some (spanA ((f.p (wr ((f.n : Int) - 1)).toNat).2, (f.p (wr ((f.n : Int) - 1)).toNat).2), [])
              | false => none)
            | false => none)
          | false => match g25 (s25 f x 0) with
            | some (.inl k) => (match decide (0 ≤ k ∧ k < f.n) with
              | true => (match decide (0 ≤ wr (k + 1) ∧ wr (k + 1) < f.n) with
                | true => (match floorG (segUp (f.p k.toNat) (f.p (wr (k + 1)).toNat) x) (wideV (f.p k.toNat) (f.p (wr (k + 1)).toNat)) with
                  | some lo => (match ceilG (segUp (f.p k.toNat) (f.p (wr (k + 1)).toNat) x) (wideV (f.p k.toNat) (f.p (wr (k + 1)).toNat)) with
                    | some hi => some (spanA (wr ((f.p k.toNat).2 + lo), wr ((f.p k.toNat).2 + hi)), [])
                    | none => none)
                  | none => none)
                | false => none)
              | false => none)
            | some (.inr k) => (match decide (0 ≤ k ∧ k < f.n) with
              | true => (match decide (0 ≤ wr (k + 1) ∧ wr (k + 1) < f.n) with
                | true => (match floorG (segUp (f.p k.toNat) (f.p (wr (k + 1)).toNat) x) (wideV (f.p k.toNat) (f.p (wr (k + 1)).toNat)) with
                  | some lo => (match ceilG (segUp (f.p k.toNat) (f.p (wr (k + 1)).toNat) x) (wideV (f.p k.toNat) (f.p (wr (k + 1)).toNat)) with
                    | some hi => some (spanA (wr ((f.p k.toNat).2 + lo), wr ((f.p k.toNat).2 + hi)), [])
                    | none => none)
                  | none => none)
                | false => none)
              | false => none)
            | none => none)
        | false => none)
    | false => none := by kernel_rfl
end Go.Proofs.Ytombbbbgkjapcaa.Ab
