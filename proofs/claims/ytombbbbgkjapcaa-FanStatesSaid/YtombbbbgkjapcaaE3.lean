/- Stage 7, the document's Check, by the plain evaluator. -/
import Derived.Test.YtombbbbgkjapcaaE2
namespace Go.Proofs.Ytombbbbgkjapcaa.Ab
open Go

noncomputable def b11 : Code := loopOf 6 Try.f11
def s11 (f : Fn7) (i : Int) : St := ⟨[(1, .ptr 0 0), (3, .int .i64 i)], [(0, .var (fanL f))], 1024⟩
def x11 (f : Fn7) (v : AV) : St := ⟨[(2, v)], [(0, .var (fanL f))], 1024⟩
def pt11 (f : Fn7) (i : Nat) : Int :=
  if (f.p i).1 < -1048576 then 1 else if (f.p i).1 > 1048576 then 1 else if (f.p i).2 < 0 then 1 else if (f.p i).2 > 2199023255552 then 1 else
  if i = 0 then 0 else if (f.p i).1 ≤ (f.p (i - 1)).1 then 14 else if (f.p i).2 > (f.p (i - 1)).2 then 14 else 0
noncomputable def g11 (s : St) : Option (Unit ⊕ Int) := theOne fun z => ∃ f : Fn7, s = s11 f 0 ∧ f.n ≤ 8 ∧ z = zOf (ckPts (pt11 f) f.n 0)
noncomputable def loop11 (s : St) : Option LRes := match s.hp with
  | [(0, .var cs)] => some ⟨Unit, Int, g11 s, .exit 0, fun _ => ⟨[(2, .undef)], [(0, .var cs)], 1024⟩, .ret, fun r => ⟨[(2, .int .i64 r)], [(0, .var cs)], 1024⟩⟩
  | _ => none
noncomputable def env11 : Env := { envS (fun _ _ _ => none) (fun r => match r with | 6 => some ([1, 3], [2]) | _ => none) with loops := fun r => match r with | 6 => some loop11 | _ => none }
noncomputable def e11 : Env := { env11 with nt := 74 }
noncomputable def l11 {R : Type} (N : Nat) (s : St) (K : AX → St → Option R) : Option R := aloop (fun s j => aexec e11 b11 s j) (headOf e11 b11 1024) (exitOf e11 b11 1024) N s K
theorem round11 {R : Type} (f : Fn7) (N : Nat) (i : Int) (K : AX → St → Option R) :
    l11 (N + 1) (s11 f i) K =
    match decide (i < f.n) with
    | true => (match decide (0 ≤ i ∧ i < f.n) with
      | true => (match decide ((f.p i.toNat).1 < -1048576) with
        | true => K .ret (x11 f (.int .i64 1))
        | false => match decide ((f.p i.toNat).1 > 1048576) with
          | true => K .ret (x11 f (.int .i64 1))
          | false => match decide ((f.p i.toNat).2 < 0) with
            | true => K .ret (x11 f (.int .i64 1))
            | false => match decide ((f.p i.toNat).2 > 2199023255552) with
              | true => K .ret (x11 f (.int .i64 1))
              | false => match decide (i > 0) with
                | true => (match decide (0 ≤ IntKind.i64.wrap (i - 1) ∧ IntKind.i64.wrap (i - 1) < f.n) with
                  | true => (match decide ((f.p i.toNat).1 ≤ (f.p (IntKind.i64.wrap (i - 1)).toNat).1) with
                    | true => K .ret (x11 f (.int .i64 14))
                    | false => match decide (0 ≤ IntKind.i64.wrap (i - 1) ∧ IntKind.i64.wrap (i - 1) < f.n) with
                      | true => (match decide ((f.p i.toNat).2 > (f.p (IntKind.i64.wrap (i - 1)).toNat).2) with
                        | true => K .ret (x11 f (.int .i64 14))
                        | false => l11 N (s11 f (IntKind.i64.wrap (i + 1))) K)
                      | false => none)
                  | false => none)
                | false => l11 N (s11 f (IntKind.i64.wrap (i + 1))) K)
      | false => none)
    | false => K (.exit 0) (x11 f .undef) := by kernel_rfl
theorem rounds11 {R : Type} (f : Fn7) (K : AX → St → Option R) (hn : f.n ≤ 8) : ∀ (k i : Nat), i + k = f.n →
    l11 (k + 1) (s11 f i) K = match zOf (ckPts (pt11 f) k i) with | .inl _ => K (.exit 0) (x11 f .undef) | .inr r => K .ret (x11 f (.int .i64 r)) := by
  intro k
  induction k with
  | zero =>
    intro i hi
    rw [round11]
    refine (kf (decide_eq_false (by omega)) rfl).trans ?_
    rfl
  | succ k ih =>
    intro i hi
    rw [round11]
    refine (kt (decide_eq_true (by omega)) (kt (decide_eq_true ⟨by omega, by omega⟩) rfl)).trans ?_
    have hnext : l11 (k + 1) (s11 f (IntKind.i64.wrap ((i : Int) + 1))) K = match zOf (ckPts (pt11 f) k (i + 1)) with | .inl _ => K (.exit 0) (x11 f .undef) | .inr r => K .ret (x11 f (.int .i64 r)) := by
      rw [wrap_small (by omega) (by omega)]
      exact ih (i + 1) (by omega)
    rw [hnext]
    have e0 : ((i : Int)).toNat = i := rfl
    rw [e0]
    have hck : ckPts (pt11 f) (k + 1) i = if pt11 f i = 0 then ckPts (pt11 f) k (i + 1) else pt11 f i := rfl
    rw [hck]
    by_cases h1 : (f.p i).1 < -1048576
    · have : pt11 f i = 1 := by unfold pt11; rw [if_pos h1]
      rw [this]; exact kt (decide_eq_true h1) rfl
    refine kf (decide_eq_false h1) ?_
    by_cases h2 : (f.p i).1 > 1048576
    · have : pt11 f i = 1 := by unfold pt11; rw [if_neg h1, if_pos h2]
      rw [this]; exact kt (decide_eq_true h2) rfl
    refine kf (decide_eq_false h2) ?_
    by_cases h3 : (f.p i).2 < 0
    · have : pt11 f i = 1 := by unfold pt11; rw [if_neg h1, if_neg h2, if_pos h3]
      rw [this]; exact kt (decide_eq_true h3) rfl
    refine kf (decide_eq_false h3) ?_
    by_cases h4 : (f.p i).2 > 2199023255552
    · have : pt11 f i = 1 := by unfold pt11; rw [if_neg h1, if_neg h2, if_neg h3, if_pos h4]
      rw [this]; exact kt (decide_eq_true h4) rfl
    refine kf (decide_eq_false h4) ?_
    have hpt : pt11 f i = if i = 0 then 0 else if (f.p i).1 ≤ (f.p (i - 1)).1 then 14 else if (f.p i).2 > (f.p (i - 1)).2 then 14 else 0 := by
      unfold pt11; rw [if_neg h1, if_neg h2, if_neg h3, if_neg h4]
    by_cases hi0 : i = 0
    · have : pt11 f i = 0 := by rw [hpt, if_pos hi0]
      rw [this]
      exact kf (decide_eq_false (by omega)) rfl
    rw [if_neg hi0] at hpt
    have ew : IntKind.i64.wrap ((i : Int) - 1) = ((i - 1 : Nat) : Int) := by rw [wrap_small (by omega) (by omega)]; omega
    rw [ew]
    have e1 : (((i - 1 : Nat) : Int)).toNat = i - 1 := rfl
    rw [e1]
    refine kt (decide_eq_true (by omega)) (kt (decide_eq_true ⟨by omega, by omega⟩) ?_)
    by_cases h5 : (f.p i).1 ≤ (f.p (i - 1)).1
    · have : pt11 f i = 14 := by rw [hpt, if_pos h5]
      rw [this]; exact kt (decide_eq_true h5) rfl
    rw [if_neg h5] at hpt
    refine kf (decide_eq_false h5) (kt (decide_eq_true ⟨by omega, by omega⟩) ?_)
    by_cases h6 : (f.p i).2 > (f.p (i - 1)).2
    · have : pt11 f i = 14 := by rw [hpt, if_pos h6]
      rw [this]; exact kt (decide_eq_true h6) rfl
    have : pt11 f i = 0 := by rw [hpt, if_neg h6]
    rw [this]
    exact kf (decide_eq_false h6) rfl
theorem s11_inj {f f' : Fn7} {i i' : Int} (h : s11 f i = s11 f' i') : f = f' := by
  simp only [s11, St.mk.injEq, List.cons.injEq, Prod.mk.injEq, Blk.var.injEq, true_and, and_true] at h
  exact fanL_inj h.2
theorem g11_eq (f : Fn7) (hn : f.n ≤ 8) : g11 (s11 f 0) = some (zOf (ckPts (pt11 f) f.n 0)) :=
  theOne_eq ⟨f, rfl, hn, rfl⟩ fun z ⟨f', h1, _, h3⟩ => by rw [h3, ← s11_inj h1]
theorem lt11 : LoopTells e11 b11 loop11 := by
  intro s r z hr hz
  unfold loop11 at hr
  split at hr
  · rename_i cs hs
    injection hr with hr
    subst hr
    obtain ⟨f, rfl, hn, rfl⟩ := theOne_spec (show theOne _ = some z from hz)
    refine ⟨f.n + 1, fun k => ?_⟩
    have := rounds11 f k hn f.n 0 (by omega)
    refine Eq.trans (show _ = l11 (f.n + 1) (s11 f 0) k from rfl) (this.trans ?_)
    have hcs : [Blk.var (fanL f)] = [Blk.var cs] := by
      have h : [(0, Blk.var (fanL f))] = [(0, Blk.var cs)] := hs
      simpa using h
    obtain rfl : fanL f = cs := by simpa using hcs
    cases zOf (ckPts (pt11 f) f.n 0) <;> rfl
  · cases hr
theorem run_rcheck (f : Fn7) : arun env11 Try.f11 [.agg (fanL f)] [] =
    match decide (f.road < 0) with
    | true => some (.int .i64 4, [])
    | false => match decide ((f.n : Int) < 1) with
      | true => some (.int .i64 2, [])
      | false => match decide ((f.n : Int) > 8) with
        | true => some (.int .i64 2, [])
        | false => match g11 (s11 f 0) with
          | some (.inl _) => some (.int .i64 0, [])
          | some (.inr r) => some (.int .i64 r, [])
          | none => none := by kernel_rfl
theorem rcheck_eq (f : Fn7) : arun env11 Try.f11 [.agg (fanL f)] [] = some (.int .i64 (ckFan (pt11 f) f), []) := by
  rw [run_rcheck]
  unfold ckFan
  by_cases h1 : f.road < 0
  · rw [if_pos h1]; exact kt (decide_eq_true h1) rfl
  · rw [if_neg h1]
    refine kf (decide_eq_false h1) ?_
    by_cases h2 : f.n = 0
    · rw [if_pos (.inl h2)]; exact kt (decide_eq_true (by omega)) rfl
    · refine kf (decide_eq_false (by omega)) ?_
      by_cases h3 : 8 < f.n
      · rw [if_pos (.inr h3)]; exact kt (decide_eq_true (by omega)) rfl
      · rw [if_neg (by omega)]
        refine kf (decide_eq_false (by omega)) ?_
        rw [g11_eq f (by omega)]
        unfold zOf
        by_cases h4 : ckPts (pt11 f) f.n 0 = 0
        · rw [if_pos h4, h4]
        · rw [if_neg h4]
theorem tells_rcheck : Tells Try.prog 11 (ofFan fun f => ckFan (pt11 f) f) := by
  refine ofFan_tells (E := env11) rfl (fun f => Tells.none_ f) Try.func11 (fun c hc => ?_) rcheck_eq
  refine loops_of c fun c' hc' f hf => ?_
  have hb : loopsOf c = [b11] := by
    have : Try.f11.body.map loopsOf = some [b11] := by kernel_rfl
    rw [hc] at this
    injection this
  rw [hb] at hc'
  obtain rfl := List.mem_singleton.1 hc'
  have h6 : firstReg b11 = 6 := by kernel_rfl
  rw [h6] at hf
  injection hf with hf
  subst hf
  exact lt11
theorem pt_eq (f : Fn7) (i : Nat) : pt10 f i = pt11 f i := by
  unfold pt10 pt11 inB fallsB
  generalize (f.p i).1 = x, (f.p i).2 = y, (f.p (i - 1)).1 = px, (f.p (i - 1)).2 = py
  by_cases h1 : -1048576 ≤ x ∧ x ≤ 1048576
  · rw [if_neg (by omega), if_neg (by omega), decide_eq_true h1]
    by_cases h2 : 0 ≤ y ∧ y ≤ 2199023255552
    · rw [if_neg (by omega), if_neg (by omega), decide_eq_true h2]
      by_cases h3 : i = 0
      · rw [if_pos h3, decide_eq_true h3]; rfl
      · rw [if_neg h3, decide_eq_false h3]
        by_cases h4 : px < x
        · rw [if_neg (by omega), decide_eq_true h4]
          by_cases h5 : py ≥ y
          · rw [if_neg (by omega), decide_eq_true h5]; rfl
          · rw [if_pos (by omega), decide_eq_false h5]; rfl
        · rw [if_pos (by omega), decide_eq_false h4]; rfl
    · rw [decide_eq_false h2]
      by_cases h3 : y < 0
      · rw [if_pos h3]; rfl
      · rw [if_neg h3, if_pos (by omega)]; rfl
  · rw [decide_eq_false h1]
    by_cases h3 : x < -1048576
    · rw [if_pos h3]; rfl
    · rw [if_neg h3, if_pos (by omega)]; rfl
theorem check_same (f : Fn7) : ckFan (pt10 f) f = ckFan (pt11 f) f := by
  have : pt10 f = pt11 f := funext (pt_eq f)
  rw [this]
end Go.Proofs.Ytombbbbgkjapcaa.Ab
