/- Stage 7, the program's pressure, blowing, At and Curve, by the plain evaluator. -/
import Derived.Test.YtombbbbgkjapcaaE8
namespace Go.Proofs.Ytombbbbgkjapcaa.Ab
open Go

/-- A right curve. -/
structure OkP (p : Nat → Int × Int) (n : Nat) : Prop where
  lo : 1 ≤ n
  hi : n ≤ 8
  rg : ∀ i, i < n → -1048576 ≤ (p i).1 ∧ (p i).1 ≤ 1048576 ∧ 0 ≤ (p i).2 ∧ (p i).2 ≤ 2199023255552
  dn : ∀ i, 0 < i → i < n → (p (i - 1)).1 < (p i).1 ∧ (p i).2 ≤ (p (i - 1)).2
theorem ckPts_zero {pt : Nat → Int} : ∀ (k i : Nat), ckPts pt k i = 0 → ∀ j, i ≤ j → j < i + k → pt j = 0 := by
  intro k
  induction k with
  | zero => intro i _ j h1 h2; omega
  | succ k ih =>
    intro i h j h1 h2
    unfold ckPts at h
    split at h
    · rename_i h0
      by_cases hj : j = i
      · rw [hj]; exact h0
      · exact ih (i + 1) h j (by omega) (by omega)
    · exact absurd h (by assumption)
noncomputable def ck1 (f : Fn7) : Int := ckFan (pt10 f) f
noncomputable def ck2 (f : Fn7) : Int := ckFan (pt11 f) f
theorem ck_same (f : Fn7) : ck1 f = ck2 f := check_same f
theorem ok_of {f : Fn7} (h : ck1 f = 0) : OkP f.p f.n ∧ 0 ≤ f.road := by
  rw [ck_same] at h
  unfold ck2 ckFan at h
  split at h
  · cases h
  · split at h
    · cases h
    · rename_i h1 h2
      have hz : ∀ i, i < f.n → pt11 f i = 0 := fun i hi => ckPts_zero f.n 0 h i (Nat.zero_le _) (by omega)
      have hp : ∀ i, i < f.n → (-1048576 ≤ (f.p i).1 ∧ (f.p i).1 ≤ 1048576 ∧ 0 ≤ (f.p i).2 ∧ (f.p i).2 ≤ 2199023255552) ∧ (0 < i → (f.p (i - 1)).1 < (f.p i).1 ∧ (f.p i).2 ≤ (f.p (i - 1)).2) := by
        intro i hi
        have := hz i hi
        unfold pt11 at this
        split at this
        · cases this
        split at this
        · cases this
        split at this
        · cases this
        split at this
        · cases this
        refine ⟨by omega, fun h0 => ?_⟩
        rw [if_neg (by omega)] at this
        split at this
        · cases this
        split at this
        · cases this
        omega
      exact ⟨⟨by omega, by omega, fun i hi => (hp i hi).1, fun i h0 hi => (hp i hi).2 h0⟩, by omega⟩

/-! ### The pressure -/
noncomputable def env24 : Env := envS fun f => match f with
  | 29 => idx?
  | 31 => exactly?
  | 32 => btw?
  | _ => fun _ _ => none
theorem env24_ok : ∀ f, Tells Try.prog f (env24.fs f) := by
  intro f
  by_cases h1 : f = 29
  · subst h1; exact tells_idx
  by_cases h2 : f = 31
  · subst h2; exact tells_exactly
  by_cases h3 : f = 32
  · subst h3; exact tells_btw
  have : env24.fs f = fun _ _ => none := by
    unfold env24 envS
    dsimp only
    split
    · exact absurd rfl h1
    · exact absurd rfl h2
    · exact absurd rfl h3
    · rfl
  rw [this]
  exact Tells.none_ f
theorem run_press (n : Nat) (p : Nat → Int × Int) (x : Int) : arun env24 Try.f24 [.slc 2 n (ptsF p), .int .i64 x] [] =
    match idxG n (ptsF p) x with
    | some i => (match i == 0 with
      | true => (match decide ((0 : Int) ≤ 0 ∧ (0 : Int) < n) with
        | true => some (spanA ((p 0).2, (p 0).2), [])
        | false => none)
      | false => match i == -1 with
        | true => (match decide (0 ≤ wr ((n : Int) - 1) ∧ wr ((n : Int) - 1) < n) with
          | true => some (spanA ((p (wr ((n : Int) - 1)).toNat).2, (p (wr ((n : Int) - 1)).toNat).2), [])
          | false => none)
        | false => match decide (0 ≤ wr (i - 1) ∧ wr (i - 1) < n) with
          | true => (match decide (0 ≤ i ∧ i < n) with
            | true => (match btwG (p (wr (i - 1)).toNat) (p i.toNat) x with
              | some s => some (spanA s, [])
              | none => none)
            | false => none)
          | false => none)
    | none => none := by kernel_rfl
def pressV (p : Nat → Int × Int) (n : Nat) (x : Int) : Int × Int :=
  if idxFrom p x n 0 = 0 then ((p 0).2, (p 0).2) else if idxFrom p x n 0 = -1 then ((p (n - 1)).2, (p (n - 1)).2) else btwV (p ((idxFrom p x n 0).toNat - 1)) (p (idxFrom p x n 0).toNat) x
theorem press_eq {n : Nat} {p : Nat → Int × Int} (ok : OkP p n) (x : Int) : arun env24 Try.f24 [.slc 2 n (ptsF p), .int .i64 x] [] = some (spanA (pressV p n x), []) := by
  have h1 := ok.lo
  have h2 := ok.hi
  rw [run_press, idxG_eq n p x ok.hi]
  dsimp only
  unfold pressV
  have hi := idxFrom_lo p x n 0
  generalize idxFrom p x n 0 = i at hi ⊢
  by_cases c0 : i = 0
  · rw [if_pos c0]
    exact kt (by simp [c0]) (kt (decide_eq_true ⟨Int.le_refl _, by omega⟩) rfl)
  rw [if_neg c0]
  refine kf (by simp [c0]) ?_
  by_cases c1 : i = -1
  · rw [if_pos c1]
    have e : wr ((n : Int) - 1) = ((n - 1 : Nat) : Int) := by rw [wr_small (by omega) (by omega)]; omega
    rw [e]
    exact kt (by simp [c1]) (kt (decide_eq_true ⟨by omega, by omega⟩) rfl)
  rw [if_neg c1]
  refine kf (by simp [c1]) ?_
  rcases hi with hi | ⟨g1, g2, _, _⟩
  · exact absurd hi c1
  have e : wr (i - 1) = ((i.toNat - 1 : Nat) : Int) := by rw [wr_small (by omega) (by omega)]; omega
  rw [e]
  refine kt (decide_eq_true ⟨by omega, by omega⟩) (kt (decide_eq_true ⟨by omega, by omega⟩) ?_)
  have e1 : (((i.toNat - 1 : Nat) : Int)).toNat = i.toNat - 1 := rfl
  rw [e1]
  have hd := ok.dn i.toNat (by omega) (by omega)
  have hr1 := ok.rg i.toNat (by omega)
  have hr0 := ok.rg (i.toNat - 1) (by omega)
  have hw : (wideV (p (i.toNat - 1)) (p i.toNat) != 0) = true := by
    unfold wideV wr
    rw [IntKind.wrap_i64]
    simp
    omega
  unfold btwG
  rw [hw]
/-- A span that is told of a right curve. -/
noncomputable def ofCurve (n : Nat) (F : Nat → List AV) (V : (Nat → Int × Int) → Int × Int) : Option (Int × Int) := theOne fun s => ∃ p, F = ptsF p ∧ OkP p n ∧ s = V p
theorem ofCurve_eq {n : Nat} {p : Nat → Int × Int} (ok : OkP p n) (V : (Nat → Int × Int) → Int × Int) : ofCurve n (ptsF p) V = some (V p) :=
  theOne_eq ⟨p, rfl, ok, rfl⟩ fun z ⟨p', h1, _, h3⟩ => by rw [h3, ptsF_inj h1]
noncomputable def spanAns (g : Option (Int × Int)) : Ans := ⟨⟨Int × Int, g, spanA, fun _ => []⟩, fun _ => true, fun _ _ => ⟨rfl, fun b hb => by cases hb⟩⟩
noncomputable def press? : List AV → List Blk → Option Ans
  | [.slc 2 n F, .int .i64 x], [] => some (spanAns (ofCurve n F fun p => pressV p n x))
  | _, _ => none
attribute [local irreducible] arun in
theorem tells_press : Tells Try.prog 24 press? := by
  refine tells_run (E := env24) rfl Try.pok env24_ok Try.func24 (fun c _ => envS_loops c) fun xs ins r x h hx => ?_
  unfold press? at h
  split at h
  · injection h with h
    subst h
    obtain ⟨p, rfl, ok, rfl⟩ := theOne_spec (show theOne _ = some x from hx)
    exact press_eq ok _
  · cases h
noncomputable def env26 : Env := envS fun f => match f with | 24 => press? | _ => fun _ _ => none
theorem env26_ok : ∀ f, Tells Try.prog f (env26.fs f) := by
  intro f
  by_cases h1 : f = 24
  · subst h1; exact tells_press
  have : env26.fs f = fun _ _ => none := by
    unfold env26 envS
    dsimp only
    split
    · exact absurd rfl h1
    · rfl
  rw [this]
  exact Tells.none_ f
theorem run_blow (n : Nat) (F : Nat → List AV) (back : Bool) (x : Int) : arun env26 Try.f26 [.slc 2 n F, .bool back, .int .i64 x] [] =
    match !back with
    | true => (match ofCurve n F fun p => pressV p n x with
      | some s => some (spanA s, [])
      | none => none)
    | false => match ofCurve n F fun p => pressV p n (wr (0 - x)) with
      | some s => some (spanA (wr (0 - s.2), wr (0 - s.1)), [])
      | none => none := by kernel_rfl
def turnV (s : Int × Int) : Int × Int := (wr (0 - s.2), wr (0 - s.1))
def blowV (p : Nat → Int × Int) (n : Nat) (back : Bool) (x : Int) : Int × Int := match back with
  | true => turnV (pressV p n (wr (0 - x)))
  | false => pressV p n x
noncomputable def blow? : List AV → List Blk → Option Ans
  | [.slc 2 n F, .bool back, .int .i64 x], [] => some (spanAns (ofCurve n F fun p => blowV p n back x))
  | _, _ => none
attribute [local irreducible] arun in
theorem tells_blow : Tells Try.prog 26 blow? := by
  refine tells_run (E := env26) rfl Try.pok env26_ok Try.func26 (fun c _ => envS_loops c) fun xs ins r x h hx => ?_
  unfold blow? at h
  split at h
  · rename_i n F back x0
    injection h with h
    subst h
    obtain ⟨p, rfl, ok, rfl⟩ := theOne_spec (show theOne _ = some x from hx)
    rw [run_blow, ofCurve_eq ok, ofCurve_eq ok]
    cases back <;> rfl
  · cases h

/-! ### At -/
def minI (a b : Int) : Int := if b < a then b else a
def maxI (a b : Int) : Int := if a < b then b else a
noncomputable def env16 : Env := envS fun f => match f with
  | 10 => ofFan ck1
  | 22 => within?
  | 26 => blow?
  | 24 => press?
  | _ => fun _ _ => none
theorem env16_ok : ∀ f, Tells Try.prog f (env16.fs f) := by
  intro f
  by_cases h1 : f = 10
  · subst h1; exact tells_check
  by_cases h2 : f = 22
  · subst h2; exact tells_within
  by_cases h3 : f = 26
  · subst h3; exact tells_blow
  by_cases h4 : f = 24
  · subst h4; exact tells_press
  have : env16.fs f = fun _ _ => none := by
    unfold env16 envS
    dsimp only
    split
    · exact absurd rfl h1
    · exact absurd rfl h2
    · exact absurd rfl h3
    · exact absurd rfl h4
    · rfl
  rw [this]
  exact Tells.none_ f
/-- What Check and the document's say. -/
noncomputable def ckG (c : Fn7 → Int) (cs : List AV) : Option Int := theOne fun r => ∃ f, cs = fanL f ∧ r = c f
theorem ckG_eq (c : Fn7 → Int) (f : Fn7) : ckG c (fanL f) = some (c f) := theOne_eq ⟨f, rfl, rfl⟩ fun z ⟨f', h1, h2⟩ => by rw [h2, fanL_inj h1]
theorem run_at (f : Fn7) (st x : Int) : arun env16 Try.f16 [.agg (fanL f), .int .i64 st, .int .i64 x] [] =
    match ckG ck1 (fanL f) with
    | some r => (match r != 0 with
      | true => some (spanA (0, 0), [])
      | false => match !(inB (-1048577) 1048577 x) with
        | true => some (spanA (0, 0), [])
        | false => match st == 1 with
          | true => (match ofCurve f.n (ptsF f.p) fun p => blowV p f.n f.back x with
            | some s => some (spanA s, [])
            | none => none)
          | false => match st == 2 with
            | true => (match ofCurve f.n (ptsF f.p) fun p => blowV p f.n (!f.back) x with
              | some s => some (spanA s, [])
              | none => none)
            | false => match st == -1 with
              | true => (match ofCurve f.n (ptsF f.p) fun p => blowV p f.n f.back x with
                | some s => (match ofCurve f.n (ptsF f.p) fun p => blowV p f.n (!f.back) x with
                  | some t => some (spanA (minI (minI 0 s.1) t.1, maxI (maxI 0 s.2) t.2), [])
                  | none => none)
                | none => none)
              | false => some (spanA (0, 0), []))
    | none => none := by kernel_rfl
def anyV (s t : Int × Int) : Int × Int := (minI (minI 0 s.1) t.1, maxI (maxI 0 s.2) t.2)
noncomputable def atV (f : Fn7) (st x : Int) : Int × Int :=
  if ck1 f = 0 ∧ (-1048577 ≤ x ∧ x ≤ 1048577) then
    if st = 1 then blowV f.p f.n f.back x else if st = 2 then blowV f.p f.n (!f.back) x else if st = -1 then anyV (blowV f.p f.n f.back x) (blowV f.p f.n (!f.back) x) else (0, 0)
  else (0, 0)
theorem at_eq (f : Fn7) (st x : Int) : arun env16 Try.f16 [.agg (fanL f), .int .i64 st, .int .i64 x] [] = some (spanA (atV f st x), []) := by
  rw [run_at, ckG_eq]
  dsimp only
  unfold atV
  by_cases c0 : ck1 f = 0
  · have ok := (ok_of c0).1
    refine kf (by simp [c0]) ?_
    rw [ofCurve_eq ok, ofCurve_eq ok]
    by_cases c1 : -1048577 ≤ x ∧ x ≤ 1048577
    · rw [if_pos ⟨c0, c1⟩]
      refine kf (by unfold inB; rw [decide_eq_true c1]; rfl) ?_
      by_cases c2 : st = 1
      · rw [if_pos c2]; exact kt (by simp [c2]) rfl
      rw [if_neg c2]
      refine kf (by simp [c2]) ?_
      by_cases c3 : st = 2
      · rw [if_pos c3]; exact kt (by simp [c3]) rfl
      rw [if_neg c3]
      refine kf (by simp [c3]) ?_
      by_cases c4 : st = -1
      · rw [if_pos c4]; exact kt (by simp [c4]) rfl
      rw [if_neg c4]
      exact kf (by simp [c4]) rfl
    · rw [if_neg fun h => c1 h.2]
      exact kt (by unfold inB; rw [decide_eq_false c1]; rfl) rfl
  · rw [if_neg fun h => c0 h.1]
    exact kt (by simp [c0]) rfl
noncomputable def at? : List AV → List Blk → Option Ans
  | [.agg cs, .int .i64 st, .int .i64 x], [] => some (spanAns (theOne fun s => ∃ f, cs = fanL f ∧ s = atV f st x))
  | _, _ => none
attribute [local irreducible] arun in
theorem tells_at : Tells Try.prog 16 at? := by
  refine tells_run (E := env16) rfl Try.pok env16_ok Try.func16 (fun c _ => envS_loops c) fun xs ins r x h hx => ?_
  unfold at? at h
  split at h
  · injection h with h
    subst h
    obtain ⟨f, rfl, rfl⟩ := theOne_spec (show theOne _ = some x from hx)
    exact at_eq f _ _
  · cases h
theorem run_ccurve (f : Fn7) (x : Int) : arun env16 Try.f14 [.agg (fanL f), .int .i64 x] [] =
    match ckG ck1 (fanL f) with
    | some r => (match r != 0 with
      | true => some (spanA (0, 0), [])
      | false => match ofCurve f.n (ptsF f.p) fun p => pressV p f.n x with
        | some s => some (spanA s, [])
        | none => none)
    | none => none := by kernel_rfl
noncomputable def curveV (f : Fn7) (x : Int) : Int × Int := if ck1 f = 0 then pressV f.p f.n x else (0, 0)
theorem ccurve_eq (f : Fn7) (x : Int) : arun env16 Try.f14 [.agg (fanL f), .int .i64 x] [] = some (spanA (curveV f x), []) := by
  rw [run_ccurve, ckG_eq]
  dsimp only
  unfold curveV
  by_cases c0 : ck1 f = 0
  · rw [if_pos c0, ofCurve_eq (ok_of c0).1]
    exact kf (by simp [c0]) rfl
  · rw [if_neg c0]
    exact kt (by simp [c0]) rfl
noncomputable def ccurve? : List AV → List Blk → Option Ans
  | [.agg cs, .int .i64 x], [] => some (spanAns (theOne fun s => ∃ f, cs = fanL f ∧ s = curveV f x))
  | _, _ => none
attribute [local irreducible] arun in
theorem tells_ccurve : Tells Try.prog 14 ccurve? := by
  refine tells_run (E := env16) rfl Try.pok env16_ok Try.func14 (fun c _ => envS_loops c) fun xs ins r x h hx => ?_
  unfold ccurve? at h
  split at h
  · injection h with h
    subst h
    obtain ⟨f, rfl, rfl⟩ := theOne_spec (show theOne _ = some x from hx)
    exact ccurve_eq f _
  · cases h
end Go.Proofs.Ytombbbbgkjapcaa.Ab
