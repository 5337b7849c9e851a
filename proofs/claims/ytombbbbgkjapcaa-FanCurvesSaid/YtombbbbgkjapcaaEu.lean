/- Stage 7: the document's Curve and At are the program's. -/
import Derived.Test.YtombbbbgkjapcaaEr
namespace Go.Proofs.Ytombbbbgkjapcaa.Ab
open Go

theorem floor_seg {l w q r : Int} (hw : 0 < w) (hl : l = w * q + r) (q0 : 0 ≤ q) (q1 : q ≤ 4398046511104) (r0 : 0 ≤ r) (rl : r < w) : floorV (-l) w = (if r > 0 then -q - 1 else -q) ∧ floorV l w = q := by
  have l0 : 0 ≤ l := by
    have := Int.mul_nonneg (show 0 ≤ w by omega) q0
    omega
  have u : l / w = q ∧ l % w = r := (Int.ediv_emod_unique hw).2 ⟨by omega, r0, rl⟩
  have e1 : l.tdiv w = q := by rw [Int.tdiv_eq_ediv_of_nonneg l0]; exact u.1
  have e2 : l.tmod w = r := by rw [Int.tmod_eq_emod_of_nonneg l0]; exact u.2
  unfold floorV
  rw [Int.neg_tdiv, Int.neg_tmod, e1, e2]
  have w1 : wr (-q) = -q := by unfold wr; rw [IntKind.wrap_i64]; omega
  have w2 : wr (-q - 1) = -q - 1 := by unfold wr; rw [IntKind.wrap_i64]; omega
  have w3 : wr q = q := by unfold wr; rw [IntKind.wrap_i64]; omega
  refine ⟨?_, kf (decide_eq_false (by omega)) w3⟩
  by_cases hr : r > 0
  · rw [if_pos hr]
    exact kt (decide_eq_true (by omega)) (by rw [w1, w2])
  · rw [if_neg hr]
    exact kf (decide_eq_false (by omega)) w1
theorem le_last {p : Nat → Int × Int} {n : Nat} (ok : OkP p n) {j : Nat} (hj : j < n) : (p j).1 ≤ (p (n - 1)).1 := by
  by_cases h : j = n - 1
  · rw [h]; exact Int.le_refl _
  · have := up_all ok (n - 1 - j) j (by omega) (by omega)
    rw [show j + (n - 1 - j) = n - 1 by omega] at this
    omega
theorem press_first {p : Nat → Int × Int} {n : Nat} (ok : OkP p n) {x : Int} (h : x ≤ (p 0).1) : pressV p n x = ((p 0).2, (p 0).2) := by
  have h1 := ok.lo
  rcases press_at ok x with ⟨_, e2⟩ | ⟨e1, _⟩ | ⟨g1, _⟩
  · exact e2
  · have := place_lt (p := p) (n := n) (x := x) (j := 0) (by omega); omega
  · have := place_lt (p := p) (n := n) (x := x) (j := 0) (by omega); omega
theorem press_last {p : Nat → Int × Int} {n : Nat} (ok : OkP p n) {x : Int} (h : (p (n - 1)).1 ≤ x) : pressV p n x = ((p (n - 1)).2, (p (n - 1)).2) := by
  have h1 := ok.lo
  by_cases e : x = (p (n - 1)).1
  · rw [e]; exact press_pt ok (by omega)
  · rcases press_at ok x with ⟨e1, _⟩ | ⟨_, e2⟩ | ⟨_, g2, _⟩
    · have := place_ge (p := p) (n := n) (x := x) (by omega)
      rw [e1] at this
      have := le_last ok (show 0 < n by omega)
      omega
    · exact e2
    · have := place_ge (p := p) (n := n) (x := x) g2
      have := le_last ok g2
      omega
/-- What the document says on a line, is what the program says. -/
theorem seg_ref {a b : Int × Int} {x q r : Int} (ha : -1048576 ≤ a.1 ∧ a.1 ≤ 1048576 ∧ 0 ≤ a.2 ∧ a.2 ≤ 2199023255552) (hb : -1048576 ≤ b.1 ∧ b.1 ≤ 1048576 ∧ 0 ≤ b.2 ∧ b.2 ≤ 2199023255552)
    (h1 : a.1 ≤ x) (h2 : x ≤ b.1) (h3 : b.2 ≤ a.2) (hw : a.1 < b.1) (q0 : 0 ≤ q) (q1 : q ≤ a.2 - b.2) (r0 : 0 ≤ r) (rl : r < b.1 - a.1) (eq : (a.2 - b.2) * (x - a.1) = (b.1 - a.1) * q + r) :
    floorG (segUp a b x) (wideV a b) = some (if r > 0 then -q - 1 else -q) ∧ ceilG (segUp a b x) (wideV a b) = some (-q) := by
  have hwd : wideV a b = b.1 - a.1 := by unfold wideV wr; rw [IntKind.wrap_i64]; omega
  have hd : wr (b.2 - a.2) = b.2 - a.2 := by unfold wr; rw [IntKind.wrap_i64]; omega
  have ht : wr (x - a.1) = x - a.1 := by unfold wr; rw [IntKind.wrap_i64]; omega
  have l0 : 0 ≤ (a.2 - b.2) * (x - a.1) := Int.mul_nonneg (by omega) (by omega)
  have l1 : (a.2 - b.2) * (x - a.1) ≤ 2199023255552 * 2097152 := Int.mul_le_mul (by omega) (by omega) (by omega) (by omega)
  have hu : segUp a b x = -((a.2 - b.2) * (x - a.1)) := by
    unfold segUp
    rw [hd, ht, show b.2 - a.2 = -(a.2 - b.2) by omega, Int.neg_mul]
    unfold wr
    rw [IntKind.wrap_i64]
    generalize (a.2 - b.2) * (x - a.1) = l at l0 l1 ⊢
    omega
  rw [hu, hwd]
  generalize (a.2 - b.2) * (x - a.1) = l at l0 l1 eq ⊢
  have fs := floor_seg (l := l) (w := b.1 - a.1) (q := q) (r := r) (by omega) eq q0 (by omega) r0 rl
  have hn : wr (0 - -l) = l := by unfold wr; rw [IntKind.wrap_i64]; omega
  have hq : wr (0 - q) = -q := by unfold wr; rw [IntKind.wrap_i64]; omega
  have hne : (b.1 - a.1 != 0) = true := by simp; omega
  unfold ceilG floorG
  rw [hne, hn, fs.1, fs.2]
  dsimp only
  rw [hq]
  exact ⟨rfl, rfl⟩
theorem inner_eq {f : Fn7} (ok : OkP f.p f.n) (x : Int) : arun env25 Try.f25 [.agg (fanL f), .int .i64 x] [] = some (spanA (pressV f.p f.n x), []) := by
  have h1 := ok.lo
  have h2 := ok.hi
  have d0 : decide ((0 : Int) ≤ 0 ∧ (0 : Int) < f.n) = true := decide_eq_true ⟨Int.le_refl _, by omega⟩
  have e : wr ((f.n : Int) - 1) = ((f.n - 1 : Nat) : Int) := by rw [wr_small (by omega) (by omega)]; omega
  have e1 : (((f.n - 1 : Nat) : Int)).toNat = f.n - 1 := rfl
  have d1 : decide (0 ≤ ((f.n - 1 : Nat) : Int) ∧ ((f.n - 1 : Nat) : Int) < (f.n : Int)) = true := decide_eq_true ⟨by omega, by omega⟩
  rw [run_inner, d0, e, e1, d1]
  dsimp only
  by_cases c1 : x ≤ (f.p 0).1
  · rw [press_first ok c1]
    exact kt (decide_eq_true c1) rfl
  refine kf (decide_eq_false c1) ?_
  by_cases c2 : x ≥ (f.p (f.n - 1)).1
  · rw [press_last ok c2]
    exact kt (decide_eq_true c2) rfl
  refine kf (decide_eq_false c2) ?_
  rw [g25_eq f x ok (by omega) (by omega)]
  dsimp only
  obtain ⟨k1, k2, k3⟩ := goK_in f.p x f.n (by omega) (f.n - 1) 0 (by omega) (by omega)
  generalize goK f.p x (f.n - 1) 0 = k at k1 k2 k3 ⊢
  have ek : wr ((k : Int) + 1) = ((k + 1 : Nat) : Int) := by rw [wr_small (by omega) (by omega)]; omega
  have ek1 : ((k : Int)).toNat = k := rfl
  have ek2 : (((k + 1 : Nat) : Int)).toNat = k + 1 := rfl
  rw [ek, ek1, ek2]
  refine kt (decide_eq_true ⟨by omega, by omega⟩) (kt (decide_eq_true ⟨by omega, by omega⟩) ?_)
  have ra := ok.rg k (by omega)
  have rb := ok.rg (k + 1) k1
  have dn := ok.dn (k + 1) (by omega) k1
  rw [show k + 1 - 1 = k by omega] at dn
  have fin : ∀ q r : Int, 0 ≤ q → q ≤ (f.p k).2 - (f.p (k + 1)).2 → 0 ≤ r → r < (f.p (k + 1)).1 - (f.p k).1 → ((f.p k).2 - (f.p (k + 1)).2) * (x - (f.p k).1) = ((f.p (k + 1)).1 - (f.p k).1) * q + r → pressV f.p f.n x = (if r > 0 then (f.p k).2 - q - 1 else (f.p k).2 - q, (f.p k).2 - q) →
      (match floorG (segUp (f.p k) (f.p (k + 1)) x) (wideV (f.p k) (f.p (k + 1))) with
        | some lo => (match ceilG (segUp (f.p k) (f.p (k + 1)) x) (wideV (f.p k) (f.p (k + 1))) with
          | some hi => some (spanA (wr ((f.p k).2 + lo), wr ((f.p k).2 + hi)), [])
          | none => none)
        | none => none) = some (spanA (pressV f.p f.n x), ([] : List Blk)) := by
    intro q r q0 q1 r0 rl eq hv
    obtain ⟨s1, s2⟩ := seg_ref ra rb k2 (by omega) dn.2 dn.1 q0 q1 r0 rl eq
    rw [s1, s2, hv]
    dsimp only
    have g1 : wr ((f.p k).2 + -q) = (f.p k).2 - q := by unfold wr; rw [IntKind.wrap_i64]; omega
    rw [g1]
    by_cases hr : r > 0
    · rw [if_pos hr, if_pos hr]
      have g2 : wr ((f.p k).2 + (-q - 1)) = (f.p k).2 - q - 1 := by unfold wr; rw [IntKind.wrap_i64]; omega
      rw [g2]
    · rw [if_neg hr, if_neg hr, g1]
  by_cases hx : x = (f.p k).1
  · refine fin 0 0 (Int.le_refl _) (by omega) (Int.le_refl _) (by omega) (by rw [hx]; simp) ?_
    rw [hx, press_pt ok (by omega)]
    simp
  · have pl := place_mid ok (j := k) (x := x) k1 (by omega) (by omega)
    rcases press_at ok x with ⟨e3, _⟩ | ⟨e3, _⟩ | ⟨_, _, q, r, sg, hv⟩
    · omega
    · omega
    · rw [pl, show k + 1 - 1 = k by omega] at sg hv
      exact fin q r sg.q0 sg.lo sg.r0 sg.rl sg.eq hv
/-- A span that is told of a fan whose curve is right. -/
noncomputable def ofOk (cs : List AV) (V : Fn7 → Int × Int) : Option (Int × Int) := theOne fun s => ∃ f, cs = fanL f ∧ OkP f.p f.n ∧ s = V f
theorem ofOk_eq {f : Fn7} (ok : OkP f.p f.n) (V : Fn7 → Int × Int) : ofOk (fanL f) V = some (V f) := theOne_eq ⟨f, rfl, ok, rfl⟩ fun z ⟨f', h1, _, h2⟩ => by rw [h2, fanL_inj h1]
noncomputable def inner? : List AV → List Blk → Option Ans
  | [.agg cs, .int .i64 x], [] => some (spanAns (ofOk cs fun f => pressV f.p f.n x))
  | _, _ => none
attribute [local irreducible] arun in
theorem tells_inner : Tells Try.prog 25 inner? := by
  refine tells_run (E := env25) rfl Try.pok env25_ok Try.func25 (fun c hc => ?_) fun xs ins r x h hx => ?_
  · refine loops_of c fun c' hc' f hf => ?_
    have hb : loopsOf c = [b25] := by
      have : Try.f25.body.map loopsOf = some [b25] := by kernel_rfl
      rw [hc] at this
      injection this
    rw [hb] at hc'
    obtain rfl := List.mem_singleton.1 hc'
    have h6 : firstReg b25 = 7 := by kernel_rfl
    rw [h6] at hf
    injection hf with hf
    subst hf
    exact lt25
  · unfold inner? at h
    split at h
    · injection h with h
      subst h
      obtain ⟨f, rfl, ok, rfl⟩ := theOne_spec (show theOne _ = some x from hx)
      exact inner_eq ok _
    · cases h

/-! ### Along, State, At, Curve -/
noncomputable def env35 : Env := envS fun f => match f with
  | 25 => inner?
  | 11 => ofFan ck2
  | _ => fun _ _ => none
theorem env35_ok : ∀ f, Tells Try.prog f (env35.fs f) := by
  intro f
  by_cases h1 : f = 25
  · subst h1; exact tells_inner
  by_cases h2 : f = 11
  · subst h2; exact tells_rcheck
  have : env35.fs f = fun _ _ => none := by
    unfold env35 envS
    dsimp only
    split
    · exact absurd rfl h1
    · exact absurd rfl h2
    · rfl
  rw [this]
  exact Tells.none_ f
theorem run_along (f : Fn7) (back : Bool) (x : Int) : arun env35 Try.f35 [.agg (fanL f), .bool back, .int .i64 x] [] =
    match back with
    | true => (match ofOk (fanL f) fun f => pressV f.p f.n (wr (0 - x)) with
      | some s => some (spanA (wr (0 - s.2), wr (0 - s.1)), [])
      | none => none)
    | false => match ofOk (fanL f) fun f => pressV f.p f.n x with
      | some s => some (spanA s, [])
      | none => none := by kernel_rfl
noncomputable def along? : List AV → List Blk → Option Ans
  | [.agg cs, .bool back, .int .i64 x], [] => some (spanAns (ofOk cs fun f => blowV f.p f.n back x))
  | _, _ => none
attribute [local irreducible] arun in
theorem tells_along : Tells Try.prog 35 along? := by
  refine tells_run (E := env35) rfl Try.pok env35_ok Try.func35 (fun c _ => envS_loops c) fun xs ins r x h hx => ?_
  unfold along? at h
  split at h
  · rename_i cs back x0
    injection h with h
    subst h
    obtain ⟨f, rfl, ok, rfl⟩ := theOne_spec (show theOne _ = some x from hx)
    rw [run_along, ofOk_eq ok, ofOk_eq ok]
    cases back <;> rfl
  · cases h
theorem run_rcurve (f : Fn7) (x : Int) : arun env35 Try.f15 [.agg (fanL f), .int .i64 x] [] =
    match ckG ck2 (fanL f) with
    | some r => (match r != 0 with
      | true => some (spanA (0, 0), [])
      | false => match ofOk (fanL f) fun f => pressV f.p f.n x with
        | some s => some (spanA s, [])
        | none => none)
    | none => none := by kernel_rfl
theorem rcurve_eq (f : Fn7) (x : Int) : arun env35 Try.f15 [.agg (fanL f), .int .i64 x] [] = some (spanA (curveV f x), []) := by
  rw [run_rcurve, ckG_eq, ← ck_same]
  dsimp only
  unfold curveV
  by_cases c0 : ck1 f = 0
  · rw [if_pos c0, ofOk_eq (ok_of c0).1]
    exact kf (by simp [c0]) rfl
  · rw [if_neg c0]
    exact kt (by simp [c0]) rfl
attribute [local irreducible] arun in
theorem tells_rcurve : Tells Try.prog 15 ccurve? := by
  refine tells_run (E := env35) rfl Try.pok env35_ok Try.func15 (fun c _ => envS_loops c) fun xs ins r x h hx => ?_
  unfold ccurve? at h
  split at h
  · injection h with h
    subst h
    obtain ⟨f, rfl, rfl⟩ := theOne_spec (show theOne _ = some x from hx)
    exact rcurve_eq f _
  · cases h
noncomputable def env27 : Env := envS fun f => match f with | 35 => along? | _ => fun _ _ => none
theorem env27_ok : ∀ f, Tells Try.prog f (env27.fs f) := by
  intro f
  by_cases h1 : f = 35
  · subst h1; exact tells_along
  have : env27.fs f = fun _ _ => none := by
    unfold env27 envS
    dsimp only
    split
    · exact absurd rfl h1
    · rfl
  rw [this]
  exact Tells.none_ f
theorem run_state (f : Fn7) (st x : Int) : arun env27 Try.f27 [.agg (fanL f), .int .i64 st, .int .i64 x] [] =
    match st == 0 with
    | true => some (spanA (0, 0), [])
    | false => match st == 1 with
      | true => (match ofOk (fanL f) fun g => blowV g.p g.n f.back x with
        | some s => some (spanA s, [])
        | none => none)
      | false => match st == 2 with
        | true => (match ofOk (fanL f) fun g => blowV g.p g.n (!f.back) x with
          | some s => some (spanA s, [])
          | none => none)
        | false => match ofOk (fanL f) fun g => blowV g.p g.n false x with
          | some s => (match ofOk (fanL f) fun g => blowV g.p g.n true x with
            | some t => some (spanA (minI (minI s.1 t.1) 0, maxI (maxI s.2 t.2) 0), [])
            | none => none)
          | none => none := by kernel_rfl
def stateV (f : Fn7) (st x : Int) : Int × Int :=
  if st = 0 then (0, 0) else if st = 1 then blowV f.p f.n f.back x else if st = 2 then blowV f.p f.n (!f.back) x else
  (minI (minI (blowV f.p f.n false x).1 (blowV f.p f.n true x).1) 0, maxI (maxI (blowV f.p f.n false x).2 (blowV f.p f.n true x).2) 0)
theorem state_eq {f : Fn7} (ok : OkP f.p f.n) (st x : Int) : arun env27 Try.f27 [.agg (fanL f), .int .i64 st, .int .i64 x] [] = some (spanA (stateV f st x), []) := by
  rw [run_state, ofOk_eq ok, ofOk_eq ok, ofOk_eq ok, ofOk_eq ok]
  unfold stateV
  by_cases c1 : st = 0
  · rw [if_pos c1]; exact kt (by simp [c1]) rfl
  rw [if_neg c1]
  refine kf (by simp [c1]) ?_
  by_cases c2 : st = 1
  · rw [if_pos c2]; exact kt (by simp [c2]) rfl
  rw [if_neg c2]
  refine kf (by simp [c2]) ?_
  by_cases c3 : st = 2
  · rw [if_pos c3]; exact kt (by simp [c3]) rfl
  rw [if_neg c3]
  exact kf (by simp [c3]) rfl
noncomputable def state? : List AV → List Blk → Option Ans
  | [.agg cs, .int .i64 st, .int .i64 x], [] => some (spanAns (ofOk cs fun f => stateV f st x))
  | _, _ => none
attribute [local irreducible] arun in
theorem tells_state : Tells Try.prog 27 state? := by
  refine tells_run (E := env27) rfl Try.pok env27_ok Try.func27 (fun c _ => envS_loops c) fun xs ins r x h hx => ?_
  unfold state? at h
  split at h
  · injection h with h
    subst h
    obtain ⟨f, rfl, ok, rfl⟩ := theOne_spec (show theOne _ = some x from hx)
    exact state_eq ok _ _
  · cases h
noncomputable def env17 : Env := envS fun f => match f with
  | 27 => state?
  | 11 => ofFan ck2
  | _ => fun _ _ => none
theorem env17_ok : ∀ f, Tells Try.prog f (env17.fs f) := by
  intro f
  by_cases h1 : f = 27
  · subst h1; exact tells_state
  by_cases h2 : f = 11
  · subst h2; exact tells_rcheck
  have : env17.fs f = fun _ _ => none := by
    unfold env17 envS
    dsimp only
    split
    · exact absurd rfl h1
    · exact absurd rfl h2
    · rfl
  rw [this]
  exact Tells.none_ f
theorem run_rat (f : Fn7) (st x : Int) : arun env17 Try.f17 [.agg (fanL f), .int .i64 st, .int .i64 x] [] =
    match ckG ck2 (fanL f) with
    | some r => (match r != 0 with
      | true => some (spanA (0, 0), [])
      | false => match decide (st < -1) with
        | true => some (spanA (0, 0), [])
        | false => match decide (st > 2) with
          | true => some (spanA (0, 0), [])
          | false => match decide (x < -1048577) with
            | true => some (spanA (0, 0), [])
            | false => match decide (x > 1048577) with
              | true => some (spanA (0, 0), [])
              | false => match ofOk (fanL f) fun f => stateV f st x with
                | some s => some (spanA s, [])
                | none => none)
    | none => none := by kernel_rfl
theorem rat_eq (f : Fn7) (st x : Int) : arun env17 Try.f17 [.agg (fanL f), .int .i64 st, .int .i64 x] [] = some (spanA (atV f st x), []) := by
  rw [run_rat, ckG_eq, ← ck_same]
  dsimp only
  have zero : ¬ (ck1 f = 0 ∧ (-1048577 ≤ x ∧ x ≤ 1048577) ∧ -1 ≤ st ∧ st ≤ 2) → atV f st x = (0, 0) := fun h => by
    unfold atV
    split
    · rename_i h2
      rw [if_neg (by omega), if_neg (by omega), if_neg (by omega)]
    · rfl
  by_cases c0 : ck1 f = 0
  · refine kf (by simp [c0]) ?_
    rw [ofOk_eq (ok_of c0).1]
    by_cases c1 : st < -1
    · rw [zero (by omega)]; exact kt (decide_eq_true c1) rfl
    refine kf (decide_eq_false c1) ?_
    by_cases c2 : st > 2
    · rw [zero (by omega)]; exact kt (decide_eq_true c2) rfl
    refine kf (decide_eq_false c2) ?_
    by_cases c3 : x < -1048577
    · rw [zero (by omega)]; exact kt (decide_eq_true c3) rfl
    refine kf (decide_eq_false c3) ?_
    by_cases c4 : x > 1048577
    · rw [zero (by omega)]; exact kt (decide_eq_true c4) rfl
    refine kf (decide_eq_false c4) ?_
    have : stateV f st x = atV f st x := by
      unfold atV stateV
      rw [if_pos (show ck1 f = 0 ∧ (-1048577 ≤ x ∧ x ≤ 1048577) from ⟨c0, by omega⟩)]
      by_cases d0 : st = 0
      · rw [if_pos d0, if_neg (by omega), if_neg (by omega), if_neg (by omega)]
      rw [if_neg d0]
      by_cases d1 : st = 1
      · rw [if_pos d1, if_pos d1]
      rw [if_neg d1, if_neg d1]
      by_cases d2 : st = 2
      · rw [if_pos d2, if_pos d2]
      rw [if_neg d2, if_neg d2, if_pos (by omega)]
      cases f.back with
      | false =>
        show _ = anyV (blowV f.p f.n false x) (blowV f.p f.n true x)
        generalize blowV f.p f.n false x = s, blowV f.p f.n true x = t
        unfold anyV minI maxI
        refine Prod.ext ?_ ?_
        all_goals dsimp only
        all_goals repeat' split
        all_goals omega
      | true =>
        show _ = anyV (blowV f.p f.n true x) (blowV f.p f.n false x)
        generalize blowV f.p f.n false x = s, blowV f.p f.n true x = t
        unfold anyV minI maxI
        refine Prod.ext ?_ ?_
        all_goals dsimp only
        all_goals repeat' split
        all_goals omega
    rw [this]
  · rw [zero (by omega)]
    exact kt (by simp [c0]) rfl
attribute [local irreducible] arun in
theorem tells_rat : Tells Try.prog 17 at? := by
  refine tells_run (E := env17) rfl Try.pok env17_ok Try.func17 (fun c _ => envS_loops c) fun xs ins r x h hx => ?_
  unfold at? at h
  split at h
  · injection h with h
    subst h
    obtain ⟨f, rfl, rfl⟩ := theOne_spec (show theOne _ = some x from hx)
    exact rat_eq f _ _
  · cases h
end Go.Proofs.Ytombbbbgkjapcaa.Ab
