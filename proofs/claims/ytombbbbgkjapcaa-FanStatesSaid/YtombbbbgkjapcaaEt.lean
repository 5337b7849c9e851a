/- Stage 7, the law FanTurns, by the plain evaluator. -/
import Derived.Test.YtombbbbgkjapcaaE7
namespace Go.Proofs.Ytombbbbgkjapcaa.Ab
open Go

/-- The environment of the laws that only look at the program's answers. -/
noncomputable def envT : Env := envS fun f => match f with
  | 9 => made?
  | 11 => ofFan ck2
  | 12 => awake?
  | 13 => mod?
  | 16 => at?
  | 14 => ccurve?
  | _ => fun _ _ => none
theorem envT_ok : ∀ f, Tells Try.prog f (envT.fs f) := by
  intro f
  by_cases h1 : f = 9
  · subst h1; exact tells_made
  by_cases h2 : f = 11
  · subst h2; exact tells_rcheck
  by_cases h3 : f = 12
  · subst h3; exact tells_awake
  by_cases h4 : f = 13
  · subst h4; exact tells_mod
  by_cases h5 : f = 16
  · subst h5; exact tells_at
  by_cases h6 : f = 14
  · subst h6; exact tells_ccurve
  have : envT.fs f = fun _ _ => none := by
    unfold envT envS
    dsimp only
    split
    · exact absurd rfl h1
    · exact absurd rfl h2
    · exact absurd rfl h3
    · exact absurd rfl h4
    · exact absurd rfl h5
    · exact absurd rfl h6
    · rfl
  rw [this]
  exact Tells.none_ f
noncomputable def atG (cs : List AV) (st x : Int) : Option (Int × Int) := theOne fun s => ∃ f, cs = fanL f ∧ s = atV f st x
theorem atG_eq (f : Fn7) (st x : Int) : atG (fanL f) st x = some (atV f st x) := theOne_eq ⟨f, rfl, rfl⟩ fun z ⟨f', h1, h2⟩ => by rw [h2, fanL_inj h1]
def madeB (f : Fn7) : List AV := [.int .i64 f.road, .bool (!f.back), .bool false, .slc 2 f.n (ptsF f.p)]
def turned (f : Fn7) : Fn7 := ⟨f.road, !f.back, f.aux, f.n, f.p⟩
theorem madeB_eq {f : Fn7} (h : MadeOK f) : madeB f = fanL (turned f) := by unfold madeB fanL turned; rw [h.aux]
def eqS (s t : Int × Int) : Bool := (s.1 == t.1) && ((s.2 == t.2) && true)
theorem eqS_refl (s : Int × Int) : eqS s s = true := by simp [eqS]
def k200 (flow : Int) : Int := wr (modV flow 400 - 200)
theorem k200_rg (flow : Int) : -200 ≤ k200 flow ∧ k200 flow ≤ 199 := by
  have := modV_range (k := flow) (n := 400) (by omega) (by omega)
  unfold k200
  rw [wr_small (by omega) (by omega)]
  omega
theorem run_turns (n : Nat) (F : Nat → List AV) (flow : Int) : arun envT Try.f7 [.slc 1 n F, .int .i64 flow] [] =
    match madeG n F 0 0 with
    | some f => (match ckG ck2 (madeL f) with
      | some r => (match r != 0 with
        | true => some (.bool true, [])
        | false => match atG (madeL f) 1 (k200 flow) with
          | some on => (match atG (madeL f) 2 (k200 flow) with
            | some rev => (match atG (madeL f) (-1) (k200 flow) with
              | some any => (match atG (madeL f) 1 (wr (0 - k200 flow)) with
                | some tu => (match atG (madeB f) 2 (k200 flow) with
                  | some a1 => (match eqS a1 on with
                    | true => (match atG (madeB f) 1 (k200 flow) with
                      | some a2 => (match eqS a2 rev with
                        | true => (match eqS rev (turnV tu) with
                          | true => (match decide (any.1 ≤ minI (minI on.1 rev.1) 0) with
                            | true => (match decide (any.2 ≥ maxI (maxI on.2 rev.2) 0) with
                              | true => some (.bool true, [])
                              | false => some (.bool false, []))
                            | false => some (.bool false, []))
                          | false => some (.bool false, []))
                        | false => some (.bool false, []))
                      | none => none)
                    | false => some (.bool false, []))
                  | none => none)
                | none => none)
              | none => none)
            | none => none)
          | none => none)
      | none => none)
    | none => none := by kernel_rfl
attribute [local irreducible] arun
theorem ck_turned (f : Fn7) : ck1 (turned f) = ck1 f := rfl
def In64 (s : Int × Int) : Prop := (-9223372036854775808 ≤ s.1 ∧ s.1 ≤ 9223372036854775807) ∧ (-9223372036854775808 ≤ s.2 ∧ s.2 ≤ 9223372036854775807)
theorem wr_rg (x : Int) : -9223372036854775808 ≤ wr x ∧ wr x ≤ 9223372036854775807 := by unfold wr; rw [IntKind.wrap_i64]; omega
theorem press_rg {p : Nat → Int × Int} {n : Nat} (ok : OkP p n) (x : Int) : In64 (pressV p n x) := by
  unfold pressV
  have h1 := ok.lo
  have r0 := ok.rg 0 (by omega)
  have r1 := ok.rg (n - 1) (by omega)
  split
  · exact ⟨by dsimp only; omega, by dsimp only; omega⟩
  · split
    · exact ⟨by dsimp only; omega, by dsimp only; omega⟩
    · unfold btwV
      split
      · exact ⟨wr_rg _, wr_rg _⟩
      · exact ⟨wr_rg _, wr_rg _⟩
theorem wr_neg2 {x : Int} (h0 : -9223372036854775808 ≤ x) (h1 : x ≤ 9223372036854775807) : wr (0 - wr (0 - x)) = x := by
  unfold wr
  rw [IntKind.wrap_i64, IntKind.wrap_i64]
  omega
theorem turn_turn {s : Int × Int} (h : In64 s) : turnV (turnV s) = s := by
  unfold turnV
  dsimp only
  rw [wr_neg2 h.1.1 h.1.2, wr_neg2 h.2.1 h.2.2]
theorem turns_eq (n : Nat) (b : Nat → Int) (flow : Int) : arun envT Try.f7 [.slc 1 n (bytesF b), .int .i64 flow] [] = some (.bool true, []) := by
  obtain ⟨f, e1, ok⟩ := madeG_ex n b 0 0
  have hk := k200_rg flow
  rw [run_turns, e1]
  dsimp only
  rw [madeL_eq ok, madeB_eq ok, ckG_eq]
  dsimp only
  by_cases c0 : ck2 f = 0
  · have c1 : ck1 f = 0 := (ck_same f).trans c0
    have c1' : ck1 (turned f) = 0 := c1
    have okp := (ok_of c1).1
    refine kf (by simp [c0]) ?_
    rw [atG_eq, atG_eq, atG_eq, atG_eq, atG_eq, atG_eq]
    dsimp only
    generalize k200 flow = k at hk ⊢
    have hn : wr (0 - k) = -k := by rw [wr_small (by omega) (by omega)]; omega
    have on : atV f 1 k = blowV f.p f.n f.back k := by unfold atV; rw [if_pos ⟨c1, by omega⟩, if_pos rfl]
    have rev : atV f 2 k = blowV f.p f.n (!f.back) k := by unfold atV; rw [if_pos ⟨c1, by omega⟩, if_neg (by omega), if_pos rfl]
    have any : atV f (-1) k = anyV (blowV f.p f.n f.back k) (blowV f.p f.n (!f.back) k) := by unfold atV; rw [if_pos ⟨c1, by omega⟩, if_neg (by omega), if_neg (by omega), if_pos rfl]
    have tu : atV f 1 (wr (0 - k)) = blowV f.p f.n f.back (wr (0 - k)) := by unfold atV; rw [if_pos ⟨c1, by rw [hn]; omega⟩, if_pos rfl]
    have a1 : atV (turned f) 2 k = atV f 1 k := by
      rw [on]
      unfold atV
      rw [if_pos ⟨c1', by omega⟩, if_neg (by omega), if_pos rfl]
      show blowV f.p f.n (!(!f.back)) k = _
      rw [Bool.not_not]
    have a2 : atV (turned f) 1 k = atV f 2 k := by
      rw [rev]
      unfold atV
      rw [if_pos ⟨c1', by omega⟩, if_pos rfl]
      rfl
    have rt : atV f 2 k = turnV (atV f 1 (wr (0 - k))) := by
      rw [rev, tu]
      cases f.back with
      | false => rfl
      | true =>
        show pressV f.p f.n k = turnV (turnV (pressV f.p f.n (wr (0 - wr (0 - k)))))
        rw [wr_neg2 (by omega) (by omega), turn_turn (press_rg okp k)]
    rw [a1, a2, ← rt, eqS_refl, eqS_refl, any, on, rev]
    dsimp only
    generalize blowV f.p f.n f.back k = s, blowV f.p f.n (!f.back) k = t
    refine kt (decide_eq_true ?_) (kt (decide_eq_true ?_) rfl)
    · unfold anyV minI; dsimp only; repeat' split
      all_goals omega
    · unfold anyV maxI; dsimp only; repeat' split
      all_goals omega
  · exact kt (by simp [c0]) rfl
open Go.ChangeShapes Go.WideShapes Go.ChangeAt Go.RowKit Go.Deep Go.Joins
theorem turns_calls (n : Nat) (b : Nat → Int) (flow : Int) {w : World} {vs : Array Value} (hl : vs.size = 2)
    (hv : ∀ j, j < 2 → ∀ (M : Nat → Prop) (σ : Nat → Value) (V : Nat → Option Nat), (∀ g, ¬ M g) → VR w M σ V ([AV.slc 1 n (bytesF b), .int .i64 flow].getD j .undef) (vs.getD j undef)) : Calls Try.prog 7 vs w fun e w' => e = .returned (.bool true) ∧ Below w.heap.size w w' :=
  law_calls (E := envT) rfl envT_ok (fun _ => rfl) Try.func7 (turns_eq n b flow) hl hv
end Go.Proofs.Ytombbbbgkjapcaa.Ab
