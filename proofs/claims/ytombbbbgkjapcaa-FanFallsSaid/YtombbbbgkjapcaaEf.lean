/- Stage 7, the law FanFalls, by the plain evaluator. -/
import Derived.Test.YtombbbbgkjapcaaEm
namespace Go.Proofs.Ytombbbbgkjapcaa.Ab
open Go

def stV (state : Int) : Int := wr ((wr state).tmod 4 - 1)
theorem run_fallsL (n : Nat) (F : Nat → List AV) (flow more state : Int) : arun envT Try.f6 [.slc 1 n F, .int .i64 flow, .int .u8 more, .int .u8 state] [] =
    match madeG n F 0 0 with
    | some f => (match ckG ck2 (madeL f) with
      | some r => (match r != 0 with
        | true => some (.bool true, [])
        | false => match atG (madeL f) (stV state) (k200 flow) with
          | some x => (match atG (madeL f) (stV state) (wr (k200 flow + wr more)) with
            | some y => (match decide (x.1 ≤ x.2) with
              | true => (match decide (wr (x.2 - x.1) ≥ 0) with
                | true => (match decide (y.1 ≤ x.1) with
                  | true => (match decide (y.2 ≤ x.2) with
                    | true => some (.bool true, [])
                    | false => some (.bool false, []))
                  | false => some (.bool false, []))
                | false => some (.bool false, []))
              | false => some (.bool false, []))
            | none => none)
          | none => none)
      | none => none)
    | none => none := by kernel_rfl
attribute [local irreducible] arun
theorem neg_wr {x : Int} (h0 : -4398046511104 ≤ x) (h1 : x ≤ 4398046511104) : wr (0 - x) = -x := by unfold wr; rw [IntKind.wrap_i64]; omega
/-- What a fan that blows gives never rises, and is small. -/
theorem blow_mono {p : Nat → Int × Int} {n : Nat} (ok : OkP p n) (back : Bool) {x y : Int} (h0 : -1048577 ≤ x) (h : x ≤ y) (h1 : y ≤ 1048577) :
    (blowV p n back x).1 ≤ (blowV p n back x).2 ∧ (blowV p n back y).1 ≤ (blowV p n back x).1 ∧ (blowV p n back y).2 ≤ (blowV p n back x).2 ∧ -2199023255552 ≤ (blowV p n back x).1 ∧ (blowV p n back x).2 ≤ 2199023255552 := by
  cases back with
  | false =>
    have i := press_in ok x
    have m := press_mono ok h
    show (pressV p n x).1 ≤ (pressV p n x).2 ∧ (pressV p n y).1 ≤ (pressV p n x).1 ∧ (pressV p n y).2 ≤ (pressV p n x).2 ∧ -2199023255552 ≤ (pressV p n x).1 ∧ (pressV p n x).2 ≤ 2199023255552
    omega
  | true =>
    have ix := press_in ok (-x)
    have iy := press_in ok (-y)
    have m := press_mono ok (show -y ≤ -x by omega)
    show (turnV (pressV p n (wr (0 - x)))).1 ≤ (turnV (pressV p n (wr (0 - x)))).2 ∧ (turnV (pressV p n (wr (0 - y)))).1 ≤ (turnV (pressV p n (wr (0 - x)))).1 ∧ (turnV (pressV p n (wr (0 - y)))).2 ≤ (turnV (pressV p n (wr (0 - x)))).2 ∧ -2199023255552 ≤ (turnV (pressV p n (wr (0 - x)))).1 ∧ (turnV (pressV p n (wr (0 - x)))).2 ≤ 2199023255552
    rw [neg_wr (x := x) (by omega) (by omega), neg_wr (x := y) (by omega) (by omega)]
    unfold turnV
    dsimp only
    rw [neg_wr (by omega) (by omega), neg_wr (by omega) (by omega), neg_wr (by omega) (by omega), neg_wr (by omega) (by omega)]
    omega
theorem at_mono {f : Fn7} (c : ck1 f = 0) (st : Int) {x y : Int} (h0 : -1048577 ≤ x) (h : x ≤ y) (h1 : y ≤ 1048577) :
    (atV f st x).1 ≤ (atV f st x).2 ∧ (atV f st y).1 ≤ (atV f st x).1 ∧ (atV f st y).2 ≤ (atV f st x).2 ∧ -2199023255552 ≤ (atV f st x).1 ∧ (atV f st x).2 ≤ 2199023255552 := by
  have ok := (ok_of c).1
  have b1 := blow_mono ok f.back h0 h h1
  have b2 := blow_mono ok (!f.back) h0 h h1
  have ex : ∀ z : Int, -1048577 ≤ z → z ≤ 1048577 → atV f st z = if st = 1 then blowV f.p f.n f.back z else if st = 2 then blowV f.p f.n (!f.back) z else if st = -1 then anyV (blowV f.p f.n f.back z) (blowV f.p f.n (!f.back) z) else (0, 0) := fun z g0 g1 => by
    unfold atV; rw [if_pos ⟨c, g0, g1⟩]
  rw [ex x h0 (by omega), ex y (by omega) h1]
  by_cases c1 : st = 1
  · rw [if_pos c1, if_pos c1]; exact b1
  rw [if_neg c1, if_neg c1]
  by_cases c2 : st = 2
  · rw [if_pos c2, if_pos c2]; exact b2
  rw [if_neg c2, if_neg c2]
  by_cases c3 : st = -1
  · rw [if_pos c3, if_pos c3]
    generalize blowV f.p f.n f.back x = s1, blowV f.p f.n f.back y = s2, blowV f.p f.n (!f.back) x = t1, blowV f.p f.n (!f.back) y = t2 at b1 b2 ⊢
    unfold anyV minI maxI
    dsimp only
    refine ⟨?_, ?_, ?_, ?_, ?_⟩
    all_goals repeat' split
    all_goals omega
  · rw [if_neg c3, if_neg c3]
    exact ⟨by simp, by simp, by simp, by simp, by simp⟩
theorem falls_eq (n : Nat) (b : Nat → Int) (flow more state : Int) (hm : 0 ≤ more ∧ more ≤ 255) : arun envT Try.f6 [.slc 1 n (bytesF b), .int .i64 flow, .int .u8 more, .int .u8 state] [] = some (.bool true, []) := by
  obtain ⟨f, e1, ok⟩ := madeG_ex n b 0 0
  have hk := k200_rg flow
  rw [run_fallsL, e1]
  dsimp only
  rw [madeL_eq ok, ckG_eq]
  dsimp only
  by_cases c0 : ck2 f = 0
  · have c1 : ck1 f = 0 := (ck_same f).trans c0
    refine kf (by simp [c0]) ?_
    rw [atG_eq, atG_eq]
    dsimp only
    generalize k200 flow = k at hk ⊢
    have e2 : wr (k + wr more) = k + more := by rw [wr_small (x := more) (by omega) (by omega), wr_small (by omega) (by omega)]
    rw [e2]
    have m := at_mono c1 (stV state) (x := k) (y := k + more) (by omega) (by omega) (by omega)
    generalize atV f (stV state) k = s, atV f (stV state) (k + more) = t at m ⊢
    have e3 : wr (s.2 - s.1) = s.2 - s.1 := by unfold wr; rw [IntKind.wrap_i64]; omega
    rw [e3]
    exact kt (decide_eq_true (by omega)) (kt (decide_eq_true (by omega)) (kt (decide_eq_true (by omega)) (kt (decide_eq_true (by omega)) rfl)))
  · exact kt (by simp [c0]) rfl
open Go.ChangeShapes Go.WideShapes Go.ChangeAt Go.RowKit Go.Deep Go.Joins
theorem falls_calls (n : Nat) (b : Nat → Int) (flow more state : Int) (hm : 0 ≤ more ∧ more ≤ 255) {w : World} {vs : Array Value} (hl : vs.size = 4)
    (hv : ∀ j, j < 4 → ∀ (M : Nat → Prop) (σ : Nat → Value) (V : Nat → Option Nat), (∀ g, ¬ M g) → VR w M σ V ([AV.slc 1 n (bytesF b), .int .i64 flow, .int .u8 more, .int .u8 state].getD j .undef) (vs.getD j undef)) : Calls Try.prog 6 vs w fun e w' => e = .returned (.bool true) ∧ Below w.heap.size w w' :=
  law_calls (E := envT) rfl envT_ok (fun _ => rfl) Try.func6 (falls_eq n b flow more state hm) hl hv
end Go.Proofs.Ytombbbbgkjapcaa.Ab
