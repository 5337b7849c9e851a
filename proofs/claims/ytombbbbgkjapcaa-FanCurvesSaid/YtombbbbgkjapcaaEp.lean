/- Stage 7, the law FanPoints, by the plain evaluator. -/
import Derived.Test.YtombbbbgkjapcaaEm
namespace Go.Proofs.Ytombbbbgkjapcaa.Ab
open Go

noncomputable def ccG (cs : List AV) (x : Int) : Option (Int × Int) := theOne fun s => ∃ f, cs = fanL f ∧ s = curveV f x
theorem ccG_eq (f : Fn7) (x : Int) : ccG (fanL f) x = some (curveV f x) := theOne_eq ⟨f, rfl, rfl⟩ fun z ⟨f', h1, h2⟩ => by rw [h2, fanL_inj h1]
def wideP (p q : Int × Int) : Int := wr (wr (q.1 - p.1) + 1)
theorem run_points (n : Nat) (F : Nat → List AV) (at_ part : Int) : arun envT Try.f8 [.slc 1 n F, .int .i64 at_, .int .u8 part] [] =
    match madeG n F 0 0 with
    | some f => (match ckG ck2 (madeL f) with
      | some r => (match r != 0 with
        | true => some (.bool true, [])
        | false => match decide (0 ≤ modV at_ f.n ∧ modV at_ f.n < f.n) with
          | true => (match ccG (madeL f) (f.p (modV at_ f.n).toNat).1 with
            | some s => (match !(eqS s ((f.p (modV at_ f.n).toNat).2, (f.p (modV at_ f.n).toNat).2)) with
              | true => some (.bool false, [])
              | false => match wr (modV at_ f.n + 1) == (f.n : Int) with
                | true => some (.bool true, [])
                | false => match decide (0 ≤ wr (modV at_ f.n + 1) ∧ wr (modV at_ f.n + 1) < f.n) with
                  | true => (match wideP (f.p (modV at_ f.n).toNat) (f.p (wr (modV at_ f.n + 1)).toNat) != 0 with
                    | true => (match ccG (madeL f) (wr ((f.p (modV at_ f.n).toNat).1 + (wr part).tmod (wideP (f.p (modV at_ f.n).toNat) (f.p (wr (modV at_ f.n + 1)).toNat)))) with
                      | some x => (match decide ((f.p (wr (modV at_ f.n + 1)).toNat).2 ≤ x.1) with
                        | true => (match decide (x.2 ≤ (f.p (modV at_ f.n).toNat).2) with
                          | true => (match decide (wr (x.2 - x.1) ≤ 1) with
                            | true => some (.bool true, [])
                            | false => some (.bool false, []))
                          | false => some (.bool false, []))
                        | false => some (.bool false, []))
                      | none => none)
                    | false => none)
                  | false => none)
            | none => none)
          | false => none)
      | none => none)
    | none => none := by kernel_rfl
attribute [local irreducible] arun
theorem up_all {p : Nat → Int × Int} {n : Nat} (ok : OkP p n) : ∀ (d i : Nat), 0 < d → i + d < n → (p i).1 < (p (i + d)).1 := by
  intro d
  induction d with
  | zero => intro i h; omega
  | succ d ih =>
    intro i _ h
    have h2 := (ok.dn (i + (d + 1)) (by omega) h).1
    have e : i + (d + 1) - 1 = i + d := by omega
    rw [e] at h2
    by_cases hd : d = 0
    · subst hd; exact h2
    · have := ih i (by omega) (by omega)
      omega
/-- The place of a flow behind the point j and up to the point j + 1. -/
theorem place_mid {p : Nat → Int × Int} {n : Nat} (ok : OkP p n) {j : Nat} {x : Int} (hj : j + 1 < n) (h1 : (p j).1 < x) (h2 : x ≤ (p (j + 1)).1) : placeV p n x = j + 1 := by
  have hle := place_le p n x
  rcases Nat.lt_trichotomy (placeV p n x) (j + 1) with h | h | h
  · have g := place_ge (p := p) (n := n) (x := x) (by omega)
    by_cases e : placeV p n x = j
    · rw [e] at g; omega
    · have := up_all ok (j - placeV p n x) (placeV p n x) (by omega) (by omega)
      rw [show placeV p n x + (j - placeV p n x) = j by omega] at this
      omega
  · exact h
  · have := place_lt h
    omega
theorem place_pt {p : Nat → Int × Int} {n : Nat} (ok : OkP p n) {j : Nat} (hj : j < n) : placeV p n (p j).1 = j := by
  by_cases h0 : j = 0
  · subst h0
    rcases Nat.eq_zero_or_pos (placeV p n (p 0).1) with h | h
    · exact h
    · have := place_lt h; omega
  · have e := place_mid ok (j := j - 1) (x := (p j).1) (by omega) (ok.dn j (by omega) hj).1 (by rw [show j - 1 + 1 = j by omega]; exact Int.le_refl _)
    omega
/-- A curve passes through its points. -/
theorem press_pt {p : Nat → Int × Int} {n : Nat} (ok : OkP p n) {j : Nat} (hj : j < n) : pressV p n (p j).1 = ((p j).2, (p j).2) := by
  have e := place_pt ok hj
  rcases press_at ok (p j).1 with ⟨e1, e2⟩ | ⟨e1, e2⟩ | ⟨g1, g2, q, r, sg, e2⟩
  · rw [e2, show j = 0 by omega]
  · omega
  · rw [e] at sg e2 g1
    rw [e2]
    have h1 := sg.eq
    have h2 := sg.rl
    have h3 := sg.r0
    have h4 := sg.lo
    have dn := ok.dn j g1 hj
    generalize (p (j - 1)).2 = a2, (p j).2 = b2, (p (j - 1)).1 = a1, (p j).1 = b1 at h1 h2 h3 h4 dn ⊢
    have hq : q = a2 - b2 := by
      rcases (show q < a2 - b2 ∨ q = a2 - b2 by omega) with hlt | he
      · have := Int.mul_le_mul_of_nonneg_left (show q + 1 ≤ a2 - b2 by omega) (show 0 ≤ b1 - a1 by omega)
        rw [Int.mul_add, Int.mul_one, Int.mul_comm (b1 - a1) (a2 - b2)] at this
        omega
      · exact he
    have hr : r = 0 := by
      rw [hq, Int.mul_comm] at h1
      omega
    rw [if_neg (by omega)]
    congr 1 <;> omega
theorem points_eq (n : Nat) (b : Nat → Int) (at_ part : Int) (hp : 0 ≤ part ∧ part ≤ 255) : arun envT Try.f8 [.slc 1 n (bytesF b), .int .i64 at_, .int .u8 part] [] = some (.bool true, []) := by
  obtain ⟨f, e1, ok⟩ := madeG_ex n b 0 0
  rw [run_points, e1]
  dsimp only
  rw [madeL_eq ok, ckG_eq]
  dsimp only
  by_cases c0 : ck2 f = 0
  · have c1 : ck1 f = 0 := (ck_same f).trans c0
    have okp := (ok_of c1).1
    have l1 := okp.lo
    have l2 := okp.hi
    refine kf (by simp [c0]) ?_
    have hm := modV_range (k := at_) (n := (f.n : Int)) (by omega) (by omega)
    generalize modV at_ f.n = j at hm ⊢
    obtain ⟨j, rfl⟩ : ∃ j' : Nat, j = (j' : Int) := ⟨j.toNat, by omega⟩
    have hj : j < f.n := by omega
    rw [ccG_eq, ccG_eq]
    dsimp only
    have ej : ((j : Int)).toNat = j := rfl
    rw [ej]
    have cv : ∀ x, curveV f x = pressV f.p f.n x := fun x => by unfold curveV; rw [if_pos c1]
    rw [cv, cv, press_pt okp hj, eqS_refl]
    have e3 : wr ((j : Int) + 1) = ((j + 1 : Nat) : Int) := by rw [wr_small (by omega) (by omega)]; omega
    rw [e3]
    have e4 : (((j + 1 : Nat) : Int)).toNat = j + 1 := rfl
    rw [e4]
    refine kt (decide_eq_true hm) ?_
    by_cases h5 : j + 1 = f.n
    · exact kt (by rw [h5]; simp) rfl
    refine kf (by simp; omega) (kt (decide_eq_true ⟨by omega, by omega⟩) ?_)
    have ra := okp.rg j hj
    have rb := okp.rg (j + 1) (by omega)
    have dn := okp.dn (j + 1) (by omega) (by omega)
    rw [show j + 1 - 1 = j by omega] at dn
    have hw : wideP (f.p j) (f.p (j + 1)) = (f.p (j + 1)).1 - (f.p j).1 + 1 := by
      unfold wideP wr
      rw [IntKind.wrap_i64, IntKind.wrap_i64]
      omega
    rw [hw, wr_small (x := part) (by omega) (by omega)]
    have m0 : 0 ≤ part.tmod ((f.p (j + 1)).1 - (f.p j).1 + 1) := Int.tmod_nonneg _ hp.1
    have m1 : part.tmod ((f.p (j + 1)).1 - (f.p j).1 + 1) < (f.p (j + 1)).1 - (f.p j).1 + 1 := Int.tmod_lt_of_pos _ (by omega)
    generalize part.tmod ((f.p (j + 1)).1 - (f.p j).1 + 1) = m at m0 m1 ⊢
    have e6 : wr ((f.p j).1 + m) = (f.p j).1 + m := by unfold wr; rw [IntKind.wrap_i64]; omega
    rw [e6]
    refine kt (by simp; omega) ?_
    have hin := press_in okp ((f.p j).1 + m)
    have key : (f.p (j + 1)).2 ≤ (pressV f.p f.n ((f.p j).1 + m)).1 ∧ (pressV f.p f.n ((f.p j).1 + m)).2 ≤ (f.p j).2 := by
      by_cases hm0 : m = 0
      · subst hm0
        rw [Int.add_zero, press_pt okp hj]
        exact ⟨dn.2, Int.le_refl _⟩
      · have pl := place_mid okp (j := j) (x := (f.p j).1 + m) (by omega) (by omega) (by omega)
        rw [pl] at hin
        exact ⟨hin.2.2.2.2.1 (by omega), by have := hin.2.2.2.2.2 (by omega); rw [show j + 1 - 1 = j by omega] at this; exact this⟩
    generalize pressV f.p f.n ((f.p j).1 + m) = s at hin key ⊢
    have e7 : wr (s.2 - s.1) = s.2 - s.1 := by unfold wr; rw [IntKind.wrap_i64]; omega
    rw [e7]
    exact kt (decide_eq_true key.1) (kt (decide_eq_true key.2) (kt (decide_eq_true (by omega)) rfl))
  · exact kt (by simp [c0]) rfl
open Go.ChangeShapes Go.WideShapes Go.ChangeAt Go.RowKit Go.Deep Go.Joins
theorem points_calls (n : Nat) (b : Nat → Int) (at_ part : Int) (hp : 0 ≤ part ∧ part ≤ 255) {w : World} {vs : Array Value} (hl : vs.size = 3)
    (hv : ∀ j, j < 3 → ∀ (M : Nat → Prop) (σ : Nat → Value) (V : Nat → Option Nat), (∀ g, ¬ M g) → VR w M σ V ([AV.slc 1 n (bytesF b), .int .i64 at_, .int .u8 part].getD j .undef) (vs.getD j undef)) : Calls Try.prog 8 vs w fun e w' => e = .returned (.bool true) ∧ Below w.heap.size w w' :=
  law_calls (E := envT) rfl envT_ok (fun _ => rfl) Try.func8 (points_eq n b at_ part hp) hl hv
end Go.Proofs.Ytombbbbgkjapcaa.Ab
