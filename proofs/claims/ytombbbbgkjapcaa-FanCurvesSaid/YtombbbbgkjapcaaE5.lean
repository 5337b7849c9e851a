/- Stage 7, drawing a curve, by the plain evaluator. -/
import Derived.Test.YtombbbbgkjapcaaE4
namespace Go.Proofs.Ytombbbbgkjapcaa.Ab
open Go

noncomputable def bC : Code := loopOf 3 Try.f21
def hpC (n : Nat) (F : Nat → List AV) (a : Int) (k : Nat) (G : Nat → List AV) : List (Nat × Blk) := [(0, .var [.slc 1 n F, .int .i64 a]), (1, .nilrow 0), (385, .row 0 2 k 42 G)]
def sC (n : Nat) (F : Nat → List AV) (a : Int) (k : Nat) (G : Nat → List AV) (cnt : Int) : St := ⟨[(0, .ptr 0 0), (3, .own 385 0), (4, .int .i64 cnt)], hpC n F a k G, 705⟩
def xC (n : Nat) (F : Nat → List AV) (a : Int) (k : Nat) (G : Nat → List AV) : St := ⟨[(3, .own 385 0)], hpC n F a k G, 705⟩
def maxV (q : Int) : Int := if 0 < q then q else 0
/-- A point more. -/
def more7 (p : Nat → Int × Int) (k : Nat) (x y : Int × Int) (j : Nat) : Int × Int := if j < k then p j else (wr ((p (wr ((k : Int) - 1)).toNat).1 + x.1), maxV (wr ((p (wr ((k : Int) - 1)).toNat).2 - y.1)))
theorem rowC_one (u v : AV) (m : Nat) : rowC 2 1 [u, v] m = [u, v] := by
  unfold rowC
  cases h : Nat.blt m 1 with
  | true =>
    have : m < 1 := Nat.le_of_ble_eq_true h
    obtain rfl : m = 0 := by omega
    rfl
  | false => rfl
/-- How a curve is drawn. -/
inductive GoC (n : Nat) (F : Nat → List AV) : Int → Nat → (Nat → Int × Int) → Int → Nat × (Nat → Int × Int) × Int → Prop
  | stop {a k p cnt} : cnt ≤ 0 → GoC n F a k p cnt (k, p, a)
  | step {a k p cnt x y r} : 0 < cnt → cnt ≤ 10 → 1 ≤ k → k ≤ 10 → rangeG n F a 1 40 = some x → nextG n F x.2 900 = some y → GoC n F y.2 (k + 1) (more7 p k x y) (cnt - 1) r → GoC n F a k p cnt r
noncomputable def gC (s : St) : Option ((Nat × (Nat → Int × Int) × Int) ⊕ (Nat × (Nat → Int × Int) × Int)) :=
  theOne fun z => ∃ n F a p cnt x, s = sC n F a 1 (ptsF p) cnt ∧ GoC n F a 1 p cnt x ∧ z = .inl x ∧ (1 ≤ x.1 ∧ x.1 ≤ 4 ∧ 0 ≤ x.2.2 ∧ x.2.2 ≤ 300)
def stC (h : List (Nat × Blk)) (x : Nat × (Nat → Int × Int) × Int) : St := match h with
  | [(_, .var [.slc _ n F, _]), _, _] => xC n F x.2.2 x.1 (ptsF x.2.1)
  | _ => ⟨[], [], 0⟩
noncomputable def loopC (s : St) : Option LRes := some ⟨_, _, gC s, .exit 0, stC s.hp, .exit 0, stC s.hp⟩
noncomputable def envC0 : Env := { envS (fun f => match f with | 19 => next? | 28 => range? | _ => fun _ _ => none) (fun r => match r with | 3 => some ([0, 3, 4], [3]) | _ => none) with loops := fun r => match r with | 3 => some loopC | _ => none }
noncomputable def eC : Env := { envC0 with nt := 40 }
noncomputable def lC {R : Type} (N : Nat) (s : St) (K : AX → St → Option R) : Option R := aloop (fun s j => aexec eC bC s j) (headOf eC bC 705) (exitOf eC bC 705) N s K
theorem roundC {R : Type} (n : Nat) (F : Nat → List AV) (a : Int) (k : Nat) (p : Nat → Int × Int) (cnt : Int) (N : Nat) (K : AX → St → Option R) :
    lC (N + 1) (sC n F a k (ptsF p) cnt) K =
    match decide (cnt > 0) with
    | true => (match decide (0 ≤ wr ((k : Int) - 1) ∧ wr ((k : Int) - 1) < k) with
      | true => (match rangeG n F a 1 40 with
        | some x => (match nextG n F x.2 900 with
          | some y => (match decide ((k + 1) * 16 ≤ 140737488355328 ∧ k + 1 ≤ 1099511627776) with
            | true => lC N (sC n F y.2 (k + 1) (fun j => if j < k then ptsF p j else rowC 2 1 [.int .i64 (wr ((p (wr ((k : Int) - 1)).toNat).1 + x.1)), .int .i64 (maxV (wr ((p (wr ((k : Int) - 1)).toNat).2 - y.1)))] (j - k)) (wr (cnt - 1))) K
            | false => none)
          | none => none)
        | none => none)
      | false => none)
    | false => K (.exit 0) (xC n F a k (ptsF p)) := by kernel_rfl
theorem envC0_ok : ∀ f, Tells Try.prog f (envC0.fs f) := by
  intro f
  by_cases h1 : f = 19
  · subst h1; exact tells_next
  by_cases h2 : f = 28
  · subst h2; exact tells_range
  have : envC0.fs f = fun _ _ => none := by
    show (match f with | 19 => next? | 28 => range? | _ => fun _ _ => none) = _
    split
    · exact absurd rfl h1
    · exact absurd rfl h2
    · rfl
  rw [this]
  exact Tells.none_ f
theorem more7_eq (p : Nat → Int × Int) (k : Nat) (x y : Int × Int) : (fun j => if j < k then ptsF p j else rowC 2 1 [.int .i64 (wr ((p (wr ((k : Int) - 1)).toNat).1 + x.1)), .int .i64 (maxV (wr ((p (wr ((k : Int) - 1)).toNat).2 - y.1)))] (j - k)) = ptsF (more7 p k x y) := by
  funext j
  rw [rowC_one]
  unfold ptsF more7
  split <;> rfl
theorem go_run {n : Nat} {F : Nat → List AV} {a : Int} {k : Nat} {p : Nat → Int × Int} {cnt : Int} {r : Nat × (Nat → Int × Int) × Int} (h : GoC n F a k p cnt r) :
    ∃ N, ∀ {R : Type} (K : AX → St → Option R), lC N (sC n F a k (ptsF p) cnt) K = K (.exit 0) (xC n F r.2.2 r.1 (ptsF r.2.1)) := by
  induction h with
  | stop h =>
    refine ⟨1, fun K => ?_⟩
    rw [roundC]
    exact kf (decide_eq_false (by omega)) rfl
  | step h1 h2 h3 h4 h5 h6 _ ih =>
    obtain ⟨N, hN⟩ := ih
    refine ⟨N + 1, fun K => ?_⟩
    rw [roundC, h5]
    dsimp only
    rw [h6]
    dsimp only
    refine kt (decide_eq_true h1) (kt (decide_eq_true ?_) (kt (decide_eq_true ?_) ?_))
    · rw [wr_small (by omega) (by omega)]; omega
    · omega
    · rw [more7_eq, wr_small (by omega) (by omega)]
      exact hN K
theorem go_ex (n : Nat) (b : Nat → Int) (hn : n ≤ 300) : ∀ (r : Nat) (a : Int) (k : Nat) (p : Nat → Int × Int) (cnt : Int), 0 ≤ a → a ≤ 300 → 1 ≤ k → k + r ≤ 4 → cnt ≤ r →
    ∃ x, GoC n (bytesF b) a k p cnt x ∧ (1 ≤ x.1 ∧ x.1 ≤ 4 ∧ 0 ≤ x.2.2 ∧ x.2.2 ≤ 300) := by
  intro r
  induction r with
  | zero => intro a k p cnt h0 h1 h2 h3 h4; exact ⟨_, .stop (by omega), h2, by dsimp only; omega, h0, h1⟩
  | succ r ih =>
    intro a k p cnt h0 h1 h2 h3 h4
    by_cases hc : 0 < cnt
    · obtain ⟨v, a1, e1, q1, q2⟩ := rangeG_ex n b a 1 40 hn h0 h1
      obtain ⟨u, a2, e2, q3⟩ := nextG_ex n b a1 900 hn q1 q2
      obtain ⟨x, g1, g2⟩ := ih a2 (k + 1) (more7 p k (v, a1) (u, a2)) (cnt - 1) q3.lo q3.hi (by omega) (by omega) (by omega)
      exact ⟨x, .step hc (by omega) h2 (by omega) e1 e2 g1, g2⟩
    · exact ⟨_, .stop (by omega), h2, by dsimp only; omega, h0, h1⟩
theorem ltC : LoopTells eC bC loopC := by
  intro s r z hr hz
  injection hr with hr
  subst hr
  obtain ⟨n, F, a, p, cnt, x, rfl, h1, rfl, _⟩ := theOne_spec (show theOne _ = some z from hz)
  obtain ⟨N, hN⟩ := go_run h1
  exact ⟨N, fun k => hN k⟩
def startC (n : Nat) (F : Nat → List AV) (a u v : Int) (cnt : Int) : St := sC n F a 1 (rowC 2 1 [.int .i64 u, .int .i64 v]) cnt
theorem run_curve (n : Nat) (F : Nat → List AV) (a : Int) : arun envC0 Try.f21 [.ptr 0 0] [.var [.slc 1 n F, .int .i64 a]] =
    match rangeG n F a (-20) 10 with
    | some x => (match rangeG n F x.2 500 3000 with
      | some y => (match nextG n F y.2 4 with
        | some z => (match gC (startC n F z.2 x.1 y.1 z.1) with
          | some (.inl r) => some (.own 1 0, [.var [.slc 1 n F, .int .i64 r.2.2], .row 0 2 r.1 42 (ptsF r.2.1)])
          | some (.inr r) => some (.own 1 0, [.var [.slc 1 n F, .int .i64 r.2.2], .row 0 2 r.1 42 (ptsF r.2.1)])
          | none => none)
        | none => none)
      | none => none)
    | none => none := by kernel_rfl
end Go.Proofs.Ytombbbbgkjapcaa.Ab
