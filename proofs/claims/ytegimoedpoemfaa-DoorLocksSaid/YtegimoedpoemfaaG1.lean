/- Stage 8, drawing a door, by the plain evaluator. -/
import Derived.Test.YtegimoedpoemfaaE4
namespace Go.Proofs.Ytegimoedpoemfaa.Ab
open Go

def intsF (q : Nat → Int) (k : Nat) : List AV := [.int .i64 (q k)]
noncomputable def bD : Code := loopOf 3 Try.f26
def hpD (n : Nat) (F : Nat → List AV) (a r : Int) (k : Nat) (G : Nat → List AV) : List (Nat × Blk) :=
  [(0, .var [.slc 1 n F, .int .i64 a]), (1, .var [.int .i64 0, .int .i64 0, .own 2 0]), (2, .nilrow 0), (257, .row 0 1 k 3 G), (321, .nilrow 0), (385, .var [.int .i64 r, .int .i64 (-1), .own 257 0]), (386, .nilrow 0)]
def sD (n : Nat) (F : Nat → List AV) (a r : Int) (k : Nat) (G : Nat → List AV) (cnt : Int) : St := ⟨[(0, .ptr 0 0), (4, .ptr 1 0), (5, .ptr 385 0), (6, .int .i64 cnt)], hpD n F a r k G, 705⟩
def xD (n : Nat) (F : Nat → List AV) (a r : Int) (k : Nat) (G : Nat → List AV) : St := ⟨[(4, .ptr 1 0), (5, .ptr 385 0)], hpD n F a r k G, 705⟩
def maxZ (q : Int) : Int := if 0 < q then q else 0
/-- A number more. -/
def moreD (q : Nat → Int) (k : Nat) (x : Int × Int) (j : Nat) : Int := if j < k then q j else maxZ (wr (q (wr ((k : Int) - 1)).toNat - x.1))
theorem rowC_1 (u : AV) (m : Nat) : rowC 1 1 [u] m = [u] := by
  unfold rowC
  cases h : Nat.blt m 1 with
  | true =>
    have : m < 1 := Nat.le_of_ble_eq_true h
    obtain rfl : m = 0 := by omega
    rfl
  | false => rfl
/-- How the numbers are drawn. -/
inductive GoD (n : Nat) (F : Nat → List AV) : Int → Nat → (Nat → Int) → Int → Nat × (Nat → Int) × Int → Prop
  | stop {a k q cnt} : cnt ≤ 0 → GoD n F a k q cnt (k, q, a)
  | step {a k q cnt x r} : 0 < cnt → cnt ≤ 10 → 1 ≤ k → k ≤ 10 → rangeG n F a 1 60 = some x → GoD n F x.2 (k + 1) (moreD q k x) (cnt - 1) r → GoD n F a k q cnt r
noncomputable def gD (s : St) : Option ((Nat × (Nat → Int) × Int) ⊕ (Nat × (Nat → Int) × Int)) :=
  theOne fun z => ∃ n F a r q cnt x, s = sD n F a r 1 (intsF q) cnt ∧ GoD n F a 1 q cnt x ∧ z = .inl x ∧ (1 ≤ x.1 ∧ x.1 ≤ 8 ∧ 0 ≤ x.2.2 ∧ x.2.2 ≤ 300)
def stD (h : List (Nat × Blk)) (x : Nat × (Nat → Int) × Int) : St := match h with
  | (_, .var [.slc _ n F, _]) :: _ :: _ :: _ :: _ :: (_, .var [.int _ r, _, _]) :: _ => xD n F x.2.2 r x.1 (intsF x.2.1)
  | _ => ⟨[], [], 0⟩
noncomputable def loopD (s : St) : Option LRes := some ⟨_, _, gD s, .exit 0, stD s.hp, .exit 0, stD s.hp⟩
noncomputable def envD0 : Env := { envS (fun f => match f with | 34 => range? | _ => fun _ _ => none) (fun r => match r with | 3 => some ([0, 4, 5, 6], [4, 5]) | _ => none) with loops := fun r => match r with | 3 => some loopD | _ => none }
noncomputable def eD : Env := { envD0 with nt := 36 }
noncomputable def lD {R : Type} (N : Nat) (s : St) (K : AX → St → Option R) : Option R := aloop (fun s j => aexec eD bD s j) (headOf eD bD 705) (exitOf eD bD 705) N s K
theorem roundD {R : Type} (n : Nat) (F : Nat → List AV) (a r : Int) (k : Nat) (q : Nat → Int) (cnt : Int) (N : Nat) (K : AX → St → Option R) :
    lD (N + 1) (sD n F a r k (intsF q) cnt) K =
    match decide (cnt > 0) with
    | true => (match decide (0 ≤ wr ((k : Int) - 1) ∧ wr ((k : Int) - 1) < k) with
      | true => (match rangeG n F a 1 60 with
        | some x => (match decide ((k + 1) * 8 ≤ 140737488355328 ∧ k + 1 ≤ 1099511627776) with
          | true => lD N (sD n F x.2 r (k + 1) (fun j => if j < k then intsF q j else rowC 1 1 [.int .i64 (maxZ (wr (q (wr ((k : Int) - 1)).toNat - x.1)))] (j - k)) (wr (cnt - 1))) K
          | false => none)
        | none => none)
      | false => none)
    | false => K (.exit 0) (xD n F a r k (intsF q)) := by kernel_rfl
theorem envD0_ok : ∀ f, Tells Try.prog f (envD0.fs f) := by
  intro f
  by_cases h2 : f = 34
  · subst h2; exact tells_range
  have : envD0.fs f = fun _ _ => none := by
    show (match f with | 34 => range? | _ => fun _ _ => none) = _
    split
    · exact absurd rfl h2
    · rfl
  rw [this]
  exact Tells.none_ f
theorem moreD_eq (q : Nat → Int) (k : Nat) (x : Int × Int) : (fun j => if j < k then intsF q j else rowC 1 1 [.int .i64 (maxZ (wr (q (wr ((k : Int) - 1)).toNat - x.1)))] (j - k)) = intsF (moreD q k x) := by
  funext j
  rw [rowC_1]
  unfold intsF moreD
  split <;> rfl
theorem goD_run {n : Nat} {F : Nat → List AV} {a : Int} {k : Nat} {q : Nat → Int} {cnt : Int} {x : Nat × (Nat → Int) × Int} (h : GoD n F a k q cnt x) (r : Int) :
    ∃ N, ∀ {R : Type} (K : AX → St → Option R), lD N (sD n F a r k (intsF q) cnt) K = K (.exit 0) (xD n F x.2.2 r x.1 (intsF x.2.1)) := by
  induction h with
  | stop h =>
    refine ⟨1, fun K => ?_⟩
    rw [roundD]
    exact kf (decide_eq_false (by omega)) rfl
  | step h1 h2 h3 h4 h5 _ ih =>
    obtain ⟨N, hN⟩ := ih
    refine ⟨N + 1, fun K => ?_⟩
    rw [roundD, h5]
    dsimp only
    refine kt (decide_eq_true h1) (kt (decide_eq_true ?_) (kt (decide_eq_true ?_) ?_))
    · rw [wr_small (by omega) (by omega)]; omega
    · omega
    · rw [moreD_eq, wr_small (by omega) (by omega)]
      exact hN K
theorem goD_ex (n : Nat) (b : Nat → Int) (hn : n ≤ 300) : ∀ (r : Nat) (a : Int) (k : Nat) (q : Nat → Int) (cnt : Int), 0 ≤ a → a ≤ 300 → 1 ≤ k → k + r ≤ 8 → cnt ≤ r →
    ∃ x, GoD n (bytesF b) a k q cnt x ∧ (1 ≤ x.1 ∧ x.1 ≤ 8 ∧ 0 ≤ x.2.2 ∧ x.2.2 ≤ 300) := by
  intro r
  induction r with
  | zero => intro a k q cnt h0 h1 h2 h3 h4; exact ⟨_, .stop (by omega), h2, by dsimp only; omega, h0, h1⟩
  | succ r ih =>
    intro a k q cnt h0 h1 h2 h3 h4
    by_cases hc : 0 < cnt
    · obtain ⟨v, a1, e1, q1, q2⟩ := rangeG_ex n b a 1 60 hn h0 h1
      obtain ⟨x, g1, g2⟩ := ih a1 (k + 1) (moreD q k (v, a1)) (cnt - 1) q1 q2 (by omega) (by omega) (by omega)
      exact ⟨x, .step hc (by omega) h2 (by omega) e1 g1, g2⟩
    · exact ⟨_, .stop (by omega), h2, by dsimp only; omega, h0, h1⟩
theorem ltD : LoopTells eD bD loopD := by
  intro s r z hr hz
  injection hr with hr
  subst hr
  obtain ⟨n, F, a, r, q, cnt, x, rfl, h1, rfl, _⟩ := theOne_spec (show theOne _ = some z from hz)
  obtain ⟨N, hN⟩ := goD_run h1 r
  exact ⟨N, fun k => hN k⟩
theorem run_door (n : Nat) (F : Nat → List AV) (a r : Int) : arun envD0 Try.f26 [.ptr 0 0, .int .i64 r] [.var [.slc 1 n F, .int .i64 a]] =
    match rangeG n F a 200 900 with
    | some x => (match rangeG n F x.2 1 3 with
      | some z => (match gD (sD n F z.2 r 1 (rowC 1 1 [.int .i64 x.1]) z.1) with
        | some (.inl y) => some (.agg [.int .i64 r, .int .i64 (-1), .own 1 0], [.var [.slc 1 n F, .int .i64 y.2.2], .row 0 1 y.1 3 (intsF y.2.1)])
        | some (.inr y) => some (.agg [.int .i64 r, .int .i64 (-1), .own 1 0], [.var [.slc 1 n F, .int .i64 y.2.2], .row 0 1 y.1 3 (intsF y.2.1)])
        | none => none)
      | none => none)
    | none => none := by kernel_rfl
attribute [local irreducible] arun
theorem door_ex (n : Nat) (b : Nat → Int) (a r : Int) (hn : n ≤ 300) (h0 : 0 ≤ a) (h1 : a ≤ 300) : ∃ x : Nat × (Nat → Int) × Int, (1 ≤ x.1 ∧ x.1 ≤ 8 ∧ 0 ≤ x.2.2 ∧ x.2.2 ≤ 300) ∧
    arun envD0 Try.f26 [.ptr 0 0, .int .i64 r] [.var [.slc 1 n (bytesF b), .int .i64 a]] = some (.agg [.int .i64 r, .int .i64 (-1), .own 1 0], [.var [.slc 1 n (bytesF b), .int .i64 x.2.2], .row 0 1 x.1 3 (intsF x.2.1)]) := by
  obtain ⟨v1, a1, e1, q1, q2⟩ := rangeG_ex n b a 200 900 hn h0 h1
  obtain ⟨v2, a2, e2, q3, q4, q5⟩ := rangeG_ex2 n b a1 1 3 hn q1 q2
  obtain ⟨x, g1, g2⟩ := goD_ex n b hn 7 a2 1 (fun _ => v1) v2 q3 q4 (by omega) (by omega) (by have := q5 (by omega) (by omega) (by omega); omega)
  have hs : sD n (bytesF b) a2 r 1 (rowC 1 1 [.int .i64 v1]) v2 = sD n (bytesF b) a2 r 1 (intsF fun _ => v1) v2 := by
    rw [show rowC 1 1 [AV.int .i64 v1] = intsF (fun _ => v1) from funext fun m => rowC_1 _ m]
  obtain ⟨z, hz, _, _, _, _, _, _, y, _, _, rfl, hy⟩ := theOne_some (p := fun z => ∃ n' F a r' q cnt x, sD n (bytesF b) a2 r 1 (rowC 1 1 [.int .i64 v1]) v2 = sD n' F a r' 1 (intsF q) cnt ∧ GoD n' F a 1 q cnt x ∧ z = Sum.inl (β := Nat × (Nat → Int) × Int) x ∧ (1 ≤ x.1 ∧ x.1 ≤ 8 ∧ 0 ≤ x.2.2 ∧ x.2.2 ≤ 300)) ⟨.inl x, n, bytesF b, a2, r, _, v2, x, hs, g1, rfl, g2⟩
  refine ⟨y, hy, ?_⟩
  rw [run_door, e1]
  dsimp only
  rw [e2]
  dsimp only
  rw [show gD (sD n (bytesF b) a2 r 1 (rowC 1 1 [.int .i64 v1]) v2) = some (.inl y) from hz]
noncomputable def doorG (n : Nat) (F : Nat → List AV) (a r : Int) : Option (Nat × (Nat → Int) × Int) :=
  theOne fun x => (1 ≤ x.1 ∧ x.1 ≤ 8 ∧ 0 ≤ x.2.2 ∧ x.2.2 ≤ 300) ∧ arun envD0 Try.f26 [.ptr 0 0, .int .i64 r] [.var [.slc 1 n F, .int .i64 a]] = some (.agg [.int .i64 r, .int .i64 (-1), .own 1 0], [.var [.slc 1 n F, .int .i64 x.2.2], .row 0 1 x.1 3 (intsF x.2.1)])
noncomputable def door? : List AV → List Blk → Option Ans
  | [.ptr 0 0, .int .i64 r], [.var [.slc 1 n F, .int .i64 a]] => some ⟨⟨_, doorG n F a r, fun _ => .agg [.int .i64 r, .int .i64 (-1), .own 1 0], fun x => [.var [.slc 1 n F, .int .i64 x.2.2], .row 0 1 x.1 3 (intsF x.2.1)]⟩, fun _ => false, fun _ h => by cases h⟩
  | _, _ => none
theorem tells_door : Tells Try.prog 26 door? := by
  refine tells_run (E := envD0) rfl Try.pok envD0_ok Try.func26 (fun c hc => ?_) fun xs ins r x h hx => ?_
  · refine loops_of c fun c' hc' f hf => ?_
    have hb : loopsOf c = [bD] := by
      have : Try.f26.body.map loopsOf = some [bD] := by kernel_rfl
      rw [hc] at this
      injection this
    rw [hb] at hc'
    obtain rfl := List.mem_singleton.1 hc'
    have h6 : firstReg bD = 3 := by kernel_rfl
    rw [h6] at hf
    injection hf with hf
    subst hf
    exact ltD
  · unfold door? at h
    split at h
    · injection h with h
      subst h
      exact (theOne_spec (show theOne _ = some x from hx)).2
    · cases h
theorem doorG_ex (n : Nat) (b : Nat → Int) (a r : Int) (hn : n ≤ 300) (h0 : 0 ≤ a) (h1 : a ≤ 300) : ∃ k q a', doorG n (bytesF b) a r = some (k, q, a') ∧ 1 ≤ k ∧ k ≤ 8 ∧ 0 ≤ a' ∧ a' ≤ 300 := by
  obtain ⟨⟨k, q, a'⟩, h, h2, _⟩ := theOne_some (door_ex n b a r hn h0 h1)
  exact ⟨k, q, a', h, h2⟩

noncomputable def envDD : Env := envS fun f => match f with | 26 => door? | _ => fun _ _ => none
theorem envDD_ok : ∀ f, Tells Try.prog f (envDD.fs f) := by
  intro f
  by_cases h2 : f = 26
  · subst h2; exact tells_door
  have : envDD.fs f = fun _ _ => none := by
    unfold envDD envS
    dsimp only
    split
    · exact absurd rfl h2
    · rfl
  rw [this]
  exact Tells.none_ f
end Go.Proofs.Ytegimoedpoemfaa.Ab
