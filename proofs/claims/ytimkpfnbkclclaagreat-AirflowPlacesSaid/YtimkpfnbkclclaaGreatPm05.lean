/- A part of the proof, what is needed of it. -/
import Derived.Test.YtimkpfnbkclclaaGreatPm04
namespace Go.Proofs.YtimkpfnbkclclaaGreat.Ab
noncomputable section
open Go
def wr (x : Int) : Int := IntKind.i64.wrap x
structure Sq (α : Type) where
  n : Nat
  f : Nat → α
inductive DT (R : Type) : Type 1 where
  | fail
  | leaf (r : R)
  | ite (b : Bool) (x y : DT R)
  | bind {Z : Type} (o : Option Z) (k : Z → DT R)
  | sum {A B : Type} (o : Option (A ⊕ B)) (x : A → DT R) (y : B → DT R)
def DT.run {R X : Type} : DT R → (R → Option X) → Option X
  | .fail, _ => none
  | .leaf r, k => k r
  | .ite b x y, k => match b with
    | true => x.run k
    | false => y.run k
  | .bind o f, k => match o with
    | some z => (f z).run k
    | none => none
  | .sum o f g, k => match o with
    | some (.inl a) => (f a).run k
    | some (.inr b) => (g b).run k
    | none => none
def DT.get {R : Type} (t : DT R) : Option R := t.run some
theorem DT.run_get {R X : Type} (t : DT R) (k : R → Option X) : t.run k = match t.get with | some r => k r | none => none := by
  unfold DT.get
  induction t with
  | fail => rfl
  | leaf r => rfl
  | ite b x y ihx ihy => cases b with
    | true => exact ihx
    | false => exact ihy
  | bind o f ih => cases o with
    | none => rfl
    | some z => exact ih z
  | sum o f g ihf ihg => cases o with
    | none => rfl
    | some z => cases z with
      | inl a => exact ihf a
      | inr b => exact ihg b
@[simp] theorem DT.get_leaf {R : Type} (r : R) : (DT.leaf r).get = some r := rfl
theorem DT.get_ite {R : Type} (b : Bool) (x y : DT R) : (DT.ite b x y).get = if b = true then x.get else y.get := by cases b <;> rfl
@[simp] theorem DT.get_some {R Z : Type} (z : Z) (k : Z → DT R) : (DT.bind (some z) k).get = (k z).get := rfl
inductive LR (V A B : Type) where
  | next (v : V)
  | l (a : A)
  | r (b : B)
def LR.elim {V A B X : Type} (n : V → X) (l : A → X) (r : B → X) : LR V A B → X
  | .next v => n v
  | .l a => l a
  | .r b => r b
def dK {V A B : Type} (step : V → DT (LR V A B)) : Nat → V → Option (A ⊕ B)
  | 0, _ => none
  | n + 1, v => (step v).run fun
    | .next v' => dK step n v'
    | .l a => some (.inl a)
    | .r b => some (.inr b)
def fixO {V A B : Type} (step : V → DT (LR V A B)) (v : V) : Option (A ⊕ B) := bS fun z => ∃ n, dK step n v = some z
theorem iq {V A B : Type} {step : V → DT (LR V A B)} : ∀ {n m : Nat} {v : V} {z : A ⊕ B}, n ≤ m → dK step n v = some z → dK step m v = some z := by
  intro n
  induction n with
  | zero => intro m v z _ h; cases h
  | succ n ih =>
    intro m v z hm h
    cases m with
    | zero => omega
    | succ m =>
      unfold dK at h ⊢
      rw [DT.run_get] at h ⊢
      cases hg : (step v).get with
      | none => rw [hg] at h; cases h
      | some x =>
        rw [hg] at h
        cases x with
        | next v' => exact ih (by omega) h
        | l a => exact h
        | r b => exact h
theorem fV {V A B : Type} {step : V → DT (LR V A B)} {n : Nat} {v : V} {z : A ⊕ B} (h : dK step n v = some z) : fixO step v = some z :=
  gN ⟨n, h⟩ fun z' ⟨m, h'⟩ => by
    have h1 := iq (Nat.le_max_left n m) h
    have h2 := iq (Nat.le_max_right n m) h'
    rw [h1] at h2
    injection h2 with h2
    exact h2.symm
theorem fu {V A B : Type} {step : V → DT (LR V A B)} {v : V} {z : A ⊕ B} : fixO step v = some z ↔ ∃ n, dK step n v = some z :=
  ⟨fun h => dM (p := fun z => ∃ n, dK step n v = some z) h, fun ⟨_, h⟩ => fV h⟩
theorem lM {V A B : Type} (step : V → DT (LR V A B)) (v : V) : fixO step v = (step v).run fun
    | .next v' => fixO step v'
    | .l a => some (.inl a)
    | .r b => some (.inr b) := by
  rw [DT.run_get]
  cases hg : (step v).get with
  | none =>
    dsimp only
    cases hf : fixO step v with
    | none => rfl
    | some z =>
      obtain ⟨n, h⟩ := fu.1 hf
      cases n with
      | zero => cases h
      | succ n => unfold dK at h; rw [DT.run_get, hg] at h; cases h
  | some x =>
    cases x with
    | next v' =>
      dsimp only
      have h1 : ∀ z, fixO step v' = some z → fixO step v = some z := fun z hz => by
        obtain ⟨n, h⟩ := fu.1 hz
        exact fV (n := n + 1) (by unfold dK; rw [DT.run_get, hg]; exact h)
      cases hf : fixO step v' with
      | some z => exact h1 z hf
      | none =>
        cases hf2 : fixO step v with
        | none => rfl
        | some z =>
          obtain ⟨n, h⟩ := fu.1 hf2
          cases n with
          | zero => cases h
          | succ n =>
            unfold dK at h
            rw [DT.run_get, hg] at h
            rw [fV (n := n) h] at hf
            cases hf
    | l a => exact fV (n := 1) (by unfold dK; rw [DT.run_get, hg])
    | r b => exact fV (n := 1) (by unfold dK; rw [DT.run_get, hg])
def gOfS {Pm Z : Type} (s : Pm → St) (f : Pm → Option Z) (x : St) : Option Z := bS fun z => ∃ p, s p = x ∧ f p = some z
theorem oq {Pm Z : Type} {s : Pm → St} (hinj : ∀ p p', s p = s p' → p = p') (f : Pm → Option Z) (p : Pm) : gOfS s f (s p) = f p := by
  unfold gOfS
  cases hf : f p with
  | some z =>
    refine gN ⟨p, rfl, hf⟩ fun z' ⟨p', e, h⟩ => ?_
    rw [hinj _ _ e, hf] at h
    injection h with h
    exact h.symm
  | none =>
    unfold bS
    rw [dif_neg]
    rintro ⟨z, p', e, h⟩
    rw [hinj _ _ e, hf] at h
    cases h
def o7 {Pm A B : Type} (s : Pm → St) (f : Pm → Option (A ⊕ B)) (one : Bool) (axl : AX) (stl : St → A → St) (axr : AX) (str : St → B → St) (cs : (R : Type) → B → (B → Option R) → Option R) (hcs : ∀ R y κ, cs R y κ = κ y) (x : St) : Option LRes := some ⟨A, B, gOfS s f x, one, axl, stl x, axr, str x, fun R y κ => cs R y fun z => κ (str x z), fun R y _ => hcs R y _⟩
theorem jH {E : Env} {c : Code} {Fx V A B : Type} {s : Fx × V → St} {step : Fx → V → DT (LR V A B)} {one : Bool} {axl axr : AX} {stl : St → A → St} {str : St → B → St} {cs : (R : Type) → B → (B → Option R) → Option R} {hcs : ∀ R y κ, cs R y κ = κ y} {n : Nat}
    (hc : ∀ p, (s p).c = n) (hl : ∀ fx v v' a, stl (s (fx, v)) a = stl (s (fx, v')) a) (hr : ∀ fx v v' b, str (s (fx, v)) b = str (s (fx, v')) b)
    (round : ∀ {R : Type} fx v N (K : AX → St → Option R), eY (fun s j => aS E c s j) (aR E c n) (dP E c n) (N + 1) (s (fx, v)) K = (step fx v).run (LR.elim
      (fun v' => eY (fun s j => aS E c s j) (aR E c n) (dP E c n) N (s (fx, v')) K)
      (fun a => K axl (stl (s (fx, v)) a))
      (fun b => K axr (str (s (fx, v)) b)))) :
    aQ E c (o7 s (fun p => fixO (step p.1) p.2) one axl stl axr str cs hcs) := by
  intro x r z hx hz
  injection hx with hx
  subst hx
  obtain ⟨⟨fx, v⟩, rfl, hf⟩ := dM (show bS _ = some z from hz)
  obtain ⟨N, hN⟩ := fu.1 hf
  refine ⟨N, ?_⟩
  rw [hc]
  have key : ∀ {R : Type} (K : AX → St → Option R) N v' z, dK (step fx) N v' = some z → eY (fun s j => aS E c s j) (aR E c n) (dP E c n) N (s (fx, v')) K = match z with
      | .inl a => K axl (stl (s (fx, v)) a)
      | .inr b => K axr (str (s (fx, v)) b) := by
    intro R K N
    induction N with
    | zero => intro v' z h; cases h
    | succ N ih =>
      intro v' z h
      rw [round, DT.run_get]
      unfold dK at h
      rw [DT.run_get] at h
      cases hg : (step fx v').get with
      | none => rw [hg] at h; cases h
      | some y =>
        rw [hg] at h
        cases y with
        | next v2 => exact ih v2 z h
        | l a =>
          injection h with h
          subst h
          show K axl (stl (s (fx, v')) _) = _
          rw [hl fx v' v]
        | r b =>
          injection h with h
          subst h
          show K axr (str (s (fx, v')) _) = _
          rw [hr fx v' v]
  intro R K
  refine (key K N v z hN).trans ?_
  cases z <;> rfl
def gOfA {A R : Type} (enc : A → List AV × List Blk) (f : A → Option R) (xs : List AV) (ins : List Blk) : Option R := bS fun z => ∃ a, enc a = (xs, ins) ∧ f a = some z
theorem oo {A R : Type} {enc : A → List AV × List Blk} (hinj : ∀ a b, enc a = enc b → a = b) (f : A → Option R) : (fun a => gOfA enc f (enc a).1 (enc a).2) = f := by
  funext a
  unfold gOfA
  cases hf : f a with
  | some z =>
    refine gN ⟨a, rfl, hf⟩ fun z' ⟨a', e, h⟩ => ?_
    rw [hinj _ _ e, hf] at h
    injection h with h
    exact h.symm
  | none =>
    unfold bS
    rw [dif_neg]
    rintro ⟨z, a', e, h⟩
    rw [hinj _ _ e, hf] at h
    cases h
def told {A R : Type} (enc : A → List AV × List Blk) (f : A → Option R) (av : R → AV) (outs : List Blk → R → List Blk) (fl : Bool) (hfl : fl = true → ∀ ins z, AV.flat (av z) = true ∧ ∀ b ∈ outs ins z, b.flat) : List AV → List Blk → Option Ans :=
  fun xs ins => some ⟨⟨R, gOfA enc f xs ins, av, outs ins⟩, fun _ => fl, fun z h => hfl h ins z⟩
set_option maxRecDepth 100000 in
theorem kJ {E : Env} (hE : E.tt = ttOf Tryz.prog) (hfs : ∀ f, aI Tryz.prog f (E.fs f)) {fid : FuncId} {fn : Func} (hf : Tryz.prog.funcs[fid]? = some fn) (hl : ∀ c, fn.body = some c → aD { E with nt := fn.ntmps } c)
    {A R : Type} {enc : A → List AV × List Blk} {t : A → DT R} {av : R → AV} {outs : List Blk → R → List Blk} {fl : Bool} {hfl : fl = true → ∀ ins z, AV.flat (av z) = true ∧ ∀ b ∈ outs ins z, b.flat}
    (h : ∀ a, arun E fn (enc a).1 (enc a).2 = (t a).run fun r => some (av r, outs (enc a).2 r)) : aI Tryz.prog fid (told enc (fun a => (t a).get) av outs fl hfl) := by
  refine mD hE Tryz.pok hfs hf hl fun xs ins r x hr hx => ?_
  injection hr with hr
  subst hr
  obtain ⟨a, e, hx⟩ := dM (show bS _ = some x from hx)
  have hxs : xs = (enc a).1 := by rw [e]
  have hin : ins = (enc a).2 := by rw [e]
  subst hxs hin
  rw [h, DT.run_get]
  have hx : (t a).get = some x := hx
  rw [hx]
mutual
def skA : AV → List Nat
  | .int _ _ => [1]
  | .bool _ => [2]
  | .slc sz _ _ => [3, sz]
  | .own id ver => [4, id, ver]
  | .ptr id off => [5, id, off]
  | .fn f cs => 6 :: f :: cs.length :: skL cs
  | .agg cs => 7 :: cs.length :: skL cs
  | .str _ => [8]
  | .undef => [9]
  | .void => [9]
  | .nilp => [9]
  | .any1 => [9]
  | .raw _ => [9]
  | .tup _ => [9]
  | .rptr _ _ _ _ _ => [9]
  | .pptr _ _ => [9]
  | .lptr _ _ _ => [9]
def skL : List AV → List Nat
  | [] => []
  | x :: xs => skA x ++ skL xs
end
def skB : List Blk → List Nat
  | [] => []
  | .var cs :: bs => 10 :: cs.length :: (skL cs ++ skB bs)
  | .row _ sz _ _ _ :: bs => 11 :: sz :: skB bs
  | .nilrow _ :: bs => 12 :: skB bs
  | .lrow _ _ _ _ _ :: bs => 13 :: skB bs
  | .dead _ :: bs => 13 :: skB bs
def eqN : List Nat → List Nat → Bool
  | [], [] => true
  | x :: xs, y :: ys => match Nat.beq x y with
    | true => eqN xs ys
    | false => false
  | _, _ => false
def orC (l : List Nat) (c1 c2 : List AV → List Blk → Option Ans) : List AV → List Blk → Option Ans := fun xs ins => match eqN (skL xs ++ skB ins) l with
  | true => c1 xs ins
  | false => c2 xs ins
theorem pG {P : Program} {f : FuncId} {l : List Nat} {c1 c2 : List AV → List Blk → Option Ans} (h1 : aI P f c1) (h2 : aI P f c2) : aI P f (orC l c1 c2) := by
  intro xs ins r x hr hx
  unfold orC at hr
  cases hb : eqN (skL xs ++ skB ins) l with
  | true => rw [hb] at hr; exact h1 xs ins r x hr hx
  | false => rw [hb] at hr; exact h2 xs ins r x hr hx
def ql (bs : List Blk) (i j : Nat) : AV := match bs[i]? with
  | some (.var cells) => cells.getD j .undef
  | _ => .undef
def blkS (s : St) (id : Nat) : Blk := match hget s.hp id with
  | some b => b
  | none => .dead 0
def cellS (s : St) (id j : Nat) : AV := match hget s.hp id with
  | some (.var cells) => cells.getD j .undef
  | _ => .undef
def intA (x : AV) : Int := match x with | .int _ n => n | _ => 0
def pU (x : AV) : Bool := match x with | .bool b => b | _ => false
def qy (x : AV) : Nat := match x with | .rptr _ _ _ k _ => k | _ => 0
end
end Go.Proofs.YtimkpfnbkclclaaGreat.Ab
namespace Go.Proofs.YtimkpfnbkclclaaGreat.Ab
noncomputable section
open Go
theorem pJ {x : Int} (h0 : -9223372036854775808 ≤ x) (h1 : x ≤ 9223372036854775807) : wr x = x := by show IntKind.i64.wrap x = x; rw [IntKind.wrap_i64]; omega
theorem qc {i : Nat} (h : i ≤ 4611686018427387904) : wr ((i : Int) + 1) = ((i + 1 : Nat) : Int) := by rw [pJ (by omega) (by omega)]; omega
theorem oW {n : Nat} (h0 : 1 ≤ n) (h : n ≤ 1000000) : wr ((n : Int) - 1) = ((n - 1 : Nat) : Int) := by rw [pJ (by omega) (by omega)]; omega
theorem pI (i : Nat) : Int.toNat (i : Int) = i := rfl
theorem dlt {i n : Nat} (h : i < n) : decide ((i : Int) < (n : Int)) = true := decide_eq_true (by omega)
theorem dge {i n : Nat} (h : n ≤ i) : decide ((i : Int) < (n : Int)) = false := decide_eq_false (by omega)
theorem dix {i n : Nat} (h : i < n) : decide ((0 : Int) ≤ (i : Int) ∧ (i : Int) < (n : Int)) = true := decide_eq_true ⟨by omega, by omega⟩
def bn {B : Type} (g : Nat → Option B) : Nat → Nat → Option B
  | 0, _ => none
  | k + 1, i => match g i with
    | some b => some b
    | none => bn g k (i + 1)
theorem aP {V A B : Type} {step : V → DT (LR V A B)} {v : V} {x : LR V A B} : (step v).get = some x → fixO step v = LR.elim (fixO step) (fun a => some (.inl a)) (fun b => some (.inr b)) x := by
  intro h
  rw [lM, DT.run_get, h]
  cases x <;> rfl
theorem pR {V A B : Type} {step : V → DT (LR V A B)} (vs : Nat → V) (n : Nat) {z : LR V A B} (h : ∀ i, i < n → (step (vs i)).get = some (.next (vs (i + 1)))) : (step (vs n)).get = some z → fixO step (vs 0) = LR.elim (fixO step) (fun a => some (.inl a)) (fun b => some (.inr b)) z := by
  intro hl
  have key : ∀ k i, i + k = n → fixO step (vs i) = LR.elim (fixO step) (fun a => some (.inl a)) (fun b => some (.inr b)) z := by
    intro k
    induction k with
    | zero => intro i hi; obtain rfl : i = n := by omega
              exact aP hl
    | succ k ih => intro i hi; rw [aP (h i (by omega))]; exact ih (i + 1) (by omega)
  exact key n 0 (Nat.zero_add _)
theorem oM {B : Type} {step : Int → DT (LR Int Unit B)} {n : Nat} (g : Nat → Option B)
    (h : ∀ i : Nat, i < n → (step (i : Int)).get = some (match g i with | some b => .r b | none => .next ((i + 1 : Nat) : Int)))
    (hl : (step (n : Int)).get = some (.l ())) : ∀ k i, i + k = n → fixO step (i : Int) = some (match bn g k i with | some b => .inr b | none => .inl ()) := by
  intro k
  induction k with
  | zero =>
    intro i hi
    obtain rfl : i = n := by omega
    rw [aP hl]
    rfl
  | succ k ih =>
    intro i hi
    rw [aP (h i (by omega))]
    unfold bn
    cases hf : g i with
    | some b => rfl
    | none => exact ih (i + 1) (by omega)
theorem oh {B : Type} {g : Nat → Option B} : ∀ {k i : Nat}, bn g k i = none → ∀ j, i ≤ j → j < i + k → g j = none := by
  intro k
  induction k with
  | zero => intro i _ j h1 h2; omega
  | succ k ih =>
    intro i h j h1 h2
    unfold bn at h
    cases hg : g i with
    | some b => rw [hg] at h; cases h
    | none =>
      rw [hg] at h
      by_cases hj : j = i
      · subst hj; exact hg
      · exact ih h j (by omega) (by omega)
theorem oL {B : Type} {g : Nat → Option B} : ∀ {k i : Nat}, (∀ j, i ≤ j → j < i + k → g j = none) → bn g k i = none := by
  intro k
  induction k with
  | zero => intro i _; rfl
  | succ k ih =>
    intro i h
    unfold bn
    rw [h i (Nat.le_refl _) (by omega)]
    exact ih fun j h1 h2 => h j (by omega) (by omega)
theorem om {B : Type} {g : Nat → Option B} {b : B} : ∀ {k i : Nat}, bn g k i = some b → ∃ j, i ≤ j ∧ j < i + k ∧ g j = some b ∧ ∀ l, i ≤ l → l < j → g l = none := by
  intro k
  induction k with
  | zero => intro i h; cases h
  | succ k ih =>
    intro i h
    unfold bn at h
    cases hg : g i with
    | some c =>
      rw [hg] at h
      injection h with h
      subst h
      exact ⟨i, Nat.le_refl _, by omega, hg, fun l h1 h2 => by omega⟩
    | none =>
      rw [hg] at h
      obtain ⟨j, h1, h2, h3, h4⟩ := ih h
      refine ⟨j, by omega, by omega, h3, fun l h5 h6 => ?_⟩
      by_cases hl : l = i
      · subst hl; exact hg
      · exact h4 l (by omega) h6
theorem pY {V A B : Type} {step : V → DT (LR V A B)} (Inv : V → Prop) (m : V → Nat) (Q : A ⊕ B → Prop)
    (h : ∀ v, Inv v → ∃ x, (step v).get = some x ∧ (match x with | .next v' => Inv v' ∧ m v' < m v | .l a => Q (.inl a) | .r b => Q (.inr b))) :
    ∀ v, Inv v → ∃ z, fixO step v = some z ∧ Q z := by
  have key : ∀ n v, m v ≤ n → Inv v → ∃ z, fixO step v = some z ∧ Q z := by
    intro n
    induction n with
    | zero =>
      intro v hm hv
      obtain ⟨x, hx, hq⟩ := h v hv
      rw [aP hx]
      cases x with
      | next v' => exact absurd hq.2 (by omega)
      | l a => exact ⟨_, rfl, hq⟩
      | r b => exact ⟨_, rfl, hq⟩
    | succ n ih =>
      intro v hm hv
      obtain ⟨x, hx, hq⟩ := h v hv
      rw [aP hx]
      cases x with
      | next v' => exact ih v' (by have := hq.2; omega) hq.1
      | l a => exact ⟨_, rfl, hq⟩
      | r b => exact ⟨_, rfl, hq⟩
  exact fun v hv => key (m v) v (Nat.le_refl _) hv
theorem get_bind {R Z : Type} {o : Option Z} {k : Z → DT R} {z : Z} (h : o = some z) : (DT.bind o k).get = (k z).get := by subst h; rfl
theorem pV {R A B : Type} {o : Option (A ⊕ B)} {f : A → DT R} {g : B → DT R} {z : A ⊕ B} : o = some z → (DT.sum o f g).get = Sum.elim (fun a => (f a).get) (fun b => (g b).get) z := by intro h; subst h; cases z <;> rfl
theorem qo {R : Type} {b : Bool} {x y : DT R} (h : b = true) : (DT.ite b x y).get = x.get := by subst h; rfl
theorem qm {R : Type} {b : Bool} {x y : DT R} (h : b = false) : (DT.ite b x y).get = y.get := by subst h; rfl
end
end Go.Proofs.YtimkpfnbkclclaaGreat.Ab
namespace Go.Proofs.YtimkpfnbkclclaaGreat.Ab
noncomputable section
open Go
def aggL (x : AV) : List AV := match x with | .agg l => l | _ => []
def gd (l : List AV) (i : Nat) : AV := l.getD i .undef
def varL (b : Blk) : List AV := match b with | .var l => l | _ => []
def dB (l : List Blk) (i : Nat) : Blk := l.getD i (.dead 0)
def slcN (x : AV) : Nat := match x with | .slc _ n _ => n | _ => 0
def slcF (x : AV) : Nat → List AV := match x with | .slc _ _ f => f | _ => fun _ => []
def sqD {α : Type} (d : List AV → α) (x : AV) : Sq α := ⟨slcN x, fun k => d (slcF x k)⟩
def rowN (x : Blk) : Nat := match x with | .row _ _ n _ _ => n | _ => 0
def rowF (x : Blk) : Nat → List AV := match x with | .row _ _ _ _ f => f | _ => fun _ => []
def sqB {α : Type} (d : List AV → α) (x : Blk) : Sq α := ⟨rowN x, fun k => d (rowF x k)⟩
def dI (l : List AV) : Int := intA (gd l 0)
def dO (l : List AV) : Bool := pU (gd l 0)
def dQ {α : Type} (d : List AV → α) (l : List AV) : Sq α := sqD d (gd l 0)
def eI (k : IntKind) (x : Int) : List AV := [.int k x]
def eO (x : Bool) : List AV := [.bool x]
def eS (x : ByteArray) : List AV := [.str x]
def sqA {α : Type} (sz : Nat) (e : α → List AV) (s : Sq α) : AV := .slc sz s.n fun k => e (s.f k)
def eQ {α : Type} (sz : Nat) (e : α → List AV) (s : Sq α) : List AV := [sqA sz e s]
def rowA {α : Type} (v sz t : Nat) (e : α → List AV) (s : Sq α) : Blk := .row v sz s.n t fun k => e (s.f k)
theorem linj {A B : Type} {enc : A → B} (dec : B → A) (h : ∀ p, dec (enc p) = p) : ∀ a b, enc a = enc b → a = b := fun a b e => by rw [← h a, ← h b, e]
structure LpM where
  Fx : Type
  V : Type
  A : Type
  B : Type
  s : Fx × V → St
  step : Fx → V → DT (LR V A B)
  one : Bool
  axl : AX
  el : St → A → St
  axr : AX
  er : St → B → St
  cs : (R : Type) → B → (B → Option R) → Option R
  hcs : ∀ R y κ, cs R y κ = κ y
def c1 {B : Type} (R : Type) (y : B) (κ : B → Option R) : Option R := κ y
theorem c1k {B : Type} : ∀ R (y : B) κ, c1 R y κ = κ y := fun _ _ _ => rfl
def c2 {B D : Type} (R : Type) (y : B ⊕ D) (κ : B ⊕ D → Option R) : Option R := match y with
  | .inl a => κ (.inl a)
  | .inr b => κ (.inr b)
theorem c2k {B D : Type} : ∀ R (y : B ⊕ D) κ, c2 R y κ = κ y := fun _ y _ => by cases y <;> rfl
def LpM.c (m : LpM) : St → Option LRes := o7 m.s (fun p => fixO (m.step p.1) p.2) m.one m.axl m.el m.axr m.er m.cs m.hcs
def LpM.val (m : LpM) (p : m.Fx × m.V) : Option (m.A ⊕ m.B) := gOfS m.s (fun p => fixO (m.step p.1) p.2) (m.s p)
theorem LpM.val_eq (m : LpM) (dec : St → m.Fx × m.V) (h : ∀ p, dec (m.s p) = p) (p : m.Fx × m.V) : m.val p = fixO (m.step p.1) p.2 := oq (linj dec h) _ p
def LpM.Round (m : LpM) (E : Env) (c : Code) (n : Nat) : Prop := ∀ (R : Type) (fx : m.Fx) (v : m.V) (N : Nat) (K : AX → St → Option R), eY (fun s j => aS E c s j) (aR E c n) (dP E c n) (N + 1) (m.s (fx, v)) K = (m.step fx v).run (LR.elim
      (fun v' => eY (fun s j => aS E c s j) (aR E c n) (dP E c n) N (m.s (fx, v')) K)
      (fun a => K m.axl (m.el (m.s (fx, v)) a))
      (fun b => K m.axr (m.er (m.s (fx, v)) b)))
theorem LpM.tells (m : LpM) {E : Env} {c : Code} (n : Nat) (hc : ∀ p, (m.s p).c = n) (hl : ∀ fx v v' a, m.el (m.s (fx, v)) a = m.el (m.s (fx, v')) a) (hr : ∀ fx v v' b, m.er (m.s (fx, v)) b = m.er (m.s (fx, v')) b)
    (round : m.Round E c n) : aQ E c m.c :=
  jH (s := m.s) (stl := m.el) (str := m.er) (step := m.step) (n := n) hc hl hr fun fx v N K => round _ fx v N K
def AllL (E : Env) : List Code → Prop
  | [] => True
  | x :: L => (∀ f, E.loops (aj x) = some f → aQ E x f) ∧ AllL E L
theorem qg {E : Env} {c : Option Code} (L : List Code) (hb : c.map bF = some L) (h : AllL E L) : ∀ c', c = some c' → aD E c' := by
  intro c' hc
  subst hc
  obtain rfl : bF c' = L := Option.some.inj hb
  refine mZ c' ?_
  clear hb
  revert h
  generalize bF c' = L
  intro h
  induction L with
  | nil => intro x hx; cases hx
  | cons y L ih =>
    intro x hx
    rcases List.mem_cons.1 hx with rfl | hx
    · exact h.1
    · exact ih h.2 x hx
theorem lpT {E : Env} {x : Code} {f : St → Option LRes} (h : E.loops (aj x) = some f) (ht : aQ E x f) : ∀ g, E.loops (aj x) = some g → aQ E x g := fun g hg => by rw [h] at hg; obtain rfl := Option.some.inj hg; exact ht
structure FnM where
  P : Type
  R : Type
  enc : P → List AV × List Blk
  t : P → DT R
  av : R → AV
  outs : List Blk → R → List Blk
  fl : Bool
  hfl : fl = true → ∀ ins z, AV.flat (av z) = true ∧ ∀ b ∈ outs ins z, b.flat
def flM (P R : Type) (enc : P → List AV × List Blk) (t : P → DT R) (av : R → AV) (h : ∀ z, AV.flat (av z) = true) : FnM := ⟨P, R, enc, t, av, fun _ _ => [], true, fun _ _ z => ⟨h z, fun b hb => by cases hb⟩⟩
def nfM (P R : Type) (enc : P → List AV × List Blk) (t : P → DT R) (av : R → AV) (outs : List Blk → R → List Blk) : FnM := ⟨P, R, enc, t, av, outs, false, fun h => by cases h⟩
def FnM.c (m : FnM) : List AV → List Blk → Option Ans := told m.enc (fun p => (m.t p).get) m.av m.outs m.fl m.hfl
def FnM.val (m : FnM) (p : m.P) : Option m.R := gOfA m.enc (fun p => (m.t p).get) (m.enc p).1 (m.enc p).2
theorem FnM.val_eq (m : FnM) (dec : List AV × List Blk → m.P) (h : ∀ p, dec (m.enc p) = p) (p : m.P) : m.val p = (m.t p).get := congrFun (oo (linj dec h) (fun p => (m.t p).get)) p
def lk {α : Type _} : List (Nat × α) → Nat → Option α
  | [], _ => none
  | (k, x) :: l, r => match Nat.beq k r with
    | true => some x
    | false => lk l r
def lkF : List (Nat × (List AV → List Blk → Option Ans)) → Nat → List AV → List Blk → Option Ans
  | [], _ => fun _ _ => none
  | (k, x) :: l, r => match Nat.beq k r with
    | true => x
    | false => lkF l r
def lkP : List (Nat × List PreC) → Nat → List PreC
  | [], _ => []
  | (k, x) :: l, r => match Nat.beq k r with
    | true => x
    | false => lkP l r
def envM (fs : List (Nat × (List AV → List Blk → Option Ans))) (live : List (Nat × List Nat × List Nat)) (loops : List (Nat × (St → Option LRes))) (pre : List (Nat × List PreC)) (gc : List (Nat × List Nat)) (mm : Nat) : Env := ⟨ttOf Tryz.prog, fun f => lkF fs f, fun r => lk loops r, fun r => lk live r, 0, 0, fun r => lkP pre r, fun r => lk gc r, some mm⟩
def TL : List (Nat × (List AV → List Blk → Option Ans)) → Prop
  | [] => True
  | e :: l => aI Tryz.prog e.1 e.2 ∧ TL l
theorem TL.nil : TL [] := trivial
theorem TL.cons {f : Nat} {c : List AV → List Blk → Option Ans} {l : List (Nat × (List AV → List Blk → Option Ans))} (h : aI Tryz.prog f c) (t : TL l) : TL ((f, c) :: l) := ⟨h, t⟩
theorem TL.ok : ∀ {l}, TL l → ∀ f, aI Tryz.prog f (lkF l f) := by
  intro l
  induction l with
  | nil => intro _ f; exact aI.none_ f
  | cons e l ih =>
    obtain ⟨k, x⟩ := e
    intro h f
    unfold lkF
    cases hb : Nat.beq k f with
    | true => obtain rfl := Nat.eq_of_beq_eq_true hb; exact h.1
    | false => exact ih h.2 f
attribute [local irreducible] arun in
theorem FnM.tells (m : FnM) {fs : List (Nat × (List AV → List Blk → Option Ans))} {live : List (Nat × List Nat × List Nat)} {loops : List (Nat × (St → Option LRes))} {pre : List (Nat × List PreC)} {gc : List (Nat × List Nat)} {mm : Nat}
    {fid : FuncId} {fn : Func} (hf : Tryz.prog.funcs[fid]? = some fn) (h : ∀ p, arun (envM fs live loops pre gc mm) fn (m.enc p).1 (m.enc p).2 = (m.t p).run fun r => some (m.av r, m.outs (m.enc p).2 r))
    (hl : ∀ c, fn.body = some c → aD { envM fs live loops pre gc mm with nt := fn.ntmps } c) (ok : TL fs) : aI Tryz.prog fid m.c :=
  kJ (E := envM fs live loops pre gc mm) (by kernel_rfl) ok.ok hf hl h
theorem p8 {fs : List (Nat × (List AV → List Blk → Option Ans))} {live : List (Nat × List Nat × List Nat)} {pre : List (Nat × List PreC)} {gc : List (Nat × List Nat)} {mm nt : Nat} {o : Option Code} : ∀ c, o = some c → aD { envM fs live [] pre gc mm with nt := nt } c := fun c _ => cZ (fun _ => rfl) c
end
end Go.Proofs.YtimkpfnbkclclaaGreat.Ab
namespace Go.Proofs.YtimkpfnbkclclaaGreat.Ab
open Go Go.ChangeShapes Go.WideShapes Go.ChangeAt Go.RowKit Go.Deep Go.Joins
def BtI := { a : Int // 0 ≤ a ∧ a ≤ 255 }
section
variable {H : Type} {enc : TypeId × Value → H} {w : World} {base : Nat} {spare : Nat → Bool} {held : Bool}
theorem anL {n : Nat} {cs : List Value} {x : DataW H × List MemPlace} (h : DataW.trod enc Tryz.prog w base spare held n 5 cs = some x) : ∃ a : BtI, cs = [.int .u8 a.1] := by
  obtain ⟨a, e, _, hw⟩ := DataW.trod_int Tryz.underlying5 h
  exact ⟨⟨a, Go.bounds_u8 hw⟩, e⟩
theorem aps {v : Value} {d : DataW H} {p : List MemPlace} {a : Option Addr} {len cap : Nat} (hv : v = .slice a len cap) (h : DataW.Trod enc Tryz.prog w base spare held 22 v d p) :
    ∃ s : Sq Int, (∀ k, 0 ≤ s.f k ∧ s.f k ≤ 255) ∧ ∀ (M : Nat → Prop) (σ : Nat → Value) (V : Nat → Option Nat), (∀ g, ¬ M g) → VR w M σ V (.slc 1 s.n fun k => [.int .u8 (s.f k)]) v := by
  obtain ⟨fuel, hf⟩ := h
  obtain ⟨v', l, hcs, hs⟩ := oD (fun a : BtI => [Value.int .u8 a.1]) (sz := 1) Tryz.underlying22 Tryz.cells5 (by omega) (fun _ => rfl) anL hf
  subst hv
  simp [Value.cells] at hcs
  subst hcs
  refine ⟨⟨l.length, fun k => (l.getD k ⟨0, by omega, by omega⟩).1⟩, fun k => (l.getD k ⟨0, by omega, by omega⟩).2, fun M σ V hM => .pure (nE hM (fun a : BtI => [Value.int .u8 a.1]) (fun a : BtI => [AV.int .u8 a.1]) ⟨0, by omega, by omega⟩ (fun _ => rfl) (fun _ => rfl) (fun a j hj => ?_) hs)⟩
  have hj : j < 1 := hj
  obtain rfl : j = 0 := by omega
  exact ⟨.int _ _, rfl⟩
end
theorem ap2 {f : FuncId} {A : Type} {enc : A → List AV × List Blk} {g : A → Option Bool} {av : Bool → AV} {outs : List Blk → Bool → List Blk} {fl : Bool} {hfl : fl = true → ∀ ins z, AV.flat (av z) = true ∧ ∀ b ∈ outs ins z, b.flat}
    (h : aI Tryz.prog f (told enc g av outs fl hfl)) (hinj : ∀ a b, enc a = enc b → a = b) (hav : av true = .bool true) (a : A) (h2 : (enc a).2 = []) (hg : g a = some true) {w : World} {vs : Array Value} (hl : vs.size = (enc a).1.length)
    (hv : ∀ j, j < (enc a).1.length → ∀ (M : Nat → Prop) (σ : Nat → Value) (V : Nat → Option Nat), (∀ g, ¬ M g) → VR w M σ V ((enc a).1.getD j .undef) (vs.getD j undef)) : Calls Tryz.prog f vs w fun e w' => e = .returned (.bool true) ∧ Below w.heap.size w w' :=
  jK h (xs := (enc a).1) (r := ⟨⟨Bool, gOfA enc g (enc a).1 [], av, outs []⟩, fun _ => fl, fun z h => hfl h [] z⟩) (x := true) rfl (by rw [← hg, ← congrFun (oo hinj g) a, h2]) hav hl hv
end Go.Proofs.YtimkpfnbkclclaaGreat.Ab
