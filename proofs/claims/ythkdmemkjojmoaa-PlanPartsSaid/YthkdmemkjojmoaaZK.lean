/- Mirrors of code: trees of decisions, loops by their steps, contracts of functions. -/
import Derived.Test.YthkdmemkjojmoaaZEo
namespace Go.Proofs.Ythkdmemkjojmoaa.Ab
open Go

def wr (x : Int) : Int := IntKind.i64.wrap x
/-- Elements by their number. -/
structure Sq (α : Type) where
  n : Nat
  f : Nat → α
/-- A tree of decisions. -/
inductive DT (R : Type) : Type 1 where
  | fail
  | leaf (r : R)
  | ite (b : Bool) (x y : DT R)
  | bind {Z : Type} (o : Option Z) (k : Z → DT R)
  | sum {A B : Type} (o : Option (A ⊕ B)) (x : A → DT R) (y : B → DT R)
def DT.run {R X : Type} : DT R → (R → Option X) → Option X
  | .fail, _ => none
  | .leaf r, k => k r
  | .ite b x y, k => match b with
    | true => x.run k
    | false => y.run k
  | .bind o f, k => match o with
    | some z => (f z).run k
    | none => none
  | .sum o f g, k => match o with
    | some (.inl a) => (f a).run k
    | some (.inr b) => (g b).run k
    | none => none
def DT.get {R : Type} (t : DT R) : Option R := t.run some
theorem DT.run_get {R X : Type} (t : DT R) (k : R → Option X) : t.run k = match t.get with | some r => k r | none => none := by
  unfold DT.get
  induction t with
  | fail => rfl
  | leaf r => rfl
  | ite b x y ihx ihy => cases b with
    | true => exact ihx
    | false => exact ihy
  | bind o f ih => cases o with
    | none => rfl
    | some z => exact ih z
  | sum o f g ihf ihg => cases o with
    | none => rfl
    | some z => cases z with
      | inl a => exact ihf a
      | inr b => exact ihg b
@[simp] theorem DT.get_fail {R : Type} : (DT.fail : DT R).get = none := rfl
@[simp] theorem DT.get_leaf {R : Type} (r : R) : (DT.leaf r).get = some r := rfl
theorem DT.get_ite {R : Type} (b : Bool) (x y : DT R) : (DT.ite b x y).get = if b = true then x.get else y.get := by cases b <;> rfl
@[simp] theorem DT.get_true {R : Type} (x y : DT R) : (DT.ite true x y).get = x.get := rfl
@[simp] theorem DT.get_false {R : Type} (x y : DT R) : (DT.ite false x y).get = y.get := rfl
@[simp] theorem DT.get_some {R Z : Type} (z : Z) (k : Z → DT R) : (DT.bind (some z) k).get = (k z).get := rfl
@[simp] theorem DT.get_none {R Z : Type} (k : Z → DT R) : (DT.bind none k).get = none := rfl
@[simp] theorem DT.get_inl {R A B : Type} (a : A) (f : A → DT R) (g : B → DT R) : (DT.sum (some (.inl a)) f g).get = (f a).get := rfl
@[simp] theorem DT.get_inr {R A B : Type} (b : B) (f : A → DT R) (g : B → DT R) : (DT.sum (some (.inr b)) f g).get = (g b).get := rfl
@[simp] theorem DT.get_snone {R A B : Type} (f : A → DT R) (g : B → DT R) : (DT.sum none f g).get = none := rfl

/-! ### Loops -/
inductive LR (V A B : Type) where
  | next (v : V)
  | l (a : A)
  | r (b : B)
def LR.elim {V A B X : Type} (n : V → X) (l : A → X) (r : B → X) : LR V A B → X
  | .next v => n v
  | .l a => l a
  | .r b => r b
def iterN {V A B : Type} (step : V → DT (LR V A B)) : Nat → V → Option (A ⊕ B)
  | 0, _ => none
  | n + 1, v => (step v).run fun
    | .next v' => iterN step n v'
    | .l a => some (.inl a)
    | .r b => some (.inr b)
noncomputable def fixO {V A B : Type} (step : V → DT (LR V A B)) (v : V) : Option (A ⊕ B) := theOne fun z => ∃ n, iterN step n v = some z
theorem iterN_mono {V A B : Type} {step : V → DT (LR V A B)} : ∀ {n m : Nat} {v : V} {z : A ⊕ B}, n ≤ m → iterN step n v = some z → iterN step m v = some z := by
  intro n
  induction n with
  | zero => intro m v z _ h; cases h
  | succ n ih =>
    intro m v z hm h
    cases m with
    | zero => omega
    | succ m =>
      unfold iterN at h ⊢
      rw [DT.run_get] at h ⊢
      cases hg : (step v).get with
      | none => rw [hg] at h; cases h
      | some x =>
        rw [hg] at h
        cases x with
        | next v' => exact ih (by omega) h
        | l a => exact h
        | r b => exact h
theorem fixO_of {V A B : Type} {step : V → DT (LR V A B)} {n : Nat} {v : V} {z : A ⊕ B} (h : iterN step n v = some z) : fixO step v = some z :=
  theOne_eq ⟨n, h⟩ fun z' ⟨m, h'⟩ => by
    have h1 := iterN_mono (Nat.le_max_left n m) h
    have h2 := iterN_mono (Nat.le_max_right n m) h'
    rw [h1] at h2
    injection h2 with h2
    exact h2.symm
theorem fixO_iff {V A B : Type} {step : V → DT (LR V A B)} {v : V} {z : A ⊕ B} : fixO step v = some z ↔ ∃ n, iterN step n v = some z :=
  ⟨fun h => theOne_spec (p := fun z => ∃ n, iterN step n v = some z) h, fun ⟨_, h⟩ => fixO_of h⟩
/-- A loop, a round more. -/
theorem fixO_step {V A B : Type} (step : V → DT (LR V A B)) (v : V) : fixO step v = (step v).run fun
    | .next v' => fixO step v'
    | .l a => some (.inl a)
    | .r b => some (.inr b) := by
  rw [DT.run_get]
  cases hg : (step v).get with
  | none =>
    dsimp only
    cases hf : fixO step v with
    | none => rfl
    | some z =>
      obtain ⟨n, h⟩ := fixO_iff.1 hf
      cases n with
      | zero => cases h
      | succ n => unfold iterN at h; rw [DT.run_get, hg] at h; cases h
  | some x =>
    cases x with
    | next v' =>
      dsimp only
      have h1 : ∀ z, fixO step v' = some z → fixO step v = some z := fun z hz => by
        obtain ⟨n, h⟩ := fixO_iff.1 hz
        exact fixO_of (n := n + 1) (by unfold iterN; rw [DT.run_get, hg]; exact h)
      cases hf : fixO step v' with
      | some z => exact h1 z hf
      | none =>
        cases hf2 : fixO step v with
        | none => rfl
        | some z =>
          obtain ⟨n, h⟩ := fixO_iff.1 hf2
          cases n with
          | zero => cases h
          | succ n =>
            unfold iterN at h
            rw [DT.run_get, hg] at h
            rw [fixO_of (n := n) h] at hf
            cases hf
    | l a => exact fixO_of (n := 1) (by unfold iterN; rw [DT.run_get, hg])
    | r b => exact fixO_of (n := 1) (by unfold iterN; rw [DT.run_get, hg])
/-- What is said of the state at a loop's head. -/
noncomputable def gOfS {Pm Z : Type} (s : Pm → St) (f : Pm → Option Z) (x : St) : Option Z := theOne fun z => ∃ p, s p = x ∧ f p = some z
theorem gOfS_eq {Pm Z : Type} {s : Pm → St} (hinj : ∀ p p', s p = s p' → p = p') (f : Pm → Option Z) (p : Pm) : gOfS s f (s p) = f p := by
  unfold gOfS
  cases hf : f p with
  | some z =>
    refine theOne_eq ⟨p, rfl, hf⟩ fun z' ⟨p', e, h⟩ => ?_
    rw [hinj _ _ e, hf] at h
    injection h with h
    exact h.symm
  | none =>
    unfold theOne
    rw [dif_neg]
    rintro ⟨z, p', e, h⟩
    rw [hinj _ _ e, hf] at h
    cases h
noncomputable def loopM {Pm A B : Type} (s : Pm → St) (f : Pm → Option (A ⊕ B)) (one : Bool) (axl : AX) (stl : St → A → St) (axr : AX) (str : St → B → St) (x : St) : Option LRes := some ⟨A, B, gOfS s f x, one, axl, stl x, axr, str x⟩
theorem loopM_tells {E : Env} {c : Code} {Fx V A B : Type} {s : Fx × V → St} {step : Fx → V → DT (LR V A B)} {one : Bool} {axl axr : AX} {stl : St → A → St} {str : St → B → St} {n : Nat}
    (hc : ∀ p, (s p).c = n) (hl : ∀ fx v v' a, stl (s (fx, v)) a = stl (s (fx, v')) a) (hr : ∀ fx v v' b, str (s (fx, v)) b = str (s (fx, v')) b)
    (round : ∀ {R : Type} fx v N (K : AX → St → Option R), aloop (fun s j => aexec E c s j) (headOf E c n) (exitOf E c n) (N + 1) (s (fx, v)) K = (step fx v).run (LR.elim
      (fun v' => aloop (fun s j => aexec E c s j) (headOf E c n) (exitOf E c n) N (s (fx, v')) K)
      (fun a => K axl (stl (s (fx, v)) a))
      (fun b => K axr (str (s (fx, v)) b)))) :
    LoopTells E c (loopM s (fun p => fixO (step p.1) p.2) one axl stl axr str) := by
  intro x r z hx hz
  injection hx with hx
  subst hx
  obtain ⟨⟨fx, v⟩, rfl, hf⟩ := theOne_spec (show theOne _ = some z from hz)
  obtain ⟨N, hN⟩ := fixO_iff.1 hf
  refine ⟨N, ?_⟩
  rw [hc]
  have key : ∀ {R : Type} (K : AX → St → Option R) N v' z, iterN (step fx) N v' = some z → aloop (fun s j => aexec E c s j) (headOf E c n) (exitOf E c n) N (s (fx, v')) K = match z with
      | .inl a => K axl (stl (s (fx, v)) a)
      | .inr b => K axr (str (s (fx, v)) b) := by
    intro R K N
    induction N with
    | zero => intro v' z h; cases h
    | succ N ih =>
      intro v' z h
      rw [round, DT.run_get]
      unfold iterN at h
      rw [DT.run_get] at h
      cases hg : (step fx v').get with
      | none => rw [hg] at h; cases h
      | some y =>
        rw [hg] at h
        cases y with
        | next v2 => exact ih v2 z h
        | l a =>
          injection h with h
          subst h
          show K axl (stl (s (fx, v')) _) = _
          rw [hl fx v' v]
        | r b =>
          injection h with h
          subst h
          show K axr (str (s (fx, v')) _) = _
          rw [hr fx v' v]
  intro R K
  refine (key K N v z hN).trans ?_
  cases z <;> rfl

/-! ### Functions -/
noncomputable def gOfA {A R : Type} (enc : A → List AV × List Blk) (f : A → Option R) (xs : List AV) (ins : List Blk) : Option R := theOne fun z => ∃ a, enc a = (xs, ins) ∧ f a = some z
theorem gOfA_eq {A R : Type} {enc : A → List AV × List Blk} (hinj : ∀ a b, enc a = enc b → a = b) (f : A → Option R) : (fun a => gOfA enc f (enc a).1 (enc a).2) = f := by
  funext a
  unfold gOfA
  cases hf : f a with
  | some z =>
    refine theOne_eq ⟨a, rfl, hf⟩ fun z' ⟨a', e, h⟩ => ?_
    rw [hinj _ _ e, hf] at h
    injection h with h
    exact h.symm
  | none =>
    unfold theOne
    rw [dif_neg]
    rintro ⟨z, a', e, h⟩
    rw [hinj _ _ e, hf] at h
    cases h
/-- What is told of a function: its answer by its mirror. -/
noncomputable def told {A R : Type} (enc : A → List AV × List Blk) (f : A → Option R) (av : R → AV) (outs : List Blk → R → List Blk) (fl : Bool) (hfl : fl = true → ∀ ins z, AV.flat (av z) = true ∧ ∀ b ∈ outs ins z, b.flat) : List AV → List Blk → Option Ans :=
  fun xs ins => some ⟨⟨R, gOfA enc f xs ins, av, outs ins⟩, fun _ => fl, fun z h => hfl h ins z⟩
set_option maxRecDepth 100000 in
theorem told_tells {E : Env} (hE : E.tt = ttOf Try.prog) (hfs : ∀ f, Tells Try.prog f (E.fs f)) {fid : FuncId} {fn : Func} (hf : Try.prog.funcs[fid]? = some fn) (hl : ∀ c, fn.body = some c → LoopsOK { E with nt := fn.ntmps } c)
    {A R : Type} {enc : A → List AV × List Blk} {t : A → DT R} {av : R → AV} {outs : List Blk → R → List Blk} {fl : Bool} {hfl : fl = true → ∀ ins z, AV.flat (av z) = true ∧ ∀ b ∈ outs ins z, b.flat}
    (h : ∀ a, arun E fn (enc a).1 (enc a).2 = (t a).run fun r => some (av r, outs (enc a).2 r)) : Tells Try.prog fid (told enc (fun a => (t a).get) av outs fl hfl) := by
  refine tells_run hE Try.pok hfs hf hl fun xs ins r x hr hx => ?_
  injection hr with hr
  subst hr
  obtain ⟨a, e, hx⟩ := theOne_spec (show theOne _ = some x from hx)
  have hxs : xs = (enc a).1 := by rw [e]
  have hin : ins = (enc a).2 := by rw [e]
  subst hxs hin
  rw [h, DT.run_get]
  have hx : (t a).get = some x := hx
  rw [hx]
mutual
/-- What kind of values these are. -/
def skA : AV → List Nat
  | .int _ _ => [1]
  | .bool _ => [2]
  | .slc sz _ _ => [3, sz]
  | .own id ver => [4, id, ver]
  | .ptr id off => [5, id, off]
  | .fn f cs => 6 :: f :: cs.length :: skL cs
  | .agg cs => 7 :: cs.length :: skL cs
  | .str _ => [8]
  | .undef => [9]
  | .void => [9]
  | .nilp => [9]
  | .any1 => [9]
  | .raw _ => [9]
  | .tup _ => [9]
  | .rptr _ _ _ _ _ => [9]
  | .pptr _ _ => [9]
  | .lptr _ _ _ => [9]
def skL : List AV → List Nat
  | [] => []
  | x :: xs => skA x ++ skL xs
end
def skB : List Blk → List Nat
  | [] => []
  | .var cs :: bs => 10 :: cs.length :: (skL cs ++ skB bs)
  | .row _ sz _ _ _ :: bs => 11 :: sz :: skB bs
  | .nilrow _ :: bs => 12 :: skB bs
  | .lrow _ _ _ _ _ :: bs => 13 :: skB bs
  | .dead _ :: bs => 13 :: skB bs
def eqN : List Nat → List Nat → Bool
  | [], [] => true
  | x :: xs, y :: ys => match Nat.beq x y with
    | true => eqN xs ys
    | false => false
  | _, _ => false
/-- One of two contracts, by the kind of what comes in. -/
def orC (l : List Nat) (c1 c2 : List AV → List Blk → Option Ans) : List AV → List Blk → Option Ans := fun xs ins => match eqN (skL xs ++ skB ins) l with
  | true => c1 xs ins
  | false => c2 xs ins
theorem orC_tells {P : Program} {f : FuncId} {l : List Nat} {c1 c2 : List AV → List Blk → Option Ans} (h1 : Tells P f c1) (h2 : Tells P f c2) : Tells P f (orC l c1 c2) := by
  intro xs ins r x hr hx
  unfold orC at hr
  cases hb : eqN (skL xs ++ skB ins) l with
  | true => rw [hb] at hr; exact h1 xs ins r x hr hx
  | false => rw [hb] at hr; exact h2 xs ins r x hr hx
/-- Pieces of a state. -/
def cellB (bs : List Blk) (i j : Nat) : AV := match bs[i]? with
  | some (.var cells) => cells.getD j .undef
  | _ => .undef
def blkS (s : St) (id : Nat) : Blk := match hget s.hp id with
  | some b => b
  | none => .dead 0
def cellS (s : St) (id j : Nat) : AV := match hget s.hp id with
  | some (.var cells) => cells.getD j .undef
  | _ => .undef
def intA (x : AV) : Int := match x with | .int _ n => n | _ => 0
def boolA (x : AV) : Bool := match x with | .bool b => b | _ => false
def argC (xs : List AV) (i j : Nat) : AV := match xs.getD i .undef with
  | .agg cs => cs.getD j .undef
  | _ => .undef
def aggC (x : AV) (j : Nat) : AV := match x with | .agg cs => cs.getD j .undef | _ => .undef
def tupC (x : AV) (j : Nat) : AV := match x with | .tup cs => cs.getD j .undef | _ => .undef
def pptrC (x : AV) (j : Nat) : AV := match x with | .pptr cs _ => cs.getD j .undef | _ => .undef
def rptrK (x : AV) : Nat := match x with | .rptr _ _ _ k _ => k | _ => 0
theorem Sq.av_inj {α : Type} {e : α → List AV} (he : ∀ x y, e x = e y → x = y) {sz sz' : Nat} {a b : Sq α} (h : AV.slc sz a.n (fun k => e (a.f k)) = AV.slc sz' b.n (fun k => e (b.f k))) : a = b := by
  injection h with _ h1 h2
  cases a; cases b
  dsimp only at h1 h2
  subst h1
  congr 1
  funext k
  exact he _ _ (congrFun h2 k)
theorem Sq.row_inj {α : Type} {e : α → List AV} (he : ∀ x y, e x = e y → x = y) {v sz t v' sz' t' : Nat} {a b : Sq α} (h : Blk.row v sz a.n t (fun k => e (a.f k)) = Blk.row v' sz' b.n t' (fun k => e (b.f k))) : a = b := by
  injection h with _ _ h1 _ h2
  cases a; cases b
  dsimp only at h1 h2
  subst h1
  congr 1
  funext k
  exact he _ _ (congrFun h2 k)
theorem intE_i64 (x y : Int) (h : ([.int .i64 x] : List AV) = [.int .i64 y]) : x = y := by injection h with h _; injection h
theorem intE_u8 (x y : Int) (h : ([.int .u8 x] : List AV) = [.int .u8 y]) : x = y := by injection h with h _; injection h
theorem intE_u16 (x y : Int) (h : ([.int .u16 x] : List AV) = [.int .u16 y]) : x = y := by injection h with h _; injection h
theorem sqE {α : Type} {e : α → List AV} (he : ∀ x y, e x = e y → x = y) {sz : Nat} (x y : Sq α) (h : [AV.slc sz x.n (fun k => e (x.f k))] = [AV.slc sz y.n (fun k => e (y.f k))]) : x = y := by injection h with h _; exact Sq.av_inj he h
theorem boolE (x y : Bool) (h : ([.bool x] : List AV) = [.bool y]) : x = y := by injection h with h _; injection h
end Go.Proofs.Ythkdmemkjojmoaa.Ab
