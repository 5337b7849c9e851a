/- Mirrors of code, in a compact form. -/
import Derived.Test.YthkdmemkjojmoaaZM
namespace Go.Proofs.Ythkdmemkjojmoaa.Ab
open Go

/-! ### Values out of their cells -/
def aggL (x : AV) : List AV := match x with | .agg l => l | _ => []
def tupL (x : AV) : List AV := match x with | .tup l => l | _ => []
def pptL (x : AV) : List AV := match x with | .pptr l _ => l | _ => []
def fnL (x : AV) : List AV := match x with | .fn _ l => l | _ => []
def gd (l : List AV) (i : Nat) : AV := l.getD i .undef
def varL (b : Blk) : List AV := match b with | .var l => l | _ => []
def dB (l : List Blk) (i : Nat) : Blk := l.getD i (.dead 0)
def slcN (x : AV) : Nat := match x with | .slc _ n _ => n | _ => 0
def slcF (x : AV) : Nat → List AV := match x with | .slc _ _ f => f | _ => fun _ => []
def sqD {α : Type} (d : List AV → α) (x : AV) : Sq α := ⟨slcN x, fun k => d (slcF x k)⟩
def rowN (x : Blk) : Nat := match x with | .row _ _ n _ _ => n | _ => 0
def rowF (x : Blk) : Nat → List AV := match x with | .row _ _ _ _ f => f | _ => fun _ => []
def sqB {α : Type} (d : List AV → α) (x : Blk) : Sq α := ⟨rowN x, fun k => d (rowF x k)⟩
def strA (x : AV) : ByteArray := match x with | .str s => s | _ => ⟨#[]⟩
def dI (l : List AV) : Int := intA (gd l 0)
def dO (l : List AV) : Bool := boolA (gd l 0)
def dS (l : List AV) : ByteArray := strA (gd l 0)
def dQ {α : Type} (d : List AV → α) (l : List AV) : Sq α := sqD d (gd l 0)
def eI (k : IntKind) (x : Int) : List AV := [.int k x]
def eO (x : Bool) : List AV := [.bool x]
def eS (x : ByteArray) : List AV := [.str x]
def sqA {α : Type} (sz : Nat) (e : α → List AV) (s : Sq α) : AV := .slc sz s.n fun k => e (s.f k)
def eQ {α : Type} (sz : Nat) (e : α → List AV) (s : Sq α) : List AV := [sqA sz e s]
def rowA {α : Type} (v sz t : Nat) (e : α → List AV) (s : Sq α) : Blk := .row v sz s.n t fun k => e (s.f k)
theorem linj {A B : Type} {enc : A → B} (dec : B → A) (h : ∀ p, dec (enc p) = p) : ∀ a b, enc a = enc b → a = b := fun a b e => by rw [← h a, ← h b, e]

/-! ### Loops -/
structure LpM where
  Fx : Type
  V : Type
  A : Type
  B : Type
  s : Fx × V → St
  step : Fx → V → DT (LR V A B)
  one : Bool
  axl : AX
  el : St → A → St
  axr : AX
  er : St → B → St
noncomputable def LpM.c (m : LpM) : St → Option LRes := loopM m.s (fun p => fixO (m.step p.1) p.2) m.one m.axl m.el m.axr m.er
noncomputable def LpM.val (m : LpM) (p : m.Fx × m.V) : Option (m.A ⊕ m.B) := gOfS m.s (fun p => fixO (m.step p.1) p.2) (m.s p)
theorem LpM.val_eq (m : LpM) (dec : St → m.Fx × m.V) (h : ∀ p, dec (m.s p) = p) (p : m.Fx × m.V) : m.val p = fixO (m.step p.1) p.2 := gOfS_eq (linj dec h) _ p
def LpM.Round (m : LpM) (E : Env) (c : Code) (n : Nat) : Prop := ∀ (R : Type) (fx : m.Fx) (v : m.V) (N : Nat) (K : AX → St → Option R), aloop (fun s j => aexec E c s j) (headOf E c n) (exitOf E c n) (N + 1) (m.s (fx, v)) K = (m.step fx v).run (LR.elim
      (fun v' => aloop (fun s j => aexec E c s j) (headOf E c n) (exitOf E c n) N (m.s (fx, v')) K)
      (fun a => K m.axl (m.el (m.s (fx, v)) a))
      (fun b => K m.axr (m.er (m.s (fx, v)) b)))
theorem LpM.tells (m : LpM) {E : Env} {c : Code} (n : Nat) (hc : ∀ p, (m.s p).c = n) (hl : ∀ fx v v' a, m.el (m.s (fx, v)) a = m.el (m.s (fx, v')) a) (hr : ∀ fx v v' b, m.er (m.s (fx, v)) b = m.er (m.s (fx, v')) b)
    (round : m.Round E c n) : LoopTells E c m.c :=
  loopM_tells (s := m.s) (stl := m.el) (str := m.er) (step := m.step) (n := n) hc hl hr fun fx v N K => round _ fx v N K
def AllL (E : Env) : List Code → Prop
  | [] => True
  | x :: L => (∀ f, E.loops (firstReg x) = some f → LoopTells E x f) ∧ AllL E L
theorem loopsL {E : Env} {c : Option Code} (L : List Code) (hb : c.map loopsOf = some L) (h : AllL E L) : ∀ c', c = some c' → LoopsOK E c' := by
  intro c' hc
  subst hc
  obtain rfl : loopsOf c' = L := Option.some.inj hb
  refine loops_of c' ?_
  clear hb
  revert h
  generalize loopsOf c' = L
  intro h
  induction L with
  | nil => intro x hx; cases hx
  | cons y L ih =>
    intro x hx
    rcases List.mem_cons.1 hx with rfl | hx
    · exact h.1
    · exact ih h.2 x hx
theorem lpT {E : Env} {x : Code} {f : St → Option LRes} (h : E.loops (firstReg x) = some f) (ht : LoopTells E x f) : ∀ g, E.loops (firstReg x) = some g → LoopTells E x g := fun g hg => by rw [h] at hg; obtain rfl := Option.some.inj hg; exact ht
theorem lpN {E : Env} {x : Code} (h : E.loops (firstReg x) = none) : ∀ g, E.loops (firstReg x) = some g → LoopTells E x g := fun g hg => by rw [h] at hg; cases hg

/-! ### Functions -/
structure FnM where
  P : Type
  R : Type
  enc : P → List AV × List Blk
  t : P → DT R
  av : R → AV
  outs : List Blk → R → List Blk
  fl : Bool
  hfl : fl = true → ∀ ins z, AV.flat (av z) = true ∧ ∀ b ∈ outs ins z, b.flat
def flM (P R : Type) (enc : P → List AV × List Blk) (t : P → DT R) (av : R → AV) (h : ∀ z, AV.flat (av z) = true) : FnM := ⟨P, R, enc, t, av, fun _ _ => [], true, fun _ _ z => ⟨h z, fun b hb => by cases hb⟩⟩
def nfM (P R : Type) (enc : P → List AV × List Blk) (t : P → DT R) (av : R → AV) (outs : List Blk → R → List Blk) : FnM := ⟨P, R, enc, t, av, outs, false, fun h => by cases h⟩
noncomputable def FnM.c (m : FnM) : List AV → List Blk → Option Ans := told m.enc (fun p => (m.t p).get) m.av m.outs m.fl m.hfl
noncomputable def FnM.val (m : FnM) (p : m.P) : Option m.R := gOfA m.enc (fun p => (m.t p).get) (m.enc p).1 (m.enc p).2
theorem FnM.val_eq (m : FnM) (dec : List AV × List Blk → m.P) (h : ∀ p, dec (m.enc p) = p) (p : m.P) : m.val p = (m.t p).get := congrFun (gOfA_eq (linj dec h) (fun p => (m.t p).get)) p
def lk {α : Type _} : List (Nat × α) → Nat → Option α
  | [], _ => none
  | (k, x) :: l, r => match Nat.beq k r with
    | true => some x
    | false => lk l r
def lkF : List (Nat × (List AV → List Blk → Option Ans)) → Nat → List AV → List Blk → Option Ans
  | [], _ => fun _ _ => none
  | (k, x) :: l, r => match Nat.beq k r with
    | true => x
    | false => lkF l r
def lkP : List (Nat × List PreC) → Nat → List PreC
  | [], _ => []
  | (k, x) :: l, r => match Nat.beq k r with
    | true => x
    | false => lkP l r
noncomputable def envM (fs : List (Nat × (List AV → List Blk → Option Ans))) (live : List (Nat × List Nat × List Nat)) (loops : List (Nat × (St → Option LRes))) (pre : List (Nat × List PreC)) (gc : List (Nat × List Nat)) (mm : Nat) : Env := ⟨ttOf Try.prog, fun f => lkF fs f, fun r => lk loops r, fun r => lk live r, 0, 0, fun r => lkP pre r, fun r => lk gc r, some mm⟩
def TL : List (Nat × (List AV → List Blk → Option Ans)) → Prop
  | [] => True
  | e :: l => Tells Try.prog e.1 e.2 ∧ TL l
theorem TL.nil : TL [] := trivial
theorem TL.cons {f : Nat} {c : List AV → List Blk → Option Ans} {l : List (Nat × (List AV → List Blk → Option Ans))} (h : Tells Try.prog f c) (t : TL l) : TL ((f, c) :: l) := ⟨h, t⟩
theorem TL.ok : ∀ {l}, TL l → ∀ f, Tells Try.prog f (lkF l f) := by
  intro l
  induction l with
  | nil => intro _ f; exact Tells.none_ f
  | cons e l ih =>
    obtain ⟨k, x⟩ := e
    intro h f
    unfold lkF
    cases hb : Nat.beq k f with
    | true => obtain rfl := Nat.eq_of_beq_eq_true hb; exact h.1
    | false => exact ih h.2 f
attribute [local irreducible] arun in
theorem FnM.tells (m : FnM) {fs : List (Nat × (List AV → List Blk → Option Ans))} {live : List (Nat × List Nat × List Nat)} {loops : List (Nat × (St → Option LRes))} {pre : List (Nat × List PreC)} {gc : List (Nat × List Nat)} {mm : Nat}
    {fid : FuncId} {fn : Func} (hf : Try.prog.funcs[fid]? = some fn) (h : ∀ p, arun (envM fs live loops pre gc mm) fn (m.enc p).1 (m.enc p).2 = (m.t p).run fun r => some (m.av r, m.outs (m.enc p).2 r))
    (hl : ∀ c, fn.body = some c → LoopsOK { envM fs live loops pre gc mm with nt := fn.ntmps } c) (ok : TL fs) : Tells Try.prog fid m.c :=
  told_tells (E := envM fs live loops pre gc mm) (by kernel_rfl) ok.ok hf hl h
theorem noLoops {fs : List (Nat × (List AV → List Blk → Option Ans))} {live : List (Nat × List Nat × List Nat)} {pre : List (Nat × List PreC)} {gc : List (Nat × List Nat)} {mm nt : Nat} {o : Option Code} : ∀ c, o = some c → LoopsOK { envM fs live [] pre gc mm with nt := nt } c := fun c _ => loops_none (fun _ => rfl) c
end Go.Proofs.Ythkdmemkjojmoaa.Ab
