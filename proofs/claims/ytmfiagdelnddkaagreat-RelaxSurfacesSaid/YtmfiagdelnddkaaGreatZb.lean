/- A plain evaluator of code over values (no worlds, no orders): its words. -/
import Derived.Test.YtmfiagdelnddkaaGreatRows
import Derived.WalkKit
import Derived.Laws.AppendOwn
namespace Go.Proofs.YtmfiagdelnddkaaGreat.Ab
open Go
inductive AV where
  | undef
  | void
  | bool (b : Bool)
  | int (k : IntKind) (n : Int)
  | str (s : ByteArray)
  | nilp
  | raw (v : Value)
  | agg (cs : List AV)
  | tup (vs : List AV)
  | slc (sz n : Nat) (f : Nat → List AV)
  | own (id ver : Nat)
  | ptr (id off : Nat)
  | rptr (id ver sz k off : Nat)
  | pptr (cs : List AV) (off : Nat)
  | lptr (id ver off : Nat)
  | fn (f : FuncId) (caps : List AV)
  | any1
instance : Inhabited AV := ⟨.undef⟩
inductive Blk where
  | var (cells : List AV)
  | row (ver sz n : Nat) (e : TypeId) (f : Nat → List AV)
  | nilrow (ver : Nat)
  | lrow (ver sz n : Nat) (e : TypeId) (cells : List AV)
  | dead (ver : Nat)
inductive ZC where
  | int (k : IntKind) | bool | str | nilp | nilsl | raw (v : Value)
inductive TK where
  | other | int (k : IntKind) | slice (e : TypeId) | struct (fs : List (Nat × TypeId)) | ptr | str
structure TI where
  size : Nat
  agg : Bool
  bytes : Nat
  kind : TK
  zero : List ZC
  eqc : Option (List Bool)
inductive LM (α : Type 1) : Type 1 where
  | fail
  | ret (a : α)
  | look (id : Nat) (k : Blk → LM α)
  | case (b : Bool) (x y : LM α)
def LM.run {α : Type 1} (L : Nat → Option Blk) : LM α → Option (List Nat × α)
  | .fail => none
  | .ret a => some ([], a)
  | .look id k =>
    match L id with
    | none => none
    | some b =>
      match (k b).run L with
      | none => none
      | some (r, a) => some (id :: r, a)
  | .case b x y =>
    match b with
    | true => x.run L
    | false => y.run L
def LM.runK {α : Type 1} {R : Type} (L : Nat → Option Blk) : LM α → (List Nat → α → Option R) → Option R
  | .fail, _ => none
  | .ret a, k => k [] a
  | .look id f, k =>
    match L id with
    | none => none
    | some b => (f b).runK L fun r a => k (id :: r) a
  | .case b x y, k =>
    match b with
    | true => x.runK L k
    | false => y.runK L k
theorem LM.runK_eq {α : Type 1} {R : Type} (L : Nat → Option Blk) (m : LM α) : ∀ k : List Nat → α → Option R, m.runK L k = match m.run L with | none => none | some (r, a) => k r a := by
  induction m with
  | fail => intro k; rfl
  | ret a => intro k; rfl
  | look id f ih =>
    intro k
    unfold LM.runK LM.run
    cases hb : L id with
    | none => rfl
    | some b =>
      simp only [ih b]
      cases (f b).run L with
      | none => rfl
      | some q => rfl
  | case b x y ihx ihy =>
    intro k
    unfold LM.runK LM.run
    cases b with
    | true => exact ihx k
    | false => exact ihy k
structure Eff where
  val : AV
  upd : List (Nat × Blk)
  news : List Blk
structure EffG where
  req : Bool
  β : Type
  get : Option β
  eff : β → Eff
def EffG.of (e : Eff) : EffG := ⟨true, Unit, some (), fun _ => e⟩
def EffG.val (v : AV) : EffG := ⟨true, Unit, some (), fun _ => ⟨v, [], []⟩⟩
def EffG.when (b : Bool) (v : AV) : EffG := ⟨b, Unit, some (), fun _ => ⟨v, [], []⟩⟩
structure Res where
  α : Type
  get : Option α
  av : α → AV
  outs : α → List Blk
def abq : Value → AV
  | .bool b => .bool b
  | .int k n => .int k n
  | .string s => .str s
  | .pointer none => .nilp
  | .slice none 0 0 => .slc 0 0 fun _ => []
  | v => .raw v
def Aj : Operand → Bool
  | .const (.slice none 0 0) => true
  | _ => false
def AV.cells : AV → List AV
  | .agg cs => cs
  | v => [v]
def AV.one : AV → Bool
  | .bool _ | .int _ _ | .str _ | .nilp | .slc _ _ _ | .own _ _ | .ptr _ _ | .rptr _ _ _ _ _ | .pptr _ _ | .fn _ _ | .any1 => true
  | _ => false
def AV.plain : AV → Bool
  | .bool _ | .int _ _ | .str _ | .nilp | .slc _ _ _ => true
  | _ => false
def allB {α : Type} (p : α → Bool) : List α → Bool
  | [] => true
  | x :: xs => match p x with | true => allB p xs | false => false
def YX : AV → (AV → List (Nat × Blk) → LM EffG) → LM EffG
  | .own id ver, k => .look id fun
    | .row ver' sz n _ f => match Nat.beq ver ver' with
      | true => k (.slc sz n f) [(id, .dead (ver + 1))]
      | false => .fail
    | .nilrow ver' => match Nat.beq ver ver' with
      | true => k (.slc 0 0 fun _ => []) [(id, .dead (ver + 1))]
      | false => .fail
    | _ => .fail
  | v, k => match v.plain with
    | true => k v []
    | false => .fail
def MK : List AV → (List AV → List (Nat × Blk) → LM EffG) → LM EffG
  | [], k => k [] []
  | v :: vs, k => YX v fun v' u => MK vs fun vs' us => k (v' :: vs') (u ++ us)
def setAt (xs : List AV) (off : Nat) (ys : List AV) : List AV := xs.take off ++ ys ++ xs.drop (off + ys.length)
def yZ : Nat → List Blk
  | 0 => []
  | n + 1 => .nilrow 0 :: yZ n
def yF : List ZC → Nat → List AV
  | [], _ => []
  | .int k :: zs, c => .int k 0 :: yF zs c
  | .bool :: zs, c => .bool false :: yF zs c
  | .str :: zs, c => .str ⟨#[]⟩ :: yF zs c
  | .nilp :: zs, c => .nilp :: yF zs c
  | .raw v :: zs, c => .raw v :: yF zs c
  | .nilsl :: zs, c => .own c 0 :: yF zs (c + 1)
def wV : List ZC → Nat
  | [] => 0
  | .nilsl :: zs => wV zs + 1
  | _ :: zs => wV zs
def xC : List ZC → List AV
  | [] => []
  | .int k :: zs => .int k 0 :: xC zs
  | .bool :: zs => .bool false :: xC zs
  | .str :: zs => .str ⟨#[]⟩ :: xC zs
  | .nilp :: zs => .nilp :: xC zs
  | .raw v :: zs => .raw v :: xC zs
  | .nilsl :: zs => .slc 0 0 (fun _ => []) :: xC zs
def agQ (t : Bool) (x y : AV) : AV :=
  match x, y with
  | .bool p, .bool q => .bool (cond t p q)
  | .int k p, .int k' q => if k = k' then .int k (cond t p q) else cond t x y
  | _, _ => cond t x y
def acC (t : Bool) : List AV → List AV → List AV
  | x :: xs, y :: ys => agQ t x y :: acC t xs ys
  | _, _ => []
def acr (t : Bool) (xs ys : List AV) : List AV := match Nat.beq xs.length ys.length with
  | true => acC t xs ys
  | false => cond t xs ys
def agP (t : Bool) (x y : AV) : AV :=
  match x, y with
  | .bool p, .bool q => .bool (cond t p q)
  | .int k p, .int k' q => if k = k' then .int k (cond t p q) else cond t x y
  | .slc sz n f, .slc sz' n' f' => match Nat.beq sz sz' with
    | true => .slc sz (cond t n n') fun k => acr t (f k) (f' k)
    | false => cond t x y
  | _, _ => cond t x y
def afA (t : Bool) : List AV → List AV → List AV
  | x :: xs, y :: ys => agP t x y :: afA t xs ys
  | _, _ => []
def aaW (t : Bool) (xs ys : List AV) : List AV := match Nat.beq xs.length ys.length with
  | true => afA t xs ys
  | false => cond t xs ys
theorem agR (t : Bool) (x y : AV) : agQ t x y = cond t x y := by
  unfold agQ
  split
  · cases t <;> rfl
  · split
    · rename_i h; subst h; cases t <;> rfl
    · rfl
  · rfl
theorem agu (t : Bool) : ∀ (xs ys : List AV), xs.length = ys.length → acC t xs ys = cond t xs ys := by
  intro xs
  induction xs with
  | nil => intro ys h; cases ys with
    | nil => cases t <;> rfl
    | cons => simp at h
  | cons x xs ih => intro ys h; cases ys with
    | nil => simp at h
    | cons y ys =>
      unfold acC
      rw [agR, ih ys (by simpa using h)]
      cases t <;> rfl
theorem agi (t : Bool) (xs ys : List AV) : acr t xs ys = cond t xs ys := by
  unfold acr
  cases h : Nat.beq xs.length ys.length with
  | true => exact agu t xs ys (Nat.eq_of_beq_eq_true h)
  | false => rfl
theorem ae5 (t : Bool) (x y : AV) : agP t x y = cond t x y := by
  unfold agP
  split
  · cases t <;> rfl
  · split
    · rename_i h; subst h; cases t <;> rfl
    · rfl
  · rename_i sz n f sz' n' f'
    cases h : Nat.beq sz sz' with
    | true =>
      obtain rfl := Nat.eq_of_beq_eq_true h
      have e : (fun k => acr t (f k) (f' k)) = cond t f f' := by
        funext k
        rw [agi]
        cases t <;> rfl
      rw [e]
      cases t <;> rfl
    | false => rfl
  · rfl
theorem ah6 (t : Bool) : ∀ (xs ys : List AV), xs.length = ys.length → afA t xs ys = cond t xs ys := by
  intro xs
  induction xs with
  | nil => intro ys h; cases ys with
    | nil => cases t <;> rfl
    | cons => simp at h
  | cons x xs ih => intro ys h; cases ys with
    | nil => simp at h
    | cons y ys =>
      unfold afA
      rw [ae5, ih ys (by simpa using h)]
      cases t <;> rfl
theorem Zf (t : Bool) (xs ys : List AV) : aaW t xs ys = cond t xs ys := by
  unfold aaW
  cases h : Nat.beq xs.length ys.length with
  | true => exact ah6 t xs ys (Nat.eq_of_beq_eq_true h)
  | false => rfl
def agT (n : Nat) (f g : Nat → List AV) : Nat → List AV := fun k => aaW (Nat.blt k n) (f k) (g (k - n))
theorem agU (n : Nat) (f g : Nat → List AV) : agT n f g = fun k => if k < n then f k else g (k - n) := by
  funext k
  unfold agT
  rw [Zf]
  by_cases h : k < n
  · rw [if_pos h, show Nat.blt k n = true from Nat.ble_eq_true_of_le h]; rfl
  · rw [if_neg h, show Nat.blt k n = false from by
      cases hb : Nat.blt k n with
      | false => rfl
      | true => exact absurd (Nat.le_of_ble_eq_true hb) h]; rfl
def ah1 (k : Nat) (ys : List AV) (f : Nat → List AV) : Nat → List AV := fun j => aaW (Nat.beq j k) ys (f j)
theorem ah2 (k : Nat) (ys : List AV) (f : Nat → List AV) : ah1 k ys f = fun j => if j = k then ys else f j := by
  funext j
  unfold ah1
  rw [Zf]
  by_cases h : j = k
  · rw [if_pos h, h, Nat.beq_refl]; rfl
  · rw [if_neg h, show Nat.beq j k = false from by
      cases hb : Nat.beq j k with
      | false => rfl
      | true => exact absurd (Nat.eq_of_beq_eq_true hb) h]; rfl
def iP : List Bool → List AV → List AV → Option Bool
  | [], [], [] => some true
  | true :: ts, .int k a :: xs, .int k' b :: ys => if k = k' then (iP ts xs ys).map ((a == b) && ·) else none
  | false :: ts, .bool a :: xs, .bool b :: ys => (iP ts xs ys).map ((a == b) && ·)
  | _, _, _ => none
def abin (tt : TypeId → Option TI) (op : BinOp) (T : TypeId) (x y : AV) : LM EffG :=
  match x, y with
  | .int k a, .int k' b =>
    if k = k' then
      match op with
      | .add => .ret (.val (.int k (k.wrap (a + b))))
      | .sub => .ret (.val (.int k (k.wrap (a - b))))
      | .mul => .ret (.val (.int k (k.wrap (a * b))))
      | .quo => .ret (.when (b != 0) (.int k (k.wrap (a.tdiv b))))
      | .rem => .ret (.when (b != 0) (.int k (a.tmod b)))
      | .eql => .ret (.val (.bool (a == b)))
      | .neq => .ret (.val (.bool (a != b)))
      | .lss => .ret (.val (.bool (decide (a < b))))
      | .leq => .ret (.val (.bool (decide (a ≤ b))))
      | .gtr => .ret (.val (.bool (decide (a > b))))
      | .geq => .ret (.val (.bool (decide (a ≥ b))))
      | .shr => .ret (.when (decide (0 ≤ b ∧ b ≤ 8)) (.int k (a / 2 ^ b.toNat)))
      | _ => .fail
    else .fail
  | .bool a, .bool b =>
    match (tt T).map fun ti => (ti.eqc, ti.agg) with
    | some (some [false], false) =>
      match op with
      | .eql => .ret (.val (.bool (a == b)))
      | .neq => .ret (.val (.bool (!(a == b))))
      | _ => .fail
    | _ => .fail
  | .agg xs, .agg ys =>
    match (tt T).map fun ti => (ti.eqc, ti.agg) with
    | some (some ts, true) =>
      match iP ts xs ys with
      | some r =>
        match op with
        | .eql => .ret (.val (.bool r))
        | .neq => .ret (.val (.bool (!r)))
        | _ => .fail
      | none => .fail
    | _ => .fail
  | _, _ => .fail
def aun (op : UnOp) (x : AV) : LM EffG :=
  match op, x with
  | .neg, .int k n => .ret (.val (.int k (k.wrap (0 - n))))
  | .not, .bool b => .ret (.val (.bool !b))
  | _, _ => .fail
def apart (ti : TI) (cs : List AV) (off : Nat) : Option AV :=
  match Nat.ble (off + ti.size) cs.length with
  | true => match ti.agg with
    | true => some (.agg ((cs.drop off).take ti.size))
    | false => match Nat.beq ti.size 1 with
      | true => some (cs.getD off .undef)
      | false => none
  | false => none
def Fq : List (Nat × AV) → List AV → Nat → (Nat → Option (Nat × Nat)) → Option (List AV)
  | [], cells, _, _ => some cells
  | (i, v) :: rest, cells, d, place =>
    match place i with
    | none => none
    | some (off, size) =>
      match Nat.beq v.cells.length size && Nat.ble (off + size) cells.length && allB AV.one v.cells with
      | true => Fq rest (setAt cells off v.cells) d place
      | false => none
def Fp (tt : TypeId → Option TI) (S : TypeId) (i : Nat) : Option (Nat × TI) :=
  match tt S with
  | some ti => match ti.kind with
    | .struct fs => match fs[i]? with
      | some (o, t) => match tt t with
        | some fi => match Nat.blt 0 fi.size with
          | true => some (o, fi)
          | false => none
        | none => none
      | none => none
    | _ => none
  | none => none
def AR (tt : TypeId → Option TI) (T : TypeId) : Option (TypeId × TI) :=
  match tt T with
  | some ti => match ti.kind with
    | .slice e => match tt e with
      | some ei => match Nat.blt 0 ei.size with
        | true => some (e, ei)
        | false => none
      | none => none
    | _ => none
  | none => none
end Go.Proofs.YtmfiagdelnddkaaGreat.Ab
namespace Go.Proofs.YtmfiagdelnddkaaGreat.Ab
open Go
structure Tr where
  gp : Nat → Option Nat
  go : Nat → Nat → Option (Nat × Nat)
mutual
def AV.tr (t : Tr) : AV → AV
  | .agg cs => .agg (AV.trL t cs)
  | .tup cs => .tup (AV.trL t cs)
  | .fn f cs => .fn f (AV.trL t cs)
  | .own id ver => match t.go id ver with
    | some p => .own p.1 p.2
    | none => .undef
  | .rptr id ver sz k off => match t.go id ver with
    | some p => .rptr p.1 p.2 sz k off
    | none => .undef
  | .lptr id ver off => match t.go id ver with
    | some p => .lptr p.1 p.2 off
    | none => .undef
  | .ptr id off => match t.gp id with
    | some i => .ptr i off
    | none => .undef
  | .undef => .undef
  | .void => .void
  | .bool b => .bool b
  | .int k n => .int k n
  | .str s => .str s
  | .nilp => .nilp
  | .any1 => .any1
  | .raw v => .raw v
  | .slc sz n f => .slc sz n f
  | .pptr cs off => .pptr cs off
def AV.trL (t : Tr) : List AV → List AV
  | [] => []
  | v :: vs => AV.tr t v :: AV.trL t vs
end
def Blk.tr (t : Tr) (ver : Nat) : Blk → Blk
  | .var cells => .var (AV.trL t cells)
  | .row _ sz n e f => .row ver sz n e f
  | .nilrow _ => .nilrow ver
  | .lrow _ sz n e cells => .lrow ver sz n e (AV.trL t cells)
  | .dead _ => .dead ver
def Blk.ver : Blk → Nat
  | .var _ => 0
  | .row v _ _ _ _ => v
  | .nilrow v => v
  | .lrow v _ _ _ _ => v
  | .dead v => v
mutual
def AV.flat : AV → Bool
  | .agg cs => AV.flatL cs
  | .tup cs => AV.flatL cs
  | .fn _ cs => AV.flatL cs
  | .slc _ n _ => Nat.beq n 0
  | .pptr _ _ => false
  | _ => true
def AV.flatL : List AV → Bool
  | [] => true
  | v :: vs => match AV.flat v with
    | true => AV.flatL vs
    | false => false
end
def Blk.flat : Blk → Prop
  | .var cells => AV.flatL cells = true
  | .row _ _ n _ f => ∀ k, k < n → AV.flatL (f k) = true
  | .lrow _ _ _ _ cells => AV.flatL cells = true
  | _ => True
structure Ans extends Res where
  fl : α → Bool
  hfl : ∀ x, fl x = true → AV.flat (av x) = true ∧ ∀ b ∈ outs x, b.flat
inductive AX where
  | normal | exit (id : Nat) | ret
structure St where
  tm : List (Nat × AV)
  hp : List (Nat × Blk)
  c : Nat
structure LRes where
  α : Type
  β : Type
  get : Option (α ⊕ β)
  one : Bool
  axl : AX
  stl : α → St
  axr : AX
  str : β → St
  cas : (R : Type) → β → (St → Option R) → Option R
  hcas : ∀ R y κ, cas R y κ = κ (str y)
inductive PreC where
  | freeze (id : Nat)
  | asrow (id : Nat) (e : TypeId) (sz : Nat) (f : Nat → List AV)
structure Env where
  tt : TypeId → Option TI
  fs : FuncId → List AV → List Blk → Option Ans
  loops : Nat → Option (St → Option LRes)
  live : Nat → Option (List Nat × List Nat)
  fuel : Nat
  nt : Nat
  pre : Nat → List PreC
  gc : Nat → Option (List Nat)
  mm : Option Nat
def aget : List (Nat × AV) → Nat → AV
  | [], _ => .undef
  | (k, v) :: r, t => match Nat.beq k t with
    | true => v
    | false => aget r t
def hget : List (Nat × Blk) → Nat → Option Blk
  | [], _ => none
  | (k, v) :: r, t => match Nat.beq k t with
    | true => some v
    | false => hget r t
def hset : List (Nat × Blk) → Nat → Blk → List (Nat × Blk)
  | [], id, b => [(id, b)]
  | (k, x) :: r, id, b => match Nat.beq k id with
    | true => (k, b) :: r
    | false => (k, x) :: hset r id b
def aiw : List (Nat × Blk) → List (Nat × Blk) → List (Nat × Blk)
  | h, [] => h
  | h, (id, b) :: r => aiw (hset h id b) r
def number : Nat → List Blk → List (Nat × Blk)
  | _, [] => []
  | c, b :: bs => (c, b) :: number (c + 1) bs
def aev (tm : List (Nat × AV)) : Operand → AV
  | .tmp t => aget tm t
  | .const v => abq v
  | .func f => .fn f []
  | .global _ => .undef
def idx : List Nat → Nat → Option Nat
  | [], _ => none
  | x :: xs, y => match Nat.beq x y with
    | true => some 0
    | false => match idx xs y with
      | some i => some (i + 1)
      | none => none
def Dh (xs : List Nat) (y : Nat) : List Nat :=
  match idx xs y with
  | some _ => xs
  | none => xs ++ [y]
mutual
def AV.ptrs : AV → List Nat
  | .ptr id _ => [id]
  | .fn _ cs => AV.ptrsL cs
  | .agg cs => AV.ptrsL cs
  | .tup cs => AV.ptrsL cs
  | _ => []
def AV.ptrsL : List AV → List Nat
  | [] => []
  | v :: vs => AV.ptrs v ++ AV.ptrsL vs
end
mutual
def AV.owns : AV → List Nat
  | .own id _ => [id]
  | .fn _ cs => AV.ownsL cs
  | .agg cs => AV.ownsL cs
  | .tup cs => AV.ownsL cs
  | _ => []
def AV.ownsL : List AV → List Nat
  | [] => []
  | v :: vs => AV.owns v ++ AV.ownsL vs
end
def Blk.owns : Blk → List Nat
  | .var cells => AV.ownsL cells
  | .lrow _ _ _ _ cells => AV.ownsL cells
  | _ => []
def Blk.ptrs : Blk → List Nat
  | .var cells => AV.ptrsL cells
  | .lrow _ _ _ _ cells => AV.ptrsL cells
  | _ => []
def DL : List Nat → (List Blk → LM EffG) → LM EffG
  | [], k => k []
  | id :: ids, k => .look id fun b => DL ids fun bs => k (b :: bs)
def YM : AV → (AV → List (Nat × Nat) → LM EffG) → LM EffG
  | .own id ver, k => .look id fun
    | .row ver' sz n _ f => match Nat.beq ver ver' with
      | true => k (.slc sz n f) [(id, ver)]
      | false => .fail
    | .nilrow ver' => match Nat.beq ver ver' with
      | true => k (.slc 0 0 fun _ => []) []
      | false => .fail
    | _ => .fail
  | v, k => k v []
def ZY : List AV → (List AV → List (Nat × Nat) → LM EffG) → LM EffG
  | [], k => k [] []
  | v :: vs, k => YM v fun v' u => ZY vs fun vs' us => k (v' :: vs') (u ++ us)
def rowOf (sz : Nat) (cells : List AV) (k : Nat) : List AV := (cells.drop (k * sz)).take sz
def rowC (sz : Nat) : Nat → List AV → Nat → List AV
  | 0, cells, _ => rowOf sz cells 0
  | n + 1, cells, k => match n with
    | 0 => rowOf sz cells 0
    | n + 1 => aaW (Nat.beq k 0) (rowOf sz cells 0) (rowC sz (n + 1) (cells.drop sz) (k - 1))
def lend : AV → (AV → List (Nat × Nat) → LM EffG) → LM EffG
  | .own id ver, k => .look id fun
    | .lrow ver' sz n _ cells => match Nat.beq ver ver' with
      | true => ZY cells fun cells' u => match allB AV.plain cells' with
        | true => k (.slc sz n (rowC sz n cells')) ((id, ver) :: u)
        | false => .fail
      | false => .fail
    | _ => YM (.own id ver) k
  | v, k => YM v k
def ZX : List AV → (List AV → List (Nat × Nat) → LM EffG) → LM EffG
  | [], k => k [] []
  | .agg cs :: vs, k => ZY cs fun cs' u => ZX vs fun vs' us => k (.agg cs' :: vs') (u ++ us)
  | v :: vs, k => lend v fun v' u => ZX vs fun vs' us => k (v' :: vs') (u ++ us)
def OQ (ws : List Nat) : List AV → (List AV → List (Nat × Nat) → LM EffG) → LM EffG
  | [], k => k [] []
  | .agg cs :: vs, k => match idx ws vs.length with
    | some _ => OQ ws vs fun vs' us => k (.agg cs :: vs') us
    | none => ZY cs fun cs' u => OQ ws vs fun vs' us => k (.agg cs' :: vs') (u ++ us)
  | .own id ver :: vs, k => OQ ws vs fun vs' us => k (.own id ver :: vs') us
  | v :: vs, k => lend v fun v' u => OQ ws vs fun vs' us => k (v' :: vs') (u ++ us)
def AP (ws : List Nat) : List AV → List Nat
  | [] => []
  | .own id _ :: vs => id :: AP ws vs
  | .agg cs :: vs => match idx ws vs.length with
    | some _ => AV.ownsL cs ++ AP ws vs
    | none => AP ws vs
  | _ :: vs => AP ws vs
def trIn (ids vers : List Nat) : Tr := ⟨idx ids, fun id ver => match idx ids id with
  | some j => match Nat.beq ver (vers.getD j 0) with
    | true => some (j, 0)
    | false => none
  | none => none⟩
def Blk.isVar : Blk → Bool
  | .var _ => true
  | _ => false
def ai4 (ids : List Nat) (bs : List Blk) (c : Nat) : Tr :=
  ⟨fun j => some (match ids[j]? with | some id => id | none => c + (j - ids.length)),
   fun j ver => match ids[j]? with
    | some id => match bs[j]? with
      | some b => match b.isVar with
        | true => none
        | false => some (id, b.ver + ver)
      | none => none
    | none => some (c + (j - ids.length), 0)⟩
def VO (t : Tr) : List Blk → List Blk
  | [] => []
  | b :: bs => Blk.tr t 0 b :: VO t bs
def back (t : Tr) (b b' : Blk) : Blk :=
  match b.isVar, b'.isVar with
  | true, true => Blk.tr t 0 b'
  | false, false => Blk.tr t (b.ver + b'.ver) b'
  | _, _ => .dead (b.ver + 1)
def NR (t : Tr) : List Nat → List Blk → List Blk → List (Nat × Blk)
  | id :: ids, b :: bs, b' :: bs' => (id, back t b b') :: NR t ids bs bs'
  | _, _, _ => []
def aiD (ids : List Nat) (bor : List (Nat × Nat)) : Bool := allB (fun p => match idx ids p.1 with | some _ => false | none => true) bor
def aek (bor : List (Nat × Nat)) (fl : Bool) : List (Nat × Blk) :=
  match bor with
  | [] => []
  | _ => match fl with
    | true => []
    | false => bor.map fun p => (p.1, .dead (p.2 + 1))
def WR (ids : List Nat) (bs : List Blk) : List Nat := (bs.flatMap fun b => Blk.owns b ++ Blk.ptrs b).foldl Dh ids
def retP : List PreC → Nat → Option (Nat × (Nat → List AV))
  | [], _ => none
  | .asrow id _ sz f :: l, i => match Nat.beq id i with
    | true => some (sz, f)
    | false => retP l i
  | .freeze _ :: l, i => retP l i
def retF (l : List PreC) (i : Nat) (x : AV) : AV := match x with
  | .slc sz n f => match sz with
    | 0 => match n with
      | 0 => match retP l i with
        | some p => .slc p.1 0 p.2
        | none => .slc 0 0 f
      | n + 1 => .slc 0 (n + 1) f
    | sz + 1 => .slc (sz + 1) n f
  | x => x
def retL (l : List PreC) : Nat → List AV → List AV
  | _, [] => []
  | i, x :: xs => retF l i x :: retL l (i + 1) xs
def ret1 (l : List PreC) (i : Nat) (x : AV) : AV := match x with
  | .agg cs => .agg (retL l (i + 1) cs)
  | x => retF l i x
def retA (l : List PreC) : Nat → List AV → List AV
  | _, [] => []
  | i, x :: xs => ret1 l i x :: retA l (i + 64) xs
def retC (l : List PreC) (xs : List AV) : List AV := match l with
  | [] => xs
  | e :: l => retA (e :: l) 0 xs
def aie (E : Env) (f : FuncId) (args : List AV) (c : Nat) : LM EffG :=
  let mt := E.live (2000000 + f)
  let ids0 := (match mt with | some p => AP p.1 args ++ AV.ptrsL args | none => AV.ptrsL args).foldl Dh []
  DL ids0 fun bs0 =>
  DL (WR ids0 bs0) fun bs1 =>
  DL (WR (WR ids0 bs0) bs1) fun bs2 =>
  let ids := WR (WR (WR ids0 bs0) bs1) bs2
  DL ids fun bs =>
  (match mt with | some p => OQ p.1 args | none => ZX args) fun args' bor =>
  match aiD ids bor with
  | false => .fail
  | true =>
    match E.fs f (AV.trL (trIn ids (bs.map Blk.ver)) (retC (E.pre (8000000 + f)) args')) (VO (trIn ids (bs.map Blk.ver)) bs) with
    | none => .fail
    | some r => .ret ⟨true, r.α, r.get, fun x =>
        ⟨AV.tr (ai4 ids bs c) (r.av x),
          NR (ai4 ids bs c) ids bs (r.outs x) ++ aek bor (r.fl x),
          ((r.outs x).drop ids.length).map (Blk.tr (ai4 ids bs c) 0)⟩⟩
def YG : AV → AV
  | .own _ _ => .any1
  | v => v
def ahe : AV → AV
  | .agg cs => .agg (cs.map YG)
  | v => YG v
def Mj (l : Option (List Nat × List Nat)) : Nat → List AV → List AV
  | _, [] => []
  | i, x :: xs => (match l with | none => x | some p => match idx p.1 i with | some _ => ahe x | none => x) :: Mj l (i + 1) xs
def ajC : AV → (Nat → LM EffG) → LM EffG
  | .slc _ n _, k => k n
  | .str s, k => k s.size
  | .own id ver, k => .look id fun
    | .row ver' _ n _ _ => match Nat.beq ver ver' with
      | true => k n
      | false => .fail
    | .nilrow ver' => match Nat.beq ver ver' with
      | true => k 0
      | false => .fail
    | .lrow ver' _ n _ _ => match Nat.beq ver ver' with
      | true => k n
      | false => .fail
    | _ => .fail
  | _, _ => .fail
def Yd (least : Bool) : AV → List AV → LM EffG
  | x, [] => .ret (.val x)
  | .int k x, .int k' y :: r => if k = k' then Yd least (.int k (match least with | true => if y < x then y else x | false => if x < y then y else x)) r else .fail
  | _, _ => .fail
def Ya (e : TypeId) (ei : TI) (s : AV) (isnil : Bool) (c : Nat) (m : Nat) (g : Nat → List AV) : LM EffG :=
  match isnil with
  | true => .ret ⟨decide (m * ei.bytes ≤ 140737488355328 ∧ m ≤ 1099511627776), Unit, some (), fun _ => ⟨.own c 0, [], [.row 0 ei.size m e g]⟩⟩
  | false =>
    match s with
    | .own id ver => .look id fun
      | .row ver' sz n e' f => match Nat.beq ver ver' && Nat.beq e e' && Nat.beq sz ei.size with
        | true => .ret ⟨decide ((n + m) * ei.bytes ≤ 140737488355328 ∧ n + m ≤ 1099511627776), Unit, some (), fun _ =>
            ⟨.own id (ver + 1), [(id, .row (ver + 1) sz (n + m) e (agT n f g))], []⟩⟩
        | false => .fail
      | .nilrow ver' => match Nat.beq ver ver' with
        | true => .ret ⟨decide (m * ei.bytes ≤ 140737488355328 ∧ m ≤ 1099511627776), Unit, some (), fun _ =>
            ⟨.own id (ver + 1), [(id, .row (ver + 1) ei.size m e g)], []⟩⟩
        | false => .fail
      | _ => .fail
    | _ => .fail
def abl (e : TypeId) (ei : TI) (s : AV) (isnil : Bool) (c : Nat) (m : Nat) (cs : List AV) : LM EffG :=
  match isnil with
  | true => .ret ⟨decide (m * ei.bytes ≤ 140737488355328 ∧ m ≤ 1099511627776), Unit, some (), fun _ => ⟨.own c 0, [], [.lrow 0 ei.size m e cs]⟩⟩
  | false =>
    match s with
    | .own id ver => .look id fun
      | .lrow ver' sz n e' cs0 => match Nat.beq ver ver' && Nat.beq e e' && Nat.beq sz ei.size with
        | true => .ret ⟨decide ((n + m) * ei.bytes ≤ 140737488355328 ∧ n + m ≤ 1099511627776), Unit, some (), fun _ =>
            ⟨.own id (ver + 1), [(id, .lrow (ver + 1) sz (n + m) e (cs0 ++ cs))], []⟩⟩
        | false => .fail
      | .nilrow ver' => match Nat.beq ver ver' with
        | true => .ret ⟨decide (m * ei.bytes ≤ 140737488355328 ∧ m ≤ 1099511627776), Unit, some (), fun _ =>
            ⟨.own id (ver + 1), [(id, .lrow (ver + 1) ei.size m e cs)], []⟩⟩
        | false => .fail
      | _ => .fail
    | _ => .fail
def abk (e : TypeId) (ei : TI) (s : AV) (isnil : Bool) (c : Nat) : AV → LM EffG
  | .slc sz m g => match Nat.beq sz ei.size || Nat.beq m 0 with
    | true => Ya e ei s isnil c m g
    | false => .fail
  | .own id ver => .look id fun
    | .row ver' sz m _ g => match Nat.beq ver ver' && Nat.beq sz ei.size with
      | true => Ya e ei s isnil c m g
      | false => .fail
    | .nilrow ver' => match Nat.beq ver ver' with
      | true => Ya e ei s isnil c 0 fun _ => []
      | false => .fail
    | .lrow ver' sz m _ cs => match Nat.beq ver ver' && Nat.beq sz ei.size with
      | true => abl e ei s isnil c m cs
      | false => .fail
    | _ => .fail
  | _ => .fail
def ae2 (E : Env) (b : Builtin) (types : Array TypeId) (ops : Array Operand) (args : List AV) (c : Nat) : LM EffG :=
  match b, args with
  | .len, [x] => match (types[0]?).bind E.tt with
    | some ti => match ti.kind with
      | .slice _ => (match x with | .str _ => .fail | _ => ajC x fun n => .ret (.val (.int .i64 n)))
      | .str => (match x with | .str s => .ret (.val (.int .i64 s.size)) | _ => .fail)
      | _ => .fail
    | none => .fail
  | .min, x :: xs => Yd true x xs
  | .max, x :: xs => Yd false x xs
  | .append, [s, x] => match types[0]?, types[1]? with
    | some t, some t2 => match Nat.beq t t2 with
      | true => match AR E.tt t with
        | some (e, ei) => abk e ei s (match ops[0]? with | some o => Aj o | none => false) c x
        | none => .fail
      | false => .fail
    | _, _ => .fail
  | _, _ => .fail
def ajD (ti : TI) : AV → LM EffG
  | .ptr id off => .look id fun
    | .var cells => match apart ti cells off with
      | some v => .ret (.val v)
      | none => .fail
    | _ => .fail
  | .rptr id ver sz k off => .look id fun
    | .row ver' sz' _ _ f => match Nat.beq ver ver' && Nat.beq sz sz' with
      | true => match Nat.ble (off + ti.size) sz with
        | true => match ti.agg with
          | true => .ret (.val (.agg (((f k).drop off).take ti.size)))
          | false => match Nat.beq ti.size 1 with
            | true => .ret (.val ((f k).getD off .undef))
            | false => .fail
        | false => .fail
      | false => .fail
    | _ => .fail
  | .pptr cs off => match apart ti cs off with
    | some v => .ret (.val v)
    | none => .fail
  | .lptr id ver off => .look id fun
    | .lrow ver' _ _ _ cells => match Nat.beq ver ver' with
      | true => match apart ti cells off with
        | some v => .ret (.val v)
        | none => .fail
      | false => .fail
    | _ => .fail
  | _ => .fail
def agZ (s : ByteArray) (n : Int) : Int := match s[n.toNat]? with
  | some b => b.toNat
  | none => 0
def aaK (ti : TI) (a : AV) (xs : List AV) (news : List Blk) : LM EffG :=
  match Nat.beq xs.length ti.size && allB AV.one xs with
  | false => .fail
  | true =>
    match a with
    | .ptr id off => .look id fun
      | .var cells => match Nat.ble (off + ti.size) cells.length with
        | true => .ret (.of ⟨.void, [(id, .var (setAt cells off xs))], news⟩)
        | false => .fail
      | _ => .fail
    | .rptr id ver sz k off => MK xs fun xs' u => .look id fun
      | .row ver' sz' n e f => match Nat.beq ver ver' && Nat.beq sz sz' && Nat.ble (off + ti.size) sz && aiD [id] (u.map fun p => (p.1, 0)) with
        | true => .ret (.of ⟨.void, (id, .row ver sz n e (ah1 k (setAt (f k) off xs') f)) :: u, []⟩)
        | false => .fail
      | _ => .fail
    | .lptr id ver off => match news with
      | [] => .look id fun
        | .lrow ver' sz n e cells => match Nat.beq ver ver' && Nat.ble (off + ti.size) cells.length with
          | true => .ret (.of ⟨.void, [(id, .lrow ver sz n e (setAt cells off xs))], []⟩)
          | false => .fail
        | _ => .fail
      | _ => .fail
    | _ => .fail
def repl (zs : List AV) : Nat → List AV
  | 0 => []
  | n + 1 => zs ++ repl zs n
def agJ (a : AV) (o : Nat) : LM EffG :=
  match a with
  | .ptr id off => .ret (.val (.ptr id (off + o)))
  | .rptr id ver sz k off => .ret (.val (.rptr id ver sz k (off + o)))
  | .pptr cs off => .ret (.val (.pptr cs (off + o)))
  | .lptr id ver off => .ret (.val (.lptr id ver (off + o)))
  | _ => .fail
def idxL (id ver sz : Nat) (j : Int) : Nat → Nat → LM EffG
  | 0, _ => .fail
  | n + 1, k => .case (decide (j = (k : Int))) (.ret (.val (.lptr id ver (k * sz)))) (idxL id ver sz j n (k + 1))
def ae4 : List AV → Bool
  | [] => false
  | .own _ _ :: _ => true
  | _ :: r => ae4 r
def szOk (size : Nat) : AV → Bool
  | .slc sz n _ => Nat.beq sz size || Nat.beq n 0
  | _ => true
def aslice (x : AV) (lo hi : Option AV) (upd : List (Nat × Blk)) : LM EffG :=
  match x, lo, hi with
  | .slc sz n f, none, none => .ret (.of ⟨.slc sz n f, upd, []⟩)
  | .slc sz n f, some (.int _ l), none => .ret ⟨decide (0 ≤ l ∧ l ≤ n), Unit, some (), fun _ => ⟨.slc sz (n - l.toNat) fun k => f (k + l.toNat), upd, []⟩⟩
  | .slc sz n f, none, some (.int _ h) => .ret ⟨decide (0 ≤ h ∧ h ≤ n), Unit, some (), fun _ => ⟨.slc sz h.toNat f, upd, []⟩⟩
  | .slc sz n f, some (.int _ l), some (.int _ h) => .ret ⟨decide (0 ≤ l ∧ l ≤ h ∧ h ≤ n), Unit, some (), fun _ => ⟨.slc sz (h.toNat - l.toNat) fun k => f (k + l.toNat), upd, []⟩⟩
  | _, _, _ => .fail
def isEq : BinOp → Option Bool
  | .eql => some true
  | .neq => some false
  | _ => none
def anil (tt : TypeId → Option TI) (op : BinOp) (T : TypeId) (x : AV) : LM EffG :=
  match (tt T).map TI.kind, isEq op with
  | some (.slice _), some b => match x with
    | .slc _ n _ => .ret (.when (decide (0 < n)) (.bool !b))
    | .own id ver => .look id fun
      | .row ver' _ n _ _ => match Nat.beq ver ver' with
        | true => .ret (.when (decide (0 < n)) (.bool !b))
        | false => .fail
      | .nilrow ver' => match Nat.beq ver ver' with
        | true => .ret (.val (.bool b))
        | false => .fail
      | _ => .fail
    | _ => .fail
  | _, _ => .fail
def ae3 (E : Env) (d : Option Nat) (c : Nat) : LM EffG := match d with
  | none => .ret (.of ⟨.own c 0, [], [.nilrow 0]⟩)
  | some t => match E.gc (6000000 + t) with
    | some (i :: _) => match Nat.beq i c with
      | true => .ret (.of ⟨.own c 0, [], [.nilrow 0]⟩)
      | false => .look i fun
        | .nilrow v => .ret (.val (.own i v))
        | _ => .fail
    | _ => .ret (.of ⟨.own c 0, [], [.nilrow 0]⟩)
def aop (E : Env) (o : Oper) (ρ : Operand → AV) (c : Nat) : LM EffG :=
  match o.op with
  | .move x | .assign x =>
    match Aj x with
    | true => ae3 E o.dst c
    | false => .ret (.val (ρ x))
  | .pick t a b => match ρ t with
    | .bool t => .ret (.val (agP t (ρ a) (ρ b)))
    | _ => .fail
  | .alloc T => match E.tt T with
    | some ti => .ret (.of ⟨.ptr c 0, [], .var (yF ti.zero (c + 1)) :: yZ (wV ti.zero)⟩)
    | none => .fail
  | .box _ x =>
    match Aj x with
    | true => .ret (.of ⟨.ptr c 0, [], [.var [.own (c + 1) 0], .nilrow 0]⟩)
    | false => match allB AV.one (ρ x).cells with
      | true => .ret (.of ⟨.ptr c 0, [], [.var (ρ x).cells]⟩)
      | false => .fail
  | .build T parts => match E.tt T with
    | some ti => match ti.kind with
      | .struct fs => match allB (fun p => (E.tt p.2).isSome) fs with
       | false => .fail
       | true => match Fq (parts.toList.map fun p => (p.1, ρ p.2)) (yF ti.zero c) 0 (fun i => (Fp E.tt T i).map fun p => (p.1, p.2.size)) with
        | some cells => .ret (.of ⟨.agg cells, [], yZ (wV ti.zero)⟩)
        | none => .fail
      | _ => .fail
    | none => .fail
  | .buildSlice T len parts => match AR E.tt T with
    | some (e, ei) => match Nat.ble (len * ei.size) 16777216 with
      | true => match Fq (parts.toList.map fun p => (p.1, ρ p.2)) (repl (xC ei.zero) len) 0 (fun i => some (i * ei.size, ei.size)) with
        | some cells => match (E.live 1000001).isSome && (ae4 cells && Nat.blt 0 len) with
          | true => .ret (.of ⟨.own c 0, [], [.lrow 0 ei.size len e cells]⟩)
          | false => MK cells fun cells' u => .ret (.of ⟨.own c 0, u, [.row 0 ei.size len e (rowC ei.size len cells')]⟩)
        | none => .fail
      | false => .fail
    | none => .fail
  | .load T a => match E.tt T with
    | some ti => ajD ti (ρ a)
    | none => .fail
  | .store T a x => match E.tt T with
    | some ti =>
      match Aj x with
      | true => aaK ti (ρ a) [.own c 0] [.nilrow 0]
      | false => aaK ti (ρ a) (ρ x).cells []
    | none => .fail
  | .nilCheck x => match ρ x with
    | .ptr id off => .ret (.val (.ptr id off))
    | .rptr id ver sz k off => .ret (.val (.rptr id ver sz k off))
    | .pptr cs off => .ret (.val (.pptr cs off))
    | .lptr id ver off => .ret (.val (.lptr id ver off))
    | .fn f cs => .ret (.val (.fn f cs))
    | _ => .fail
  | .binOp op T x y _ => match Aj y with
    | true => anil E.tt op T (ρ x)
    | false => abin E.tt op T (ρ x) (ρ y)
  | .makeSlice T l m => match AR E.tt T, ρ l, ρ m with
    | some (e, ei), .int _ n, .int _ q => match E.live 1000000 with
      | none => .ret ⟨decide (0 ≤ n ∧ n ≤ q ∧ q * ei.bytes ≤ 140737488355328 ∧ q ≤ 1099511627776), Unit, some (), fun _ => ⟨.own c 0, [], [.row 0 ei.size n.toNat e fun _ => xC ei.zero]⟩⟩
      | some _ => .ret (.when (decide (0 ≤ n ∧ n ≤ q ∧ q * ei.bytes ≤ 140737488355328 ∧ q ≤ 1099511627776)) (.slc ei.size n.toNat fun _ => xC ei.zero))
    | _, _, _ => .fail
  | .unOp op _ x => aun op (ρ x)
  | .convert s d x => match E.tt s, E.tt d, ρ x with
    | some si, some di, .int _ n => match si.kind, di.kind with
      | .int _, .int k => .ret (.val (.int k (k.wrap n)))
      | _, _ => .fail
    | _, _, _ => .fail
  | .makeFunc (.func f) first cap => match first.toList with
    | [] => .ret (.val (.fn f (cap.toList.map ρ)))
    | _ => .fail
  | .slice T x lo hi none => match AR E.tt T with
    | some (_, ei) => YX (ρ x) fun x' u => match szOk ei.size x' with
      | true => aslice x' (lo.map ρ) (hi.map ρ) u
      | false => .fail
    | none => .fail
  | .fieldAddr S x i => match Fp E.tt S i with
    | some (off, _) => agJ (ρ x) off
    | none => .fail
  | .field S x i => match Fp E.tt S i, ρ x with
    | some (off, fi), .agg cs => match apart fi cs off with
      | some v => .ret (.val v)
      | none => .fail
    | _, _ => .fail
  | .indexAddr T x i => match AR E.tt T, ρ x, ρ i with
    | some (_, ei), .slc sz n f, .int _ j => match Nat.beq sz ei.size with
      | true => .ret (.when (decide (0 ≤ j ∧ j < n)) (.pptr (f j.toNat) 0))
      | false => .fail
    | some (_, ei), .own id ver, .int _ j => .look id fun
      | .row ver' sz n _ _ => match Nat.beq ver ver' && Nat.beq sz ei.size with
        | true => .ret (.when (decide (0 ≤ j ∧ j < n)) (.rptr id ver sz j.toNat 0))
        | false => .fail
      | .lrow ver' sz n _ _ => match Nat.beq ver ver' && Nat.beq sz ei.size with
        | true => idxL id ver sz j n 0
        | false => .fail
      | _ => .fail
    | _, _, _ => .fail
  | .index T x i => match E.tt T, ρ x, ρ i with
    | some ti, .str s, .int _ n => match ti.kind with
      | .str => .ret (.when (decide (0 ≤ n ∧ n < (s.size : Int))) (.int .u8 (agZ s n)))
      | _ => .fail
    | _, _, _ => .fail
  | .extract t i => match ρ t with
    | .tup vs => match vs[i]? with
      | some v => .ret (.val v)
      | none => .fail
    | _ => .fail
  | .call cl =>
    match cl.callee with
    | .builtin b => ae2 E b cl.argTypes cl.args (cl.args.toList.map ρ) c
    | .value f => match ρ f with
      | .fn g caps => aie E g (Mj (E.live (3000000 + g)) 0 (cl.args.toList.map ρ ++ caps)) c
      | _ => .fail
    | _ => .fail
  | _ => .fail
end Go.Proofs.YtmfiagdelnddkaaGreat.Ab
namespace Go.Proofs.YtmfiagdelnddkaaGreat.Ab
open Go
structure Rec where
  dst : Option Nat
  val : AV
  rd : List Nat
  wr : List (Nat × Blk)
def abB (ops : Array Oper) (j : Nat) : Option Nat := (ops[j]?).bind (·.dst)
def tmpsOf (ops : Array Oper) (o : Oper) : List Nat :=
  (o.op.operands.toList.filterMap fun | .tmp t => some t | _ => none) ++ (match o.guard with | some (j, _) => (abB ops j).toList | none => [])
def ahD (tm : List (Nat × AV)) (d : Option Nat) (v : AV) : List (Nat × AV) :=
  match d with
  | some t => (t, v) :: tm
  | none => tm
def aep (nt : Nat) : Option Nat → Bool
  | some t => Nat.blt t nt
  | none => true
def agV {R : Type} (E : Env) (o : Oper) (ci : Nat) (st : St) (rs : List Rec) (k : St → List Rec → Option R) : Option R :=
  match aep E.nt o.dst with
  | false => none
  | true =>
    (aop E o (aev st.tm) ci).runK (hget st.hp) fun rd g =>
      match g.req with
      | false => none
      | true =>
        match g.get with
        | none => none
        | some x =>
          match Nat.ble (g.eff x).news.length 64 && allB (fun p => (hget st.hp p.1).isSome) (g.eff x).upd with
          | false => none
          | true => k ⟨ahD st.tm o.dst (g.eff x).val, aiw st.hp ((g.eff x).upd ++ number ci (g.eff x).news), st.c⟩
              (rs ++ [⟨o.dst, (g.eff x).val, rd, (g.eff x).upd ++ number ci (g.eff x).news⟩])
def acX {R : Type} (E : Env) (o : Oper) (st : St) (rs : List Rec) (k : St → List Rec → Option R) : Option R :=
  match aep E.nt o.dst with
  | false => none
  | true => k ⟨ahD st.tm o.dst .void, st.hp, st.c⟩ (rs ++ [⟨o.dst, .void, [], []⟩])
def agW {R : Type} (E : Env) (ops : Array Oper) (o : Oper) (ci : Nat) (st : St) (rs : List Rec) (k : St → List Rec → Option R) : Option R :=
  match o.guard with
  | none => agV E o ci st rs k
  | some (j, want) =>
    match abB ops j with
    | none => none
    | some t =>
      match aget st.tm t with
      | .bool b =>
        match b with
        | true => match want with
          | true => agV E o ci ⟨(t, .bool true) :: st.tm, st.hp, st.c⟩ rs k
          | false => acX E o ⟨(t, .bool true) :: st.tm, st.hp, st.c⟩ rs k
        | false => match want with
          | true => acX E o ⟨(t, .bool false) :: st.tm, st.hp, st.c⟩ rs k
          | false => agV E o ci ⟨(t, .bool false) :: st.tm, st.hp, st.c⟩ rs k
      | .void => acX E o st rs k
      | _ => none
def aops {R : Type} (E : Env) (ops : Array Oper) : List Oper → Nat → St → List Rec → (St → List Rec → Option R) → Option R
  | [], _, st, rs, k => k st rs
  | o :: rest, ci, st, rs, k => agW E ops o ci st rs fun st' rs' => aops E ops rest (ci + 64) st' rs' k
def PK (ms : List Nat) (o : Oper) : Nat := o.after.toList.foldl (fun s e => match Region.binds .any e with | true => s ||| 2 ^ e.on ||| ms.getD e.on 0 | false => s) 0
def masks : List Oper → List Nat → List Nat
  | [], ms => ms
  | o :: rest, ms => masks rest (ms ++ [PK ms o])
def forward : List Oper → Nat → Bool
  | [], _ => true
  | o :: rest, i => allB (fun e => match Region.binds .any e with | true => Nat.blt e.on i | false => true) o.after.toList && forward rest (i + 1)
def hit (xs ys : List Nat) : Bool := xs.any fun x => ys.any fun y => Nat.beq x y
def free (ti : List Nat) (ri : Rec) (tj : List Nat) (rj : Rec) : Bool :=
  let wi := ri.wr.map (·.1)
  let wj := rj.wr.map (·.1)
  !(hit wi (rj.rd ++ wj) || hit wj ri.rd || hit ri.dst.toList (tj ++ rj.dst.toList) || hit rj.dst.toList ti)
def abD (j mj : Nat) (tj : List Nat) (rj : Rec) : List (List Nat × Rec) → Nat → Bool
  | [], _ => true
  | (ti, ri) :: rest, i => (Nat.testBit mj i || free ti ri tj rj) && abD j mj tj rj rest (i + 1)
def indep : List (List Nat × Rec) → List (List Nat × Rec) → List Nat → Bool
  | _, [], _ => true
  | done, (tj, rj) :: rest, m :: ms => abD done.length m tj rj done 0 && indep (done ++ [(tj, rj)]) rest ms
  | _, _, [] => false
def aiE (ops : Array Oper) (rs : List Rec) : Bool :=
  forward ops.toList 0 && indep [] ((ops.toList.map (tmpsOf ops)).zip rs) (masks ops.toList [])
def aef {R : Type} (E : Env) (ops : Array Oper) (draw : Bool) (st : St) (k : St → Option R) : Option R :=
  aops E ops ops.toList st.c st [] fun st' rs =>
    match draw with
    | false => k ⟨st'.tm, st'.hp, st.c + 64 * ops.size⟩
    | true => match aiE ops rs with
      | true => k ⟨st'.tm, st'.hp, st.c + 64 * ops.size⟩
      | false => none
def WK (h : List (Nat × Blk)) (q : Nat → Bool) (tv : Nat → Nat → Nat) : Tr :=
  ⟨fun id => match q id with | true => some id | false => none,
   fun id ver => match q id with
    | true => match hget h id with
      | some b => match Nat.beq ver b.ver && !b.isVar with
        | true => some (id, tv id ver)
        | false => none
      | none => none
    | false => none⟩
def trHp (t : Tr) (q : Nat → Bool) (tv : Nat → Nat → Nat) : List (Nat × Blk) → List (Nat × Blk)
  | [] => []
  | (id, b) :: r => match q id with
    | true => (id, Blk.tr t (tv id b.ver) b) :: trHp t q tv r
    | false => trHp t q tv r
def trTm (t : Tr) : List (Nat × AV) → List (Nat × AV)
  | [] => []
  | (i, v) :: r => (i, AV.tr t v) :: trTm t r
def VX (tm : List (Nat × AV)) : List Nat → List (Nat × AV)
  | [] => []
  | t :: ts => (t, aget tm t) :: VX tm ts
def nrm (q : Nat → Bool) (tv : Nat → Nat → Nat) (live : Option (List Nat)) (c : Nat) (st : St) : St :=
  ⟨match live with
    | some l => trTm (WK st.hp q tv) (VX st.tm l)
    | none => trTm (WK st.hp q tv) st.tm,
   trHp (WK st.hp q tv) q tv st.hp, c⟩
def memN : List Nat → Nat → Bool
  | [], _ => false
  | x :: xs, y => match Nat.beq x y with
    | true => true
    | false => memN xs y
def afU (E : Env) (r c : Nat) (id : Nat) : Bool := match Nat.blt id c with
  | false => false
  | true => match E.mm with
    | none => true
    | some m => match E.gc r with
      | none => true
      | some l => match Nat.blt id m with
        | true => true
        | false => memN l id
def dz : Code → Nat
  | .region id _ _ => id
  | .seq a _ => dz a
  | .cond _ a _ => dz a
  | .block _ a => dz a
  | .loop a => dz a
  | .scope a => dz a
  | _ => 0
def Wu {R : Type} (body : St → (AX → St → Option R) → Option R) (hd ex : St → St) : Nat → St → (AX → St → Option R) → Option R
  | 0, _, _ => none
  | n + 1, s, k => body s fun
    | .normal, s' => Wu body hd ex n (hd s') k
    | .exit id, s' => k (.exit id) (ex s')
    | .ret, s' => k .ret (ex s')
def aeC : Option (List Nat × List Nat) → Option (List Nat)
  | some ([], _ :: l) => some l
  | _ => none
def akI (E : Env) (c : Code) : Nat := match E.live (dz c) with
  | some ([], n :: _) => n
  | _ => E.fuel
def nrmK (q : Nat → Bool) (tv : Nat → Nat → Nat) (ka : Option (List Nat)) (live : Option (List Nat)) (n : Nat) (st : St) : St :=
  match ka with
  | some l => ⟨VX st.tm l, st.hp, st.c⟩
  | none => nrm q tv live n st
def tvOf (E : Env) (r id ver : Nat) : Nat := match E.mm with
  | none => 0
  | some m => match Nat.blt id m with
    | false => 0
    | true => match ver with
      | 0 => match E.gc (4000000 + r) with
        | some l => match memN l id with
          | true => 1
          | false => 0
        | none => 0
      | _ + 1 => 1
def Ck (E : Env) (c : Code) (n : Nat) : St → St := nrmK (afU E (dz c) n) (tvOf E (dz c)) (aeC (E.live (dz c))) ((E.live (dz c)).map (·.1)) n
def Sj (E : Env) (c : Code) (n : Nat) : St → St := nrmK (afU E (dz c) n) (tvOf E (dz c)) (aeC (E.live (dz c))) ((E.live (dz c)).map (·.2)) n
def szC : Code → Nat
  | .region _ ops _ => 64 * ops.size
  | .seq a b => szC a + szC b
  | .cond _ a b => szC a + szC b
  | .block _ a => szC a
  | _ => 0
def lift (c : Nat) (st : St) : St := ⟨st.tm, st.hp, match Nat.ble st.c c with | true => c | false => st.c⟩
mutual
def AV.fz (i v sz n : Nat) (f : Nat → List AV) : AV → AV
  | .own id ver => match Nat.beq id i && Nat.beq ver v with
    | true => .slc sz n f
    | false => .own id ver
  | .agg cs => .agg (AV.fzL i v sz n f cs)
  | .tup cs => .tup (AV.fzL i v sz n f cs)
  | .fn g cs => .fn g (AV.fzL i v sz n f cs)
  | .undef => .undef
  | .void => .void
  | .bool b => .bool b
  | .int k n => .int k n
  | .str s => .str s
  | .nilp => .nilp
  | .any1 => .any1
  | .raw v => .raw v
  | .slc sz n f => .slc sz n f
  | .ptr id off => .ptr id off
  | .rptr id ver sz k off => .rptr id ver sz k off
  | .pptr cs off => .pptr cs off
  | .lptr id ver off => .lptr id ver off
def AV.fzL (i v sz n : Nat) (f : Nat → List AV) : List AV → List AV
  | [] => []
  | x :: xs => AV.fz i v sz n f x :: AV.fzL i v sz n f xs
end
def Blk.fz (i v sz n : Nat) (f : Nat → List AV) : Blk → Blk
  | .var cells => .var (AV.fzL i v sz n f cells)
  | .lrow ver s m e cells => .lrow ver s m e (AV.fzL i v sz n f cells)
  | b => b
def fzTm (i v sz n : Nat) (f : Nat → List AV) : List (Nat × AV) → List (Nat × AV)
  | [] => []
  | (t, x) :: r => (t, AV.fz i v sz n f x) :: fzTm i v sz n f r
def fzHp (i v sz n : Nat) (f : Nat → List AV) : List (Nat × Blk) → List (Nat × Blk)
  | [] => []
  | (id, b) :: r => (id, Blk.fz i v sz n f b) :: fzHp i v sz n f r
def ae8 (p : PreC) (st : St) : St := match p with
  | .freeze id => match hget st.hp id with
    | some (.row ver sz n _ f) => ⟨fzTm id ver sz n f st.tm, hset (fzHp id ver sz n f st.hp) id (.dead (ver + 1)), st.c⟩
    | some (.nilrow ver) => ⟨fzTm id ver 1 0 (fun _ => []) st.tm, hset (fzHp id ver 1 0 (fun _ => []) st.hp) id (.dead (ver + 1)), st.c⟩
    | _ => st
  | .asrow id e sz f => match hget st.hp id with
    | some (.nilrow ver) => match Nat.blt 0 sz with
      | true => ⟨st.tm, hset st.hp id (.row ver sz 0 e f), st.c⟩
      | false => st
    | _ => st
def QC : List PreC → St → St
  | [], st => st
  | p :: ps, st => QC ps (ae8 p st)
def known : Operand → Bool → St → St
  | .tmp t, b, st => ⟨(t, .bool b) :: st.tm, st.hp, st.c⟩
  | _, _, st => st
def Cw {R : Type} (E : Env) : Code → St → (AX → St → Option R) → Option R
  | .skip, st, k => k .normal st
  | .region id ops draw, st, k => aef E ops draw (QC (E.pre id) st) fun st' => k .normal st'
  | .seq a b, st, k => Cw E a st fun
    | .normal, st' => Cw E b st' k
    | .exit id, st' => k (.exit id) st'
    | .ret, st' => k .ret st'
  | .cond c x y, st, k => match aev st.tm c with
    | .bool b => match b with
      | true => Cw E x (known c true st) fun ax st' => k ax (lift (st.c + szC x + szC y) st')
      | false => Cw E y (known c false st) fun ax st' => k ax (lift (st.c + szC x + szC y) st')
    | _ => none
  | .block id c, st, k => Cw E c st fun
    | .normal, st' => k .normal (lift (st.c + szC c) st')
    | .exit id', st' => match Nat.beq id' id with
      | true => k .normal (lift (st.c + szC c) st')
      | false => k (.exit id') st'
    | .ret, st' => k .ret st'
  | .loop c, st, k => match E.loops (dz c) with
    | some f => match f (Ck E c st.c (QC (E.pre (1000000 + dz c)) st)) with
      | some r => match r.get with
        | some (.inl x) => k r.axl (r.stl x)
        | some (.inr y) => match r.one with
          | true => none
          | false => r.cas R y (k r.axr)
        | none => none
      | none => none
    | none => Wu (fun s j => Cw E c s j) (Ck E c st.c) (Sj E c st.c) (akI E c) (Ck E c st.c (QC (E.pre (1000000 + dz c)) st)) k
  | .exit id, st, k => k (.exit id) st
  | .ret, st, k => k .ret st
  | _, _, _ => none
def Mk (E : Env) (st : St) : List ResultVar → Option (List AV)
  | [] => some []
  | .tmp t :: r => match Mk E st r with
    | some vs => some (aget st.tm t :: vs)
    | none => none
  | .cell a T :: r => match aget st.tm a, E.tt T with
    | .ptr id off, some ti => match hget st.hp id with
      | some (.var cells) => match apart ti cells off with
        | some v => match Mk E st r with
          | some vs => some (v :: vs)
          | none => none
        | none => none
      | _ => none
    | _, _ => none
def pack : List AV → AV
  | [v] => v
  | vs => .tup vs
def expV (kv : Bool) (m j v : Nat) : Nat := match Nat.blt j m with
  | false => 0
  | true => match kv with
    | false => 1
    | true => match v with
      | 0 => 0
      | _ + 1 => 1
def kvOf (E : Env) (j : Nat) : Bool := match E.mm with
  | none => false
  | some _ => match E.gc 5000000 with
    | none => true
    | some l => match memN l j with
      | true => false
      | false => true
def afM (kv : Nat → Bool) (m : Nat) (ids : List Nat) (h : List (Nat × Blk)) : Tr :=
  ⟨fun id => idx ids id,
   fun id ver => match idx ids id with
    | some j => match hget h id with
      | some b => match Nat.beq ver b.ver && !b.isVar with
        | true => some (j, expV (kv j) m j ver)
        | false => none
      | none => none
    | none => none⟩
def Yu (kv : Nat → Bool) (m : Nat) (t : Tr) (h : List (Nat × Blk)) : Nat → List Nat → Option (List Blk)
  | _, [] => some []
  | j, id :: ids => match hget h id with
    | some b => match Yu kv m t h (j + 1) ids with
      | some bs => some (Blk.tr t (expV (kv j) m j b.ver) b :: bs)
      | none => none
    | none => none
def QW (h : List (Nat × Blk)) (ids : List Nat) : List Nat :=
  (ids.flatMap fun id => match hget h id with | some b => Blk.owns b ++ Blk.ptrs b | none => []).foldl Dh ids
def Qn (E : Env) (rv : List ResultVar) (m : Nat) (st : St) : Option (AV × List Blk) :=
  match Mk E st rv with
  | none => none
  | some vs =>
    let ids0 := (AV.ptrsL vs ++ AV.ownsL vs).foldl Dh (List.range m)
    let ids := QW st.hp (QW st.hp ids0)
    match Yu (kvOf E) m (afM (kvOf E) m ids st.hp) st.hp 0 ids with
    | none => none
    | some bs => some (AV.tr (afM (kvOf E) m ids st.hp) (pack vs), bs)
def args : Nat → List AV → List (Nat × AV)
  | _, [] => []
  | i, v :: vs => (i, v) :: args (i + 1) vs
def arun (E : Env) (fn : Func) (vs : List AV) (ins : List Blk) : Option (AV × List Blk) :=
  match fn.body with
  | none => none
  | some c => match Nat.ble vs.length fn.ntmps with
    | false => none
    | true => match (match E.mm with | none => true | some m => Nat.beq ins.length m) with
     | false => none
     | true => Cw { E with nt := fn.ntmps } c ⟨args 0 vs, number 0 ins, ins.length⟩ fun
      | .normal, st => Qn E fn.results.toList ins.length (QC (E.pre 2000000) st)
      | .ret, st => Qn E fn.results.toList ins.length (QC (E.pre 2000000) st)
      | _, _ => none
end Go.Proofs.YtmfiagdelnddkaaGreat.Ab
namespace Go.Proofs.YtmfiagdelnddkaaGreat.Ab
open Go
def zcOf : Value → ZC
  | .int k (.ofNat 0) => .int k
  | .bool false => .bool
  | .pointer none => .nilp
  | .slice none 0 0 => .nilsl
  | .string ⟨⟨[]⟩⟩ => .str
  | v => .raw v
def yH (g : TypeId → Option (List Bool)) : List Field → Nat → Option (List Bool)
  | [], _ => some []
  | f :: fs, i => match f.name != "_" && Nat.beq f.offset i, g f.type with
    | true, some t => match yH g fs (i + t.length) with
      | some ts => some (t ++ ts)
      | none => none
    | _, _ => none
def eqcT (P : Program) : Nat → TypeId → Option (List Bool)
  | 0, _ => none
  | n + 1, t => match P.underlying t with
    | some (.int _) => some [true]
    | some .bool => some [false]
    | some (.struct fs) => match P.stoodInHeld t, P.info? t with
      | false, some i => match yH (eqcT P n) fs.toList 0 with
        | some ts => match Nat.beq ts.length i.size with
          | true => some ts
          | false => none
        | none => none
      | _, _ => none
    | _ => none
def afL (P : Program) (t : TypeId) : TypeDesc → Option (List Bool)
  | .int _ => some [true]
  | .bool => some [false]
  | .struct fs => match P.stoodInHeld t with
    | false => yH (eqcT P 3) fs.toList 0
    | true => none
  | _ => none
def kindOf : TypeDesc → TK
  | .int k => .int k
  | .slice e => .slice e
  | .struct fs => .struct (fs.toList.map fun f => (f.offset, f.type))
  | .pointer _ => .ptr
  | .string => .str
  | _ => .other
def Wt : TypeDesc → Bool
  | .struct _ => true
  | .array _ _ => true
  | _ => false
def ttOf (P : Program) (t : TypeId) : Option TI :=
  match P.info? t, P.underlying t with
  | some i, some d =>
    match i.zero with
    | some z => match z.cells.toList.all Value.oneCell' && Nat.beq z.cells.size i.size with
      | true => some ⟨i.size, Wt d, i.bytes, kindOf d, z.cells.toList.map zcOf, afL P t d⟩
      | false => none
    | none => none
  | _, _ => none
def abC (f : Nat → List AV) : Nat → Bool
  | 0 => true
  | n + 1 => AV.flatL (f n) && abC f n
def Blk.flatB : Blk → Bool
  | .var cells => AV.flatL cells
  | .row _ _ n _ f => abC f n
  | .lrow _ _ _ _ cells => AV.flatL cells
  | _ => true
theorem aex {f : Nat → List AV} {n : Nat} (h : abC f n = true) : ∀ k, k < n → AV.flatL (f k) = true := by
  induction n with
  | zero => intro k hk; omega
  | succ n ih =>
    intro k hk
    simp only [abC, Bool.and_eq_true] at h
    by_cases e : k = n
    · subst e; exact h.1
    · exact ih h.2 k (by omega)
theorem Blk.flatB_flat {b : Blk} (h : b.flatB = true) : b.flat := by
  cases b with
  | var cells => exact h
  | row v sz n e f => exact aex h
  | lrow v sz n e cells => exact h
  | _ => trivial
def adO (E : Env) (fn : Func) (vs : List AV) (ins : List Blk) : Ans where
  α := AV × List Blk
  get := arun E fn vs ins
  av := fun x => x.1
  outs := fun x => x.2
  fl := fun x => AV.flat x.1 && x.2.all Blk.flatB
  hfl := fun x h => by
    simp only [Bool.and_eq_true, List.all_eq_true] at h
    exact ⟨h.1, fun b hb => Blk.flatB_flat (h.2 b hb)⟩
def envN (P : Program) (fuel : Nat) : Nat → Env
  | 0 => ⟨ttOf P, fun _ _ _ => none, fun _ => none, fun _ => none, fuel, 0, fun _ => [], fun _ => none, none⟩
  | n + 1 => ⟨ttOf P, fun f vs ins => match P.funcs[f]? with
      | some fn => some (adO (envN P fuel n) fn vs ins)
      | none => none, fun _ => none, fun _ => none, fuel, 0, fun _ => [], fun _ => none, none⟩
end Go.Proofs.YtmfiagdelnddkaaGreat.Ab
