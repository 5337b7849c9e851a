/- A part of the proof, what is needed of it. -/
import Derived.Test.YtimkpfnbkclclaaGreatRows
import Derived.WalkKit
import Derived.Laws.AppendOwn

namespace Go.Proofs.YtimkpfnbkclclaaGreat.Ab
open Go
inductive AV where
  | undef
  | void
  | bool (b : Bool)
  | int (k : IntKind) (n : Int)
  | str (s : ByteArray)
  | nilp
  | raw (v : Value)
  | agg (cs : List AV)
  | tup (vs : List AV)
  | slc (sz n : Nat) (f : Nat → List AV)
  | own (id ver : Nat)
  | ptr (id off : Nat)
  | rptr (id ver sz k off : Nat)
  | pptr (cs : List AV) (off : Nat)
  | lptr (id ver off : Nat)
  | fn (f : FuncId) (caps : List AV)
  | any1
instance : Inhabited AV := ⟨.undef⟩
inductive Blk where
  | var (cells : List AV)
  | row (ver sz n : Nat) (e : TypeId) (f : Nat → List AV)
  | nilrow (ver : Nat)
  | lrow (ver sz n : Nat) (e : TypeId) (cells : List AV)
  | dead (ver : Nat)
inductive ZC where
  | int (k : IntKind) | bool | str | nilp | nilsl | raw (v : Value)
inductive TK where
  | other | int (k : IntKind) | slice (e : TypeId) | struct (fs : List (Nat × TypeId)) | ptr | str
structure TI where
  size : Nat
  agg : Bool
  bytes : Nat
  kind : TK
  zero : List ZC
  eqc : Option (List Bool)
inductive LM (α : Type 1) : Type 1 where
  | fail
  | ret (a : α)
  | look (id : Nat) (k : Blk → LM α)
  | case (b : Bool) (x y : LM α)
def LM.run {α : Type 1} (L : Nat → Option Blk) : LM α → Option (List Nat × α)
  | .fail => none
  | .ret a => some ([], a)
  | .look id k =>
    match L id with
    | none => none
    | some b =>
      match (k b).run L with
      | none => none
      | some (r, a) => some (id :: r, a)
  | .case b x y =>
    match b with
    | true => x.run L
    | false => y.run L
def LM.runK {α : Type 1} {R : Type} (L : Nat → Option Blk) : LM α → (List Nat → α → Option R) → Option R
  | .fail, _ => none
  | .ret a, k => k [] a
  | .look id f, k =>
    match L id with
    | none => none
    | some b => (f b).runK L fun r a => k (id :: r) a
  | .case b x y, k =>
    match b with
    | true => x.runK L k
    | false => y.runK L k
theorem LM.runK_eq {α : Type 1} {R : Type} (L : Nat → Option Blk) (m : LM α) : ∀ k : List Nat → α → Option R, m.runK L k = match m.run L with | none => none | some (r, a) => k r a := by
  induction m with
  | fail => intro k; rfl
  | ret a => intro k; rfl
  | look id f ih =>
    intro k
    unfold LM.runK LM.run
    cases hb : L id with
    | none => rfl
    | some b =>
      simp only [ih b]
      cases (f b).run L with
      | none => rfl
      | some q => rfl
  | case b x y ihx ihy =>
    intro k
    unfold LM.runK LM.run
    cases b with
    | true => exact ihx k
    | false => exact ihy k
structure Eff where
  val : AV
  upd : List (Nat × Blk)
  news : List Blk
structure EffG where
  req : Bool
  β : Type
  get : Option β
  eff : β → Eff
def EffG.of (e : Eff) : EffG := ⟨true, Unit, some (), fun _ => e⟩
def EffG.val (v : AV) : EffG := ⟨true, Unit, some (), fun _ => ⟨v, [], []⟩⟩
def EffG.when (b : Bool) (v : AV) : EffG := ⟨b, Unit, some (), fun _ => ⟨v, [], []⟩⟩
structure Res where
  α : Type
  get : Option α
  av : α → AV
  outs : α → List Blk
def iH : Value → AV
  | .bool b => .bool b
  | .int k n => .int k n
  | .string s => .str s
  | .pointer none => .nilp
  | .slice none 0 0 => .slc 0 0 fun _ => []
  | v => .raw v
def aM : Operand → Bool
  | .const (.slice none 0 0) => true
  | _ => false
def AV.cells : AV → List AV
  | .agg cs => cs
  | v => [v]
def AV.one : AV → Bool
  | .bool _ | .int _ _ | .str _ | .nilp | .slc _ _ _ | .own _ _ | .ptr _ _ | .rptr _ _ _ _ _ | .pptr _ _ | .fn _ _ | .any1 => true
  | _ => false
def AV.plain : AV → Bool
  | .bool _ | .int _ _ | .str _ | .nilp | .slc _ _ _ => true
  | _ => false
def allB {α : Type} (p : α → Bool) : List α → Bool
  | [] => true
  | x :: xs => match p x with | true => allB p xs | false => false
def gI : AV → (AV → List (Nat × Blk) → LM EffG) → LM EffG
  | .own id ver, k => .look id fun
    | .row ver' sz n _ f => match Nat.beq ver ver' with
      | true => k (.slc sz n f) [(id, .dead (ver + 1))]
      | false => .fail
    | .nilrow ver' => match Nat.beq ver ver' with
      | true => k (.slc 0 0 fun _ => []) [(id, .dead (ver + 1))]
      | false => .fail
    | _ => .fail
  | v, k => match v.plain with
    | true => k v []
    | false => .fail
def cB : List AV → (List AV → List (Nat × Blk) → LM EffG) → LM EffG
  | [], k => k [] []
  | v :: vs, k => gI v fun v' u => cB vs fun vs' us => k (v' :: vs') (u ++ us)
def setAt (xs : List AV) (off : Nat) (ys : List AV) : List AV := xs.take off ++ ys ++ xs.drop (off + ys.length)
def aJ : Nat → List Blk
  | 0 => []
  | n + 1 => .nilrow 0 :: aJ n
def aG : List ZC → Nat → List AV
  | [], _ => []
  | .int k :: zs, c => .int k 0 :: aG zs c
  | .bool :: zs, c => .bool false :: aG zs c
  | .str :: zs, c => .str ⟨#[]⟩ :: aG zs c
  | .nilp :: zs, c => .nilp :: aG zs c
  | .raw v :: zs, c => .raw v :: aG zs c
  | .nilsl :: zs, c => .own c 0 :: aG zs (c + 1)
def aB : List ZC → Nat
  | [] => 0
  | .nilsl :: zs => aB zs + 1
  | _ :: zs => aB zs
def aC : List ZC → List AV
  | [] => []
  | .int k :: zs => .int k 0 :: aC zs
  | .bool :: zs => .bool false :: aC zs
  | .str :: zs => .str ⟨#[]⟩ :: aC zs
  | .nilp :: zs => .nilp :: aC zs
  | .raw v :: zs => .raw v :: aC zs
  | .nilsl :: zs => .slc 0 0 (fun _ => []) :: aC zs
def kT (t : Bool) (x y : AV) : AV :=
  match x, y with
  | .bool p, .bool q => .bool (cond t p q)
  | .int k p, .int k' q => if k = k' then .int k (cond t p q) else cond t x y
  | _, _ => cond t x y
def iW (t : Bool) : List AV → List AV → List AV
  | x :: xs, y :: ys => kT t x y :: iW t xs ys
  | _, _ => []
def iT (t : Bool) (xs ys : List AV) : List AV := match Nat.beq xs.length ys.length with
  | true => iW t xs ys
  | false => cond t xs ys
def kS (t : Bool) (x y : AV) : AV :=
  match x, y with
  | .bool p, .bool q => .bool (cond t p q)
  | .int k p, .int k' q => if k = k' then .int k (cond t p q) else cond t x y
  | .slc sz n f, .slc sz' n' f' => match Nat.beq sz sz' with
    | true => .slc sz (cond t n n') fun k => iT t (f k) (f' k)
    | false => cond t x y
  | _, _ => cond t x y
def j6 (t : Bool) : List AV → List AV → List AV
  | x :: xs, y :: ys => kS t x y :: j6 t xs ys
  | _, _ => []
def iy (t : Bool) (xs ys : List AV) : List AV := match Nat.beq xs.length ys.length with
  | true => j6 t xs ys
  | false => cond t xs ys
theorem kU (t : Bool) (x y : AV) : kT t x y = cond t x y := by
  unfold kT
  split
  · cases t <;> rfl
  · split
    · rename_i h; subst h; cases t <;> rfl
    · rfl
  · rfl
theorem kK (t : Bool) : ∀ (xs ys : List AV), xs.length = ys.length → iW t xs ys = cond t xs ys := by
  intro xs
  induction xs with
  | nil => intro ys h; cases ys with
    | nil => cases t <;> rfl
    | cons => simp at h
  | cons x xs ih => intro ys h; cases ys with
    | nil => simp at h
    | cons y ys =>
      unfold iW
      rw [kU, ih ys (by simpa using h)]
      cases t <;> rfl
theorem kI (t : Bool) (xs ys : List AV) : iT t xs ys = cond t xs ys := by
  unfold iT
  cases h : Nat.beq xs.length ys.length with
  | true => exact kK t xs ys (Nat.eq_of_beq_eq_true h)
  | false => rfl
theorem jO (t : Bool) (x y : AV) : kS t x y = cond t x y := by
  unfold kS
  split
  · cases t <;> rfl
  · split
    · rename_i h; subst h; cases t <;> rfl
    · rfl
  · rename_i sz n f sz' n' f'
    cases h : Nat.beq sz sz' with
    | true =>
      obtain rfl := Nat.eq_of_beq_eq_true h
      have e : (fun k => iT t (f k) (f' k)) = cond t f f' := by
        funext k
        rw [kI]
        cases t <;> rfl
      rw [e]
      cases t <;> rfl
    | false => rfl
  · rfl
theorem mK (t : Bool) : ∀ (xs ys : List AV), xs.length = ys.length → j6 t xs ys = cond t xs ys := by
  intro xs
  induction xs with
  | nil => intro ys h; cases ys with
    | nil => cases t <;> rfl
    | cons => simp at h
  | cons x xs ih => intro ys h; cases ys with
    | nil => simp at h
    | cons y ys =>
      unfold j6
      rw [jO, ih ys (by simpa using h)]
      cases t <;> rfl
theorem gK (t : Bool) (xs ys : List AV) : iy t xs ys = cond t xs ys := by
  unfold iy
  cases h : Nat.beq xs.length ys.length with
  | true => exact mK t xs ys (Nat.eq_of_beq_eq_true h)
  | false => rfl
def kW (n : Nat) (f g : Nat → List AV) : Nat → List AV := fun k => iy (Nat.blt k n) (f k) (g (k - n))
theorem kX (n : Nat) (f g : Nat → List AV) : kW n f g = fun k => if k < n then f k else g (k - n) := by
  funext k
  unfold kW
  rw [gK]
  by_cases h : k < n
  · rw [if_pos h, show Nat.blt k n = true from Nat.ble_eq_true_of_le h]; rfl
  · rw [if_neg h, show Nat.blt k n = false from by
      cases hb : Nat.blt k n with
      | false => rfl
      | true => exact absurd (Nat.le_of_ble_eq_true hb) h]; rfl
def mF (k : Nat) (ys : List AV) (f : Nat → List AV) : Nat → List AV := fun j => iy (Nat.beq j k) ys (f j)
theorem mG (k : Nat) (ys : List AV) (f : Nat → List AV) : mF k ys f = fun j => if j = k then ys else f j := by
  funext j
  unfold mF
  rw [gK]
  by_cases h : j = k
  · rw [if_pos h, h, Nat.beq_refl]; rfl
  · rw [if_neg h, show Nat.beq j k = false from by
      cases hb : Nat.beq j k with
      | false => rfl
      | true => exact absurd (Nat.eq_of_beq_eq_true hb) h]; rfl
def au : List Bool → List AV → List AV → Option Bool
  | [], [], [] => some true
  | true :: ts, .int k a :: xs, .int k' b :: ys => if k = k' then (au ts xs ys).map ((a == b) && ·) else none
  | false :: ts, .bool a :: xs, .bool b :: ys => (au ts xs ys).map ((a == b) && ·)
  | _, _, _ => none
def abin (tt : TypeId → Option TI) (op : BinOp) (T : TypeId) (x y : AV) : LM EffG :=
  match x, y with
  | .int k a, .int k' b =>
    if k = k' then
      match op with
      | .add => .ret (.val (.int k (k.wrap (a + b))))
      | .sub => .ret (.val (.int k (k.wrap (a - b))))
      | .mul => .ret (.val (.int k (k.wrap (a * b))))
      | .quo => .ret (.when (b != 0) (.int k (k.wrap (a.tdiv b))))
      | .rem => .ret (.when (b != 0) (.int k (a.tmod b)))
      | .eql => .ret (.val (.bool (a == b)))
      | .neq => .ret (.val (.bool (a != b)))
      | .lss => .ret (.val (.bool (decide (a < b))))
      | .leq => .ret (.val (.bool (decide (a ≤ b))))
      | .gtr => .ret (.val (.bool (decide (a > b))))
      | .geq => .ret (.val (.bool (decide (a ≥ b))))
      | .shr => .ret (.when (decide (0 ≤ b ∧ b ≤ 8)) (.int k (a / 2 ^ b.toNat)))
      | _ => .fail
    else .fail
  | .bool a, .bool b =>
    match (tt T).map fun ti => (ti.eqc, ti.agg) with
    | some (some [false], false) =>
      match op with
      | .eql => .ret (.val (.bool (a == b)))
      | .neq => .ret (.val (.bool (!(a == b))))
      | _ => .fail
    | _ => .fail
  | .agg xs, .agg ys =>
    match (tt T).map fun ti => (ti.eqc, ti.agg) with
    | some (some ts, true) =>
      match au ts xs ys with
      | some r =>
        match op with
        | .eql => .ret (.val (.bool r))
        | .neq => .ret (.val (.bool (!r)))
        | _ => .fail
      | none => .fail
    | _ => .fail
  | _, _ => .fail
def aun (op : UnOp) (x : AV) : LM EffG :=
  match op, x with
  | .neg, .int k n => .ret (.val (.int k (k.wrap (0 - n))))
  | .not, .bool b => .ret (.val (.bool !b))
  | _, _ => .fail
def apart (ti : TI) (cs : List AV) (off : Nat) : Option AV :=
  match Nat.ble (off + ti.size) cs.length with
  | true => match ti.agg with
    | true => some (.agg ((cs.drop off).take ti.size))
    | false => match Nat.beq ti.size 1 with
      | true => some (cs.getD off .undef)
      | false => none
  | false => none
def bq : List (Nat × AV) → List AV → Nat → (Nat → Option (Nat × Nat)) → Option (List AV)
  | [], cells, _, _ => some cells
  | (i, v) :: rest, cells, d, place =>
    match place i with
    | none => none
    | some (off, size) =>
      match Nat.beq v.cells.length size && Nat.ble (off + size) cells.length && allB AV.one v.cells with
      | true => bq rest (setAt cells off v.cells) d place
      | false => none
def bg (tt : TypeId → Option TI) (S : TypeId) (i : Nat) : Option (Nat × TI) :=
  match tt S with
  | some ti => match ti.kind with
    | .struct fs => match fs[i]? with
      | some (o, t) => match tt t with
        | some fi => match Nat.blt 0 fi.size with
          | true => some (o, fi)
          | false => none
        | none => none
      | none => none
    | _ => none
  | none => none
def aO (tt : TypeId → Option TI) (T : TypeId) : Option (TypeId × TI) :=
  match tt T with
  | some ti => match ti.kind with
    | .slice e => match tt e with
      | some ei => match Nat.blt 0 ei.size with
        | true => some (e, ei)
        | false => none
      | none => none
    | _ => none
  | none => none
end Go.Proofs.YtimkpfnbkclclaaGreat.Ab
namespace Go.Proofs.YtimkpfnbkclclaaGreat.Ab
open Go
structure Tr where
  gp : Nat → Option Nat
  go : Nat → Nat → Option (Nat × Nat)
mutual
def AV.tr (t : Tr) : AV → AV
  | .agg cs => .agg (AV.trL t cs)
  | .tup cs => .tup (AV.trL t cs)
  | .fn f cs => .fn f (AV.trL t cs)
  | .own id ver => match t.go id ver with
    | some p => .own p.1 p.2
    | none => .undef
  | .rptr id ver sz k off => match t.go id ver with
    | some p => .rptr p.1 p.2 sz k off
    | none => .undef
  | .lptr id ver off => match t.go id ver with
    | some p => .lptr p.1 p.2 off
    | none => .undef
  | .ptr id off => match t.gp id with
    | some i => .ptr i off
    | none => .undef
  | .undef => .undef
  | .void => .void
  | .bool b => .bool b
  | .int k n => .int k n
  | .str s => .str s
  | .nilp => .nilp
  | .any1 => .any1
  | .raw v => .raw v
  | .slc sz n f => .slc sz n f
  | .pptr cs off => .pptr cs off
def AV.trL (t : Tr) : List AV → List AV
  | [] => []
  | v :: vs => AV.tr t v :: AV.trL t vs
end
def Blk.tr (t : Tr) (ver : Nat) : Blk → Blk
  | .var cells => .var (AV.trL t cells)
  | .row _ sz n e f => .row ver sz n e f
  | .nilrow _ => .nilrow ver
  | .lrow _ sz n e cells => .lrow ver sz n e (AV.trL t cells)
  | .dead _ => .dead ver
def Blk.ver : Blk → Nat
  | .var _ => 0
  | .row v _ _ _ _ => v
  | .nilrow v => v
  | .lrow v _ _ _ _ => v
  | .dead v => v
mutual
def AV.flat : AV → Bool
  | .agg cs => AV.flatL cs
  | .tup cs => AV.flatL cs
  | .fn _ cs => AV.flatL cs
  | .slc _ n _ => Nat.beq n 0
  | .pptr _ _ => false
  | _ => true
def AV.flatL : List AV → Bool
  | [] => true
  | v :: vs => match AV.flat v with
    | true => AV.flatL vs
    | false => false
end
def Blk.flat : Blk → Prop
  | .var cells => AV.flatL cells = true
  | .row _ _ n _ f => ∀ k, k < n → AV.flatL (f k) = true
  | .lrow _ _ _ _ cells => AV.flatL cells = true
  | _ => True
structure Ans extends Res where
  fl : α → Bool
  hfl : ∀ x, fl x = true → AV.flat (av x) = true ∧ ∀ b ∈ outs x, b.flat
inductive AX where
  | normal | exit (id : Nat) | ret
structure St where
  tm : List (Nat × AV)
  hp : List (Nat × Blk)
  c : Nat
structure LRes where
  α : Type
  β : Type
  get : Option (α ⊕ β)
  one : Bool
  axl : AX
  stl : α → St
  axr : AX
  str : β → St
  cas : (R : Type) → β → (St → Option R) → Option R
  hcas : ∀ R y κ, cas R y κ = κ (str y)
inductive PreC where
  | freeze (id : Nat)
  | asrow (id : Nat) (e : TypeId) (sz : Nat) (f : Nat → List AV)
structure Env where
  tt : TypeId → Option TI
  fs : FuncId → List AV → List Blk → Option Ans
  loops : Nat → Option (St → Option LRes)
  live : Nat → Option (List Nat × List Nat)
  fuel : Nat
  nt : Nat
  pre : Nat → List PreC
  gc : Nat → Option (List Nat)
  mm : Option Nat
def aget : List (Nat × AV) → Nat → AV
  | [], _ => .undef
  | (k, v) :: r, t => match Nat.beq k t with
    | true => v
    | false => aget r t
def hget : List (Nat × Blk) → Nat → Option Blk
  | [], _ => none
  | (k, v) :: r, t => match Nat.beq k t with
    | true => some v
    | false => hget r t
def hset : List (Nat × Blk) → Nat → Blk → List (Nat × Blk)
  | [], id, b => [(id, b)]
  | (k, x) :: r, id, b => match Nat.beq k id with
    | true => (k, b) :: r
    | false => (k, x) :: hset r id b
def mX : List (Nat × Blk) → List (Nat × Blk) → List (Nat × Blk)
  | h, [] => h
  | h, (id, b) :: r => mX (hset h id b) r
def number : Nat → List Blk → List (Nat × Blk)
  | _, [] => []
  | c, b :: bs => (c, b) :: number (c + 1) bs
def aev (tm : List (Nat × AV)) : Operand → AV
  | .tmp t => aget tm t
  | .const v => iH v
  | .func f => .fn f []
  | .global _ => .undef
def idx : List Nat → Nat → Option Nat
  | [], _ => none
  | x :: xs, y => match Nat.beq x y with
    | true => some 0
    | false => match idx xs y with
      | some i => some (i + 1)
      | none => none
def aW (xs : List Nat) (y : Nat) : List Nat :=
  match idx xs y with
  | some _ => xs
  | none => xs ++ [y]
mutual
def AV.ptrs : AV → List Nat
  | .ptr id _ => [id]
  | .fn _ cs => AV.ptrsL cs
  | .agg cs => AV.ptrsL cs
  | .tup cs => AV.ptrsL cs
  | _ => []
def AV.ptrsL : List AV → List Nat
  | [] => []
  | v :: vs => AV.ptrs v ++ AV.ptrsL vs
end
mutual
def AV.owns : AV → List Nat
  | .own id _ => [id]
  | .fn _ cs => AV.ownsL cs
  | .agg cs => AV.ownsL cs
  | .tup cs => AV.ownsL cs
  | _ => []
def AV.ownsL : List AV → List Nat
  | [] => []
  | v :: vs => AV.owns v ++ AV.ownsL vs
end
def Blk.owns : Blk → List Nat
  | .var cells => AV.ownsL cells
  | .lrow _ _ _ _ cells => AV.ownsL cells
  | _ => []
def Blk.ptrs : Blk → List Nat
  | .var cells => AV.ptrsL cells
  | .lrow _ _ _ _ cells => AV.ptrsL cells
  | _ => []
def aX : List Nat → (List Blk → LM EffG) → LM EffG
  | [], k => k []
  | id :: ids, k => .look id fun b => aX ids fun bs => k (b :: bs)
def gG : AV → (AV → List (Nat × Nat) → LM EffG) → LM EffG
  | .own id ver, k => .look id fun
    | .row ver' sz n _ f => match Nat.beq ver ver' with
      | true => k (.slc sz n f) [(id, ver)]
      | false => .fail
    | .nilrow ver' => match Nat.beq ver ver' with
      | true => k (.slc 0 0 fun _ => []) []
      | false => .fail
    | _ => .fail
  | v, k => k v []
def gY : List AV → (List AV → List (Nat × Nat) → LM EffG) → LM EffG
  | [], k => k [] []
  | v :: vs, k => gG v fun v' u => gY vs fun vs' us => k (v' :: vs') (u ++ us)
def rowOf (sz : Nat) (cells : List AV) (k : Nat) : List AV := (cells.drop (k * sz)).take sz
def rowC (sz : Nat) : Nat → List AV → Nat → List AV
  | 0, cells, _ => rowOf sz cells 0
  | n + 1, cells, k => match n with
    | 0 => rowOf sz cells 0
    | n + 1 => iy (Nat.beq k 0) (rowOf sz cells 0) (rowC sz (n + 1) (cells.drop sz) (k - 1))
def lend : AV → (AV → List (Nat × Nat) → LM EffG) → LM EffG
  | .own id ver, k => .look id fun
    | .lrow ver' sz n _ cells => match Nat.beq ver ver' with
      | true => gY cells fun cells' u => match allB AV.plain cells' with
        | true => k (.slc sz n (rowC sz n cells')) ((id, ver) :: u)
        | false => .fail
      | false => .fail
    | _ => gG (.own id ver) k
  | v, k => gG v k
def gX : List AV → (List AV → List (Nat × Nat) → LM EffG) → LM EffG
  | [], k => k [] []
  | .agg cs :: vs, k => gY cs fun cs' u => gX vs fun vs' us => k (.agg cs' :: vs') (u ++ us)
  | v :: vs, k => lend v fun v' u => gX vs fun vs' us => k (v' :: vs') (u ++ us)
def dx (ws : List Nat) : List AV → (List AV → List (Nat × Nat) → LM EffG) → LM EffG
  | [], k => k [] []
  | .agg cs :: vs, k => match idx ws vs.length with
    | some _ => dx ws vs fun vs' us => k (.agg cs :: vs') us
    | none => gY cs fun cs' u => dx ws vs fun vs' us => k (.agg cs' :: vs') (u ++ us)
  | .own id ver :: vs, k => dx ws vs fun vs' us => k (.own id ver :: vs') us
  | v :: vs, k => lend v fun v' u => dx ws vs fun vs' us => k (v' :: vs') (u ++ us)
def aN (ws : List Nat) : List AV → List Nat
  | [] => []
  | .own id _ :: vs => id :: aN ws vs
  | .agg cs :: vs => match idx ws vs.length with
    | some _ => AV.ownsL cs ++ aN ws vs
    | none => aN ws vs
  | _ :: vs => aN ws vs
def trIn (ids vers : List Nat) : Tr := ⟨idx ids, fun id ver => match idx ids id with
  | some j => match Nat.beq ver (vers.getD j 0) with
    | true => some (j, 0)
    | false => none
  | none => none⟩
def Blk.isVar : Blk → Bool
  | .var _ => true
  | _ => false
def nP (ids : List Nat) (bs : List Blk) (c : Nat) : Tr :=
  ⟨fun j => some (match ids[j]? with | some id => id | none => c + (j - ids.length)),
   fun j ver => match ids[j]? with
    | some id => match bs[j]? with
      | some b => match b.isVar with
        | true => none
        | false => some (id, b.ver + ver)
      | none => none
    | none => some (c + (j - ids.length), 0)⟩
def eu (t : Tr) : List Blk → List Blk
  | [] => []
  | b :: bs => Blk.tr t 0 b :: eu t bs
def back (t : Tr) (b b' : Blk) : Blk :=
  match b.isVar, b'.isVar with
  | true, true => Blk.tr t 0 b'
  | false, false => Blk.tr t (b.ver + b'.ver) b'
  | _, _ => .dead (b.ver + 1)
def cK (t : Tr) : List Nat → List Blk → List Blk → List (Nat × Blk)
  | id :: ids, b :: bs, b' :: bs' => (id, back t b b') :: cK t ids bs bs'
  | _, _, _ => []
def ng (ids : List Nat) (bor : List (Nat × Nat)) : Bool := allB (fun p => match idx ids p.1 with | some _ => false | none => true) bor
def jw (bor : List (Nat × Nat)) (fl : Bool) : List (Nat × Blk) :=
  match bor with
  | [] => []
  | _ => match fl with
    | true => []
    | false => bor.map fun p => (p.1, .dead (p.2 + 1))
def fq (ids : List Nat) (bs : List Blk) : List Nat := (bs.flatMap fun b => Blk.owns b ++ Blk.ptrs b).foldl aW ids
def retP : List PreC → Nat → Option (Nat × (Nat → List AV))
  | [], _ => none
  | .asrow id _ sz f :: l, i => match Nat.beq id i with
    | true => some (sz, f)
    | false => retP l i
  | .freeze _ :: l, i => retP l i
def retF (l : List PreC) (i : Nat) (x : AV) : AV := match x with
  | .slc sz n f => match sz with
    | 0 => match n with
      | 0 => match retP l i with
        | some p => .slc p.1 0 p.2
        | none => .slc 0 0 f
      | n + 1 => .slc 0 (n + 1) f
    | sz + 1 => .slc (sz + 1) n f
  | x => x
def retL (l : List PreC) : Nat → List AV → List AV
  | _, [] => []
  | i, x :: xs => retF l i x :: retL l (i + 1) xs
def ret1 (l : List PreC) (i : Nat) (x : AV) : AV := match x with
  | .agg cs => .agg (retL l (i + 1) cs)
  | x => retF l i x
def retA (l : List PreC) : Nat → List AV → List AV
  | _, [] => []
  | i, x :: xs => ret1 l i x :: retA l (i + 64) xs
def retC (l : List PreC) (xs : List AV) : List AV := match l with
  | [] => xs
  | e :: l => retA (e :: l) 0 xs
def mO (E : Env) (f : FuncId) (args : List AV) (c : Nat) : LM EffG :=
  let mt := E.live (2000000 + f)
  let ids0 := (match mt with | some p => aN p.1 args ++ AV.ptrsL args | none => AV.ptrsL args).foldl aW []
  aX ids0 fun bs0 =>
  aX (fq ids0 bs0) fun bs1 =>
  aX (fq (fq ids0 bs0) bs1) fun bs2 =>
  let ids := fq (fq (fq ids0 bs0) bs1) bs2
  aX ids fun bs =>
  (match mt with | some p => dx p.1 args | none => gX args) fun args' bor =>
  match ng ids bor with
  | false => .fail
  | true =>
    match E.fs f (AV.trL (trIn ids (bs.map Blk.ver)) (retC (E.pre (8000000 + f)) args')) (eu (trIn ids (bs.map Blk.ver)) bs) with
    | none => .fail
    | some r => .ret ⟨true, r.α, r.get, fun x =>
        ⟨AV.tr (nP ids bs c) (r.av x),
          cK (nP ids bs c) ids bs (r.outs x) ++ jw bor (r.fl x),
          ((r.outs x).drop ids.length).map (Blk.tr (nP ids bs c) 0)⟩⟩
def fZ : AV → AV
  | .own _ _ => .any1
  | v => v
def lS : AV → AV
  | .agg cs => .agg (cs.map fZ)
  | v => fZ v
def bX (l : Option (List Nat × List Nat)) : Nat → List AV → List AV
  | _, [] => []
  | i, x :: xs => (match l with | none => x | some p => match idx p.1 i with | some _ => lS x | none => x) :: bX l (i + 1) xs
def nV : AV → (Nat → LM EffG) → LM EffG
  | .slc _ n _, k => k n
  | .str s, k => k s.size
  | .own id ver, k => .look id fun
    | .row ver' _ n _ _ => match Nat.beq ver ver' with
      | true => k n
      | false => .fail
    | .nilrow ver' => match Nat.beq ver ver' with
      | true => k 0
      | false => .fail
    | .lrow ver' _ n _ _ => match Nat.beq ver ver' with
      | true => k n
      | false => .fail
    | _ => .fail
  | _, _ => .fail
def fT (least : Bool) : AV → List AV → LM EffG
  | x, [] => .ret (.val x)
  | .int k x, .int k' y :: r => if k = k' then fT least (.int k (match least with | true => if y < x then y else x | false => if x < y then y else x)) r else .fail
  | _, _ => .fail
def fF (e : TypeId) (ei : TI) (s : AV) (isnil : Bool) (c : Nat) (m : Nat) (g : Nat → List AV) : LM EffG :=
  match isnil with
  | true => .ret ⟨decide (m * ei.bytes ≤ 140737488355328 ∧ m ≤ 1099511627776), Unit, some (), fun _ => ⟨.own c 0, [], [.row 0 ei.size m e g]⟩⟩
  | false =>
    match s with
    | .own id ver => .look id fun
      | .row ver' sz n e' f => match Nat.beq ver ver' && Nat.beq e e' && Nat.beq sz ei.size with
        | true => .ret ⟨decide ((n + m) * ei.bytes ≤ 140737488355328 ∧ n + m ≤ 1099511627776), Unit, some (), fun _ =>
            ⟨.own id (ver + 1), [(id, .row (ver + 1) sz (n + m) e (kW n f g))], []⟩⟩
        | false => .fail
      | .nilrow ver' => match Nat.beq ver ver' with
        | true => .ret ⟨decide (m * ei.bytes ≤ 140737488355328 ∧ m ≤ 1099511627776), Unit, some (), fun _ =>
            ⟨.own id (ver + 1), [(id, .row (ver + 1) ei.size m e g)], []⟩⟩
        | false => .fail
      | _ => .fail
    | _ => .fail
def iF (e : TypeId) (ei : TI) (s : AV) (isnil : Bool) (c : Nat) (m : Nat) (cs : List AV) : LM EffG :=
  match isnil with
  | true => .ret ⟨decide (m * ei.bytes ≤ 140737488355328 ∧ m ≤ 1099511627776), Unit, some (), fun _ => ⟨.own c 0, [], [.lrow 0 ei.size m e cs]⟩⟩
  | false =>
    match s with
    | .own id ver => .look id fun
      | .lrow ver' sz n e' cs0 => match Nat.beq ver ver' && Nat.beq e e' && Nat.beq sz ei.size with
        | true => .ret ⟨decide ((n + m) * ei.bytes ≤ 140737488355328 ∧ n + m ≤ 1099511627776), Unit, some (), fun _ =>
            ⟨.own id (ver + 1), [(id, .lrow (ver + 1) sz (n + m) e (cs0 ++ cs))], []⟩⟩
        | false => .fail
      | .nilrow ver' => match Nat.beq ver ver' with
        | true => .ret ⟨decide (m * ei.bytes ≤ 140737488355328 ∧ m ≤ 1099511627776), Unit, some (), fun _ =>
            ⟨.own id (ver + 1), [(id, .lrow (ver + 1) ei.size m e cs)], []⟩⟩
        | false => .fail
      | _ => .fail
    | _ => .fail
def iE (e : TypeId) (ei : TI) (s : AV) (isnil : Bool) (c : Nat) : AV → LM EffG
  | .slc sz m g => match Nat.beq sz ei.size || Nat.beq m 0 with
    | true => fF e ei s isnil c m g
    | false => .fail
  | .own id ver => .look id fun
    | .row ver' sz m _ g => match Nat.beq ver ver' && Nat.beq sz ei.size with
      | true => fF e ei s isnil c m g
      | false => .fail
    | .nilrow ver' => match Nat.beq ver ver' with
      | true => fF e ei s isnil c 0 fun _ => []
      | false => .fail
    | .lrow ver' sz m _ cs => match Nat.beq ver ver' && Nat.beq sz ei.size with
      | true => iF e ei s isnil c m cs
      | false => .fail
    | _ => .fail
  | _ => .fail
def jL (E : Env) (b : Builtin) (types : Array TypeId) (ops : Array Operand) (args : List AV) (c : Nat) : LM EffG :=
  match b, args with
  | .len, [x] => match (types[0]?).bind E.tt with
    | some ti => match ti.kind with
      | .slice _ => (match x with | .str _ => .fail | _ => nV x fun n => .ret (.val (.int .i64 n)))
      | .str => (match x with | .str s => .ret (.val (.int .i64 s.size)) | _ => .fail)
      | _ => .fail
    | none => .fail
  | .min, x :: xs => fT true x xs
  | .max, x :: xs => fT false x xs
  | .append, [s, x] => match types[0]?, types[1]? with
    | some t, some t2 => match Nat.beq t t2 with
      | true => match aO E.tt t with
        | some (e, ei) => iE e ei s (match ops[0]? with | some o => aM o | none => false) c x
        | none => .fail
      | false => .fail
    | _, _ => .fail
  | _, _ => .fail
def nW (ti : TI) : AV → LM EffG
  | .ptr id off => .look id fun
    | .var cells => match apart ti cells off with
      | some v => .ret (.val v)
      | none => .fail
    | _ => .fail
  | .rptr id ver sz k off => .look id fun
    | .row ver' sz' _ _ f => match Nat.beq ver ver' && Nat.beq sz sz' with
      | true => match Nat.ble (off + ti.size) sz with
        | true => match ti.agg with
          | true => .ret (.val (.agg (((f k).drop off).take ti.size)))
          | false => match Nat.beq ti.size 1 with
            | true => .ret (.val ((f k).getD off .undef))
            | false => .fail
        | false => .fail
      | false => .fail
    | _ => .fail
  | .pptr cs off => match apart ti cs off with
    | some v => .ret (.val v)
    | none => .fail
  | .lptr id ver off => .look id fun
    | .lrow ver' _ _ _ cells => match Nat.beq ver ver' with
      | true => match apart ti cells off with
        | some v => .ret (.val v)
        | none => .fail
      | false => .fail
    | _ => .fail
  | _ => .fail
def nX (s : ByteArray) (n : Int) : Int := match s[n.toNat]? with
  | some b => b.toNat
  | none => 0
def gZ (ti : TI) (a : AV) (xs : List AV) (news : List Blk) : LM EffG :=
  match Nat.beq xs.length ti.size && allB AV.one xs with
  | false => .fail
  | true =>
    match a with
    | .ptr id off => .look id fun
      | .var cells => match Nat.ble (off + ti.size) cells.length with
        | true => .ret (.of ⟨.void, [(id, .var (setAt cells off xs))], news⟩)
        | false => .fail
      | _ => .fail
    | .rptr id ver sz k off => cB xs fun xs' u => .look id fun
      | .row ver' sz' n e f => match Nat.beq ver ver' && Nat.beq sz sz' && Nat.ble (off + ti.size) sz && ng [id] (u.map fun p => (p.1, 0)) with
        | true => .ret (.of ⟨.void, (id, .row ver sz n e (mF k (setAt (f k) off xs') f)) :: u, []⟩)
        | false => .fail
      | _ => .fail
    | .lptr id ver off => match news with
      | [] => .look id fun
        | .lrow ver' sz n e cells => match Nat.beq ver ver' && Nat.ble (off + ti.size) cells.length with
          | true => .ret (.of ⟨.void, [(id, .lrow ver sz n e (setAt cells off xs))], []⟩)
          | false => .fail
        | _ => .fail
      | _ => .fail
    | _ => .fail
def repl (zs : List AV) : Nat → List AV
  | 0 => []
  | n + 1 => zs ++ repl zs n
def kM (a : AV) (o : Nat) : LM EffG :=
  match a with
  | .ptr id off => .ret (.val (.ptr id (off + o)))
  | .rptr id ver sz k off => .ret (.val (.rptr id ver sz k (off + o)))
  | .pptr cs off => .ret (.val (.pptr cs (off + o)))
  | .lptr id ver off => .ret (.val (.lptr id ver (off + o)))
  | _ => .fail
def idxL (id ver sz : Nat) (j : Int) : Nat → Nat → LM EffG
  | 0, _ => .fail
  | n + 1, k => .case (decide (j = (k : Int))) (.ret (.val (.lptr id ver (k * sz)))) (idxL id ver sz j n (k + 1))
def jN : List AV → Bool
  | [] => false
  | .own _ _ :: _ => true
  | _ :: r => jN r
def szOk (size : Nat) : AV → Bool
  | .slc sz n _ => Nat.beq sz size || Nat.beq n 0
  | _ => true
def aslice (x : AV) (lo hi : Option AV) (upd : List (Nat × Blk)) : LM EffG :=
  match x, lo, hi with
  | .slc sz n f, none, none => .ret (.of ⟨.slc sz n f, upd, []⟩)
  | .slc sz n f, some (.int _ l), none => .ret ⟨decide (0 ≤ l ∧ l ≤ n), Unit, some (), fun _ => ⟨.slc sz (n - l.toNat) fun k => f (k + l.toNat), upd, []⟩⟩
  | .slc sz n f, none, some (.int _ h) => .ret ⟨decide (0 ≤ h ∧ h ≤ n), Unit, some (), fun _ => ⟨.slc sz h.toNat f, upd, []⟩⟩
  | .slc sz n f, some (.int _ l), some (.int _ h) => .ret ⟨decide (0 ≤ l ∧ l ≤ h ∧ h ≤ n), Unit, some (), fun _ => ⟨.slc sz (h.toNat - l.toNat) fun k => f (k + l.toNat), upd, []⟩⟩
  | _, _, _ => .fail
def isEq : BinOp → Option Bool
  | .eql => some true
  | .neq => some false
  | _ => none
def anil (tt : TypeId → Option TI) (op : BinOp) (T : TypeId) (x : AV) : LM EffG :=
  match (tt T).map TI.kind, isEq op with
  | some (.slice _), some b => match x with
    | .slc _ n _ => .ret (.when (decide (0 < n)) (.bool !b))
    | .own id ver => .look id fun
      | .row ver' _ n _ _ => match Nat.beq ver ver' with
        | true => .ret (.when (decide (0 < n)) (.bool !b))
        | false => .fail
      | .nilrow ver' => match Nat.beq ver ver' with
        | true => .ret (.val (.bool b))
        | false => .fail
      | _ => .fail
    | _ => .fail
  | _, _ => .fail
def jM (E : Env) (d : Option Nat) (c : Nat) : LM EffG := match d with
  | none => .ret (.of ⟨.own c 0, [], [.nilrow 0]⟩)
  | some t => match E.gc (6000000 + t) with
    | some (i :: _) => match Nat.beq i c with
      | true => .ret (.of ⟨.own c 0, [], [.nilrow 0]⟩)
      | false => .look i fun
        | .nilrow v => .ret (.val (.own i v))
        | _ => .fail
    | _ => .ret (.of ⟨.own c 0, [], [.nilrow 0]⟩)
def aop (E : Env) (o : Oper) (ρ : Operand → AV) (c : Nat) : LM EffG :=
  match o.op with
  | .move x | .assign x =>
    match aM x with
    | true => jM E o.dst c
    | false => .ret (.val (ρ x))
  | .pick t a b => match ρ t with
    | .bool t => .ret (.val (kS t (ρ a) (ρ b)))
    | _ => .fail
  | .alloc T => match E.tt T with
    | some ti => .ret (.of ⟨.ptr c 0, [], .var (aG ti.zero (c + 1)) :: aJ (aB ti.zero)⟩)
    | none => .fail
  | .box _ x =>
    match aM x with
    | true => .ret (.of ⟨.ptr c 0, [], [.var [.own (c + 1) 0], .nilrow 0]⟩)
    | false => match allB AV.one (ρ x).cells with
      | true => .ret (.of ⟨.ptr c 0, [], [.var (ρ x).cells]⟩)
      | false => .fail
  | .build T parts => match E.tt T with
    | some ti => match ti.kind with
      | .struct fs => match allB (fun p => (E.tt p.2).isSome) fs with
       | false => .fail
       | true => match bq (parts.toList.map fun p => (p.1, ρ p.2)) (aG ti.zero c) 0 (fun i => (bg E.tt T i).map fun p => (p.1, p.2.size)) with
        | some cells => .ret (.of ⟨.agg cells, [], aJ (aB ti.zero)⟩)
        | none => .fail
      | _ => .fail
    | none => .fail
  | .buildSlice T len parts => match aO E.tt T with
    | some (e, ei) => match Nat.ble (len * ei.size) 16777216 with
      | true => match bq (parts.toList.map fun p => (p.1, ρ p.2)) (repl (aC ei.zero) len) 0 (fun i => some (i * ei.size, ei.size)) with
        | some cells => match (E.live 1000001).isSome && (jN cells && Nat.blt 0 len) with
          | true => .ret (.of ⟨.own c 0, [], [.lrow 0 ei.size len e cells]⟩)
          | false => cB cells fun cells' u => .ret (.of ⟨.own c 0, u, [.row 0 ei.size len e (rowC ei.size len cells')]⟩)
        | none => .fail
      | false => .fail
    | none => .fail
  | .load T a => match E.tt T with
    | some ti => nW ti (ρ a)
    | none => .fail
  | .store T a x => match E.tt T with
    | some ti =>
      match aM x with
      | true => gZ ti (ρ a) [.own c 0] [.nilrow 0]
      | false => gZ ti (ρ a) (ρ x).cells []
    | none => .fail
  | .nilCheck x => match ρ x with
    | .ptr id off => .ret (.val (.ptr id off))
    | .rptr id ver sz k off => .ret (.val (.rptr id ver sz k off))
    | .pptr cs off => .ret (.val (.pptr cs off))
    | .lptr id ver off => .ret (.val (.lptr id ver off))
    | .fn f cs => .ret (.val (.fn f cs))
    | _ => .fail
  | .binOp op T x y _ => match aM y with
    | true => anil E.tt op T (ρ x)
    | false => abin E.tt op T (ρ x) (ρ y)
  | .makeSlice T l m => match aO E.tt T, ρ l, ρ m with
    | some (e, ei), .int _ n, .int _ q => match E.live 1000000 with
      | none => .ret ⟨decide (0 ≤ n ∧ n ≤ q ∧ q * ei.bytes ≤ 140737488355328 ∧ q ≤ 1099511627776), Unit, some (), fun _ => ⟨.own c 0, [], [.row 0 ei.size n.toNat e fun _ => aC ei.zero]⟩⟩
      | some _ => .ret (.when (decide (0 ≤ n ∧ n ≤ q ∧ q * ei.bytes ≤ 140737488355328 ∧ q ≤ 1099511627776)) (.slc ei.size n.toNat fun _ => aC ei.zero))
    | _, _, _ => .fail
  | .unOp op _ x => aun op (ρ x)
  | .convert s d x => match E.tt s, E.tt d, ρ x with
    | some si, some di, .int _ n => match si.kind, di.kind with
      | .int _, .int k => .ret (.val (.int k (k.wrap n)))
      | _, _ => .fail
    | _, _, _ => .fail
  | .makeFunc (.func f) first cap => match first.toList with
    | [] => .ret (.val (.fn f (cap.toList.map ρ)))
    | _ => .fail
  | .slice T x lo hi none => match aO E.tt T with
    | some (_, ei) => gI (ρ x) fun x' u => match szOk ei.size x' with
      | true => aslice x' (lo.map ρ) (hi.map ρ) u
      | false => .fail
    | none => .fail
  | .fieldAddr S x i => match bg E.tt S i with
    | some (off, _) => kM (ρ x) off
    | none => .fail
  | .field S x i => match bg E.tt S i, ρ x with
    | some (off, fi), .agg cs => match apart fi cs off with
      | some v => .ret (.val v)
      | none => .fail
    | _, _ => .fail
  | .indexAddr T x i => match aO E.tt T, ρ x, ρ i with
    | some (_, ei), .slc sz n f, .int _ j => match Nat.beq sz ei.size with
      | true => .ret (.when (decide (0 ≤ j ∧ j < n)) (.pptr (f j.toNat) 0))
      | false => .fail
    | some (_, ei), .own id ver, .int _ j => .look id fun
      | .row ver' sz n _ _ => match Nat.beq ver ver' && Nat.beq sz ei.size with
        | true => .ret (.when (decide (0 ≤ j ∧ j < n)) (.rptr id ver sz j.toNat 0))
        | false => .fail
      | .lrow ver' sz n _ _ => match Nat.beq ver ver' && Nat.beq sz ei.size with
        | true => idxL id ver sz j n 0
        | false => .fail
      | _ => .fail
    | _, _, _ => .fail
  | .index T x i => match E.tt T, ρ x, ρ i with
    | some ti, .str s, .int _ n => match ti.kind with
      | .str => .ret (.when (decide (0 ≤ n ∧ n < (s.size : Int))) (.int .u8 (nX s n)))
      | _ => .fail
    | _, _, _ => .fail
  | .extract t i => match ρ t with
    | .tup vs => match vs[i]? with
      | some v => .ret (.val v)
      | none => .fail
    | _ => .fail
  | .call cl =>
    match cl.callee with
    | .builtin b => jL E b cl.argTypes cl.args (cl.args.toList.map ρ) c
    | .value f => match ρ f with
      | .fn g caps => mO E g (bX (E.live (3000000 + g)) 0 (cl.args.toList.map ρ ++ caps)) c
      | _ => .fail
    | _ => .fail
  | _ => .fail
end Go.Proofs.YtimkpfnbkclclaaGreat.Ab
namespace Go.Proofs.YtimkpfnbkclclaaGreat.Ab
open Go
structure Rec where
  dst : Option Nat
  val : AV
  rd : List Nat
  wr : List (Nat × Blk)
def iJ (ops : Array Oper) (j : Nat) : Option Nat := (ops[j]?).bind (·.dst)
def tmpsOf (ops : Array Oper) (o : Oper) : List Nat :=
  (o.op.operands.toList.filterMap fun | .tmp t => some t | _ => none) ++ (match o.guard with | some (j, _) => (iJ ops j).toList | none => [])
def l8 (tm : List (Nat × AV)) (d : Option Nat) (v : AV) : List (Nat × AV) :=
  match d with
  | some t => (t, v) :: tm
  | none => tm
def jA (nt : Nat) : Option Nat → Bool
  | some t => Nat.blt t nt
  | none => true
def kY {R : Type} (E : Env) (o : Oper) (ci : Nat) (st : St) (rs : List Rec) (k : St → List Rec → Option R) : Option R :=
  match jA E.nt o.dst with
  | false => none
  | true =>
    (aop E o (aev st.tm) ci).runK (hget st.hp) fun rd g =>
      match g.req with
      | false => none
      | true =>
        match g.get with
        | none => none
        | some x =>
          match Nat.ble (g.eff x).news.length 64 && allB (fun p => (hget st.hp p.1).isSome) (g.eff x).upd with
          | false => none
          | true => k ⟨l8 st.tm o.dst (g.eff x).val, mX st.hp ((g.eff x).upd ++ number ci (g.eff x).news), st.c⟩
              (rs ++ [⟨o.dst, (g.eff x).val, rd, (g.eff x).upd ++ number ci (g.eff x).news⟩])
def je {R : Type} (E : Env) (o : Oper) (st : St) (rs : List Rec) (k : St → List Rec → Option R) : Option R :=
  match jA E.nt o.dst with
  | false => none
  | true => k ⟨l8 st.tm o.dst .void, st.hp, st.c⟩ (rs ++ [⟨o.dst, .void, [], []⟩])
def kZ {R : Type} (E : Env) (ops : Array Oper) (o : Oper) (ci : Nat) (st : St) (rs : List Rec) (k : St → List Rec → Option R) : Option R :=
  match o.guard with
  | none => kY E o ci st rs k
  | some (j, want) =>
    match iJ ops j with
    | none => none
    | some t =>
      match aget st.tm t with
      | .bool b =>
        match b with
        | true => match want with
          | true => kY E o ci ⟨(t, .bool true) :: st.tm, st.hp, st.c⟩ rs k
          | false => je E o ⟨(t, .bool true) :: st.tm, st.hp, st.c⟩ rs k
        | false => match want with
          | true => je E o ⟨(t, .bool false) :: st.tm, st.hp, st.c⟩ rs k
          | false => kY E o ci ⟨(t, .bool false) :: st.tm, st.hp, st.c⟩ rs k
      | .void => je E o st rs k
      | _ => none
def aops {R : Type} (E : Env) (ops : Array Oper) : List Oper → Nat → St → List Rec → (St → List Rec → Option R) → Option R
  | [], _, st, rs, k => k st rs
  | o :: rest, ci, st, rs, k => kZ E ops o ci st rs fun st' rs' => aops E ops rest (ci + 64) st' rs' k
def dA (ms : List Nat) (o : Oper) : Nat := o.after.toList.foldl (fun s e => match Region.binds .any e with | true => s ||| 2 ^ e.on ||| ms.getD e.on 0 | false => s) 0
def masks : List Oper → List Nat → List Nat
  | [], ms => ms
  | o :: rest, ms => masks rest (ms ++ [dA ms o])
def forward : List Oper → Nat → Bool
  | [], _ => true
  | o :: rest, i => allB (fun e => match Region.binds .any e with | true => Nat.blt e.on i | false => true) o.after.toList && forward rest (i + 1)
def hit (xs ys : List Nat) : Bool := xs.any fun x => ys.any fun y => Nat.beq x y
def free (ti : List Nat) (ri : Rec) (tj : List Nat) (rj : Rec) : Bool :=
  let wi := ri.wr.map (·.1)
  let wj := rj.wr.map (·.1)
  !(hit wi (rj.rd ++ wj) || hit wj ri.rd || hit ri.dst.toList (tj ++ rj.dst.toList) || hit rj.dst.toList ti)
def iL (j mj : Nat) (tj : List Nat) (rj : Rec) : List (List Nat × Rec) → Nat → Bool
  | [], _ => true
  | (ti, ri) :: rest, i => (Nat.testBit mj i || free ti ri tj rj) && iL j mj tj rj rest (i + 1)
def indep : List (List Nat × Rec) → List (List Nat × Rec) → List Nat → Bool
  | _, [], _ => true
  | done, (tj, rj) :: rest, m :: ms => iL done.length m tj rj done 0 && indep (done ++ [(tj, rj)]) rest ms
  | _, _, [] => false
def ni (ops : Array Oper) (rs : List Rec) : Bool :=
  forward ops.toList 0 && indep [] ((ops.toList.map (tmpsOf ops)).zip rs) (masks ops.toList [])
def jv {R : Type} (E : Env) (ops : Array Oper) (draw : Bool) (st : St) (k : St → Option R) : Option R :=
  aops E ops ops.toList st.c st [] fun st' rs =>
    match draw with
    | false => k ⟨st'.tm, st'.hp, st.c + 64 * ops.size⟩
    | true => match ni ops rs with
      | true => k ⟨st'.tm, st'.hp, st.c + 64 * ops.size⟩
      | false => none
def eZ (h : List (Nat × Blk)) (q : Nat → Bool) (tv : Nat → Nat → Nat) : Tr :=
  ⟨fun id => match q id with | true => some id | false => none,
   fun id ver => match q id with
    | true => match hget h id with
      | some b => match Nat.beq ver b.ver && !b.isVar with
        | true => some (id, tv id ver)
        | false => none
      | none => none
    | false => none⟩
def trHp (t : Tr) (q : Nat → Bool) (tv : Nat → Nat → Nat) : List (Nat × Blk) → List (Nat × Blk)
  | [] => []
  | (id, b) :: r => match q id with
    | true => (id, Blk.tr t (tv id b.ver) b) :: trHp t q tv r
    | false => trHp t q tv r
def trTm (t : Tr) : List (Nat × AV) → List (Nat × AV)
  | [] => []
  | (i, v) :: r => (i, AV.tr t v) :: trTm t r
def eP (tm : List (Nat × AV)) : List Nat → List (Nat × AV)
  | [] => []
  | t :: ts => (t, aget tm t) :: eP tm ts
def nrm (q : Nat → Bool) (tv : Nat → Nat → Nat) (live : Option (List Nat)) (c : Nat) (st : St) : St :=
  ⟨match live with
    | some l => trTm (eZ st.hp q tv) (eP st.tm l)
    | none => trTm (eZ st.hp q tv) st.tm,
   trHp (eZ st.hp q tv) q tv st.hp, c⟩
def memN : List Nat → Nat → Bool
  | [], _ => false
  | x :: xs, y => match Nat.beq x y with
    | true => true
    | false => memN xs y
def kD (E : Env) (r c : Nat) (id : Nat) : Bool := match Nat.blt id c with
  | false => false
  | true => match E.mm with
    | none => true
    | some m => match E.gc r with
      | none => true
      | some l => match Nat.blt id m with
        | true => true
        | false => memN l id
def aj : Code → Nat
  | .region id _ _ => id
  | .seq a _ => aj a
  | .cond _ a _ => aj a
  | .block _ a => aj a
  | .loop a => aj a
  | .scope a => aj a
  | _ => 0
def eY {R : Type} (body : St → (AX → St → Option R) → Option R) (hd ex : St → St) : Nat → St → (AX → St → Option R) → Option R
  | 0, _, _ => none
  | n + 1, s, k => body s fun
    | .normal, s' => eY body hd ex n (hd s') k
    | .exit id, s' => k (.exit id) (ex s')
    | .ret, s' => k .ret (ex s')
def jG : Option (List Nat × List Nat) → Option (List Nat)
  | some ([], _ :: l) => some l
  | _ => none
def oU (E : Env) (c : Code) : Nat := match E.live (aj c) with
  | some ([], n :: _) => n
  | _ => E.fuel
def nrmK (q : Nat → Bool) (tv : Nat → Nat → Nat) (ka : Option (List Nat)) (live : Option (List Nat)) (n : Nat) (st : St) : St :=
  match ka with
  | some l => ⟨eP st.tm l, st.hp, st.c⟩
  | none => nrm q tv live n st
def tvOf (E : Env) (r id ver : Nat) : Nat := match E.mm with
  | none => 0
  | some m => match Nat.blt id m with
    | false => 0
    | true => match ver with
      | 0 => match E.gc (4000000 + r) with
        | some l => match memN l id with
          | true => 1
          | false => 0
        | none => 0
      | _ + 1 => 1
def aR (E : Env) (c : Code) (n : Nat) : St → St := nrmK (kD E (aj c) n) (tvOf E (aj c)) (jG (E.live (aj c))) ((E.live (aj c)).map (·.1)) n
def dP (E : Env) (c : Code) (n : Nat) : St → St := nrmK (kD E (aj c) n) (tvOf E (aj c)) (jG (E.live (aj c))) ((E.live (aj c)).map (·.2)) n
def szC : Code → Nat
  | .region _ ops _ => 64 * ops.size
  | .seq a b => szC a + szC b
  | .cond _ a b => szC a + szC b
  | .block _ a => szC a
  | _ => 0
def lift (c : Nat) (st : St) : St := ⟨st.tm, st.hp, match Nat.ble st.c c with | true => c | false => st.c⟩
mutual
def AV.fz (i v sz n : Nat) (f : Nat → List AV) : AV → AV
  | .own id ver => match Nat.beq id i && Nat.beq ver v with
    | true => .slc sz n f
    | false => .own id ver
  | .agg cs => .agg (AV.fzL i v sz n f cs)
  | .tup cs => .tup (AV.fzL i v sz n f cs)
  | .fn g cs => .fn g (AV.fzL i v sz n f cs)
  | .undef => .undef
  | .void => .void
  | .bool b => .bool b
  | .int k n => .int k n
  | .str s => .str s
  | .nilp => .nilp
  | .any1 => .any1
  | .raw v => .raw v
  | .slc sz n f => .slc sz n f
  | .ptr id off => .ptr id off
  | .rptr id ver sz k off => .rptr id ver sz k off
  | .pptr cs off => .pptr cs off
  | .lptr id ver off => .lptr id ver off
def AV.fzL (i v sz n : Nat) (f : Nat → List AV) : List AV → List AV
  | [] => []
  | x :: xs => AV.fz i v sz n f x :: AV.fzL i v sz n f xs
end
def Blk.fz (i v sz n : Nat) (f : Nat → List AV) : Blk → Blk
  | .var cells => .var (AV.fzL i v sz n f cells)
  | .lrow ver s m e cells => .lrow ver s m e (AV.fzL i v sz n f cells)
  | b => b
def fzTm (i v sz n : Nat) (f : Nat → List AV) : List (Nat × AV) → List (Nat × AV)
  | [] => []
  | (t, x) :: r => (t, AV.fz i v sz n f x) :: fzTm i v sz n f r
def fzHp (i v sz n : Nat) (f : Nat → List AV) : List (Nat × Blk) → List (Nat × Blk)
  | [] => []
  | (id, b) :: r => (id, Blk.fz i v sz n f b) :: fzHp i v sz n f r
def jP (p : PreC) (st : St) : St := match p with
  | .freeze id => match hget st.hp id with
    | some (.row ver sz n _ f) => ⟨fzTm id ver sz n f st.tm, hset (fzHp id ver sz n f st.hp) id (.dead (ver + 1)), st.c⟩
    | some (.nilrow ver) => ⟨fzTm id ver 1 0 (fun _ => []) st.tm, hset (fzHp id ver 1 0 (fun _ => []) st.hp) id (.dead (ver + 1)), st.c⟩
    | _ => st
  | .asrow id e sz f => match hget st.hp id with
    | some (.nilrow ver) => match Nat.blt 0 sz with
      | true => ⟨st.tm, hset st.hp id (.row ver sz 0 e f), st.c⟩
      | false => st
    | _ => st
def dG : List PreC → St → St
  | [], st => st
  | p :: ps, st => dG ps (jP p st)
def known : Operand → Bool → St → St
  | .tmp t, b, st => ⟨(t, .bool b) :: st.tm, st.hp, st.c⟩
  | _, _, st => st
def aS {R : Type} (E : Env) : Code → St → (AX → St → Option R) → Option R
  | .skip, st, k => k .normal st
  | .region id ops draw, st, k => jv E ops draw (dG (E.pre id) st) fun st' => k .normal st'
  | .seq a b, st, k => aS E a st fun
    | .normal, st' => aS E b st' k
    | .exit id, st' => k (.exit id) st'
    | .ret, st' => k .ret st'
  | .cond c x y, st, k => match aev st.tm c with
    | .bool b => match b with
      | true => aS E x (known c true st) fun ax st' => k ax (lift (st.c + szC x + szC y) st')
      | false => aS E y (known c false st) fun ax st' => k ax (lift (st.c + szC x + szC y) st')
    | _ => none
  | .block id c, st, k => aS E c st fun
    | .normal, st' => k .normal (lift (st.c + szC c) st')
    | .exit id', st' => match Nat.beq id' id with
      | true => k .normal (lift (st.c + szC c) st')
      | false => k (.exit id') st'
    | .ret, st' => k .ret st'
  | .loop c, st, k => match E.loops (aj c) with
    | some f => match f (aR E c st.c (dG (E.pre (1000000 + aj c)) st)) with
      | some r => match r.get with
        | some (.inl x) => k r.axl (r.stl x)
        | some (.inr y) => match r.one with
          | true => none
          | false => r.cas R y (k r.axr)
        | none => none
      | none => none
    | none => eY (fun s j => aS E c s j) (aR E c st.c) (dP E c st.c) (oU E c) (aR E c st.c (dG (E.pre (1000000 + aj c)) st)) k
  | .exit id, st, k => k (.exit id) st
  | .ret, st, k => k .ret st
  | _, _, _ => none
def bY (E : Env) (st : St) : List ResultVar → Option (List AV)
  | [] => some []
  | .tmp t :: r => match bY E st r with
    | some vs => some (aget st.tm t :: vs)
    | none => none
  | .cell a T :: r => match aget st.tm a, E.tt T with
    | .ptr id off, some ti => match hget st.hp id with
      | some (.var cells) => match apart ti cells off with
        | some v => match bY E st r with
          | some vs => some (v :: vs)
          | none => none
        | none => none
      | _ => none
    | _, _ => none
def pack : List AV → AV
  | [v] => v
  | vs => .tup vs
def expV (kv : Bool) (m j v : Nat) : Nat := match Nat.blt j m with
  | false => 0
  | true => match kv with
    | false => 1
    | true => match v with
      | 0 => 0
      | _ + 1 => 1
def kvOf (E : Env) (j : Nat) : Bool := match E.mm with
  | none => false
  | some _ => match E.gc 5000000 with
    | none => true
    | some l => match memN l j with
      | true => false
      | false => true
def kr (kv : Nat → Bool) (m : Nat) (ids : List Nat) (h : List (Nat × Blk)) : Tr :=
  ⟨fun id => idx ids id,
   fun id ver => match idx ids id with
    | some j => match hget h id with
      | some b => match Nat.beq ver b.ver && !b.isVar with
        | true => some (j, expV (kv j) m j ver)
        | false => none
      | none => none
    | none => none⟩
def fU (kv : Nat → Bool) (m : Nat) (t : Tr) (h : List (Nat × Blk)) : Nat → List Nat → Option (List Blk)
  | _, [] => some []
  | j, id :: ids => match hget h id with
    | some b => match fU kv m t h (j + 1) ids with
      | some bs => some (Blk.tr t (expV (kv j) m j b.ver) b :: bs)
      | none => none
    | none => none
def dL (h : List (Nat × Blk)) (ids : List Nat) : List Nat :=
  (ids.flatMap fun id => match hget h id with | some b => Blk.owns b ++ Blk.ptrs b | none => []).foldl aW ids
def dF (E : Env) (rv : List ResultVar) (m : Nat) (st : St) : Option (AV × List Blk) :=
  match bY E st rv with
  | none => none
  | some vs =>
    let ids0 := (AV.ptrsL vs ++ AV.ownsL vs).foldl aW (List.range m)
    let ids := dL st.hp (dL st.hp ids0)
    match fU (kvOf E) m (kr (kvOf E) m ids st.hp) st.hp 0 ids with
    | none => none
    | some bs => some (AV.tr (kr (kvOf E) m ids st.hp) (pack vs), bs)
def args : Nat → List AV → List (Nat × AV)
  | _, [] => []
  | i, v :: vs => (i, v) :: args (i + 1) vs
def arun (E : Env) (fn : Func) (vs : List AV) (ins : List Blk) : Option (AV × List Blk) :=
  match fn.body with
  | none => none
  | some c => match Nat.ble vs.length fn.ntmps with
    | false => none
    | true => match (match E.mm with | none => true | some m => Nat.beq ins.length m) with
     | false => none
     | true => aS { E with nt := fn.ntmps } c ⟨args 0 vs, number 0 ins, ins.length⟩ fun
      | .normal, st => dF E fn.results.toList ins.length (dG (E.pre 2000000) st)
      | .ret, st => dF E fn.results.toList ins.length (dG (E.pre 2000000) st)
      | _, _ => none
end Go.Proofs.YtimkpfnbkclclaaGreat.Ab
namespace Go.Proofs.YtimkpfnbkclclaaGreat.Ab
open Go
def zcOf : Value → ZC
  | .int k (.ofNat 0) => .int k
  | .bool false => .bool
  | .pointer none => .nilp
  | .slice none 0 0 => .nilsl
  | .string ⟨⟨[]⟩⟩ => .str
  | v => .raw v
def aH (g : TypeId → Option (List Bool)) : List Field → Nat → Option (List Bool)
  | [], _ => some []
  | f :: fs, i => match f.name != "_" && Nat.beq f.offset i, g f.type with
    | true, some t => match aH g fs (i + t.length) with
      | some ts => some (t ++ ts)
      | none => none
    | _, _ => none
def eqcT (P : Program) : Nat → TypeId → Option (List Bool)
  | 0, _ => none
  | n + 1, t => match P.underlying t with
    | some (.int _) => some [true]
    | some .bool => some [false]
    | some (.struct fs) => match P.stoodInHeld t, P.info? t with
      | false, some i => match aH (eqcT P n) fs.toList 0 with
        | some ts => match Nat.beq ts.length i.size with
          | true => some ts
          | false => none
        | none => none
      | _, _ => none
    | _ => none
def ko (P : Program) (t : TypeId) : TypeDesc → Option (List Bool)
  | .int _ => some [true]
  | .bool => some [false]
  | .struct fs => match P.stoodInHeld t with
    | false => aH (eqcT P 3) fs.toList 0
    | true => none
  | _ => none
def kindOf : TypeDesc → TK
  | .int k => .int k
  | .slice e => .slice e
  | .struct fs => .struct (fs.toList.map fun f => (f.offset, f.type))
  | .pointer _ => .ptr
  | .string => .str
  | _ => .other
def eX : TypeDesc → Bool
  | .struct _ => true
  | .array _ _ => true
  | _ => false
def ttOf (P : Program) (t : TypeId) : Option TI :=
  match P.info? t, P.underlying t with
  | some i, some d =>
    match i.zero with
    | some z => match z.cells.toList.all Value.oneCell' && Nat.beq z.cells.size i.size with
      | true => some ⟨i.size, eX d, i.bytes, kindOf d, z.cells.toList.map zcOf, ko P t d⟩
      | false => none
    | none => none
  | _, _ => none
def iK (f : Nat → List AV) : Nat → Bool
  | 0 => true
  | n + 1 => AV.flatL (f n) && iK f n
def Blk.flatB : Blk → Bool
  | .var cells => AV.flatL cells
  | .row _ _ n _ f => iK f n
  | .lrow _ _ _ _ cells => AV.flatL cells
  | _ => true
theorem jC {f : Nat → List AV} {n : Nat} (h : iK f n = true) : ∀ k, k < n → AV.flatL (f k) = true := by
  induction n with
  | zero => intro k hk; omega
  | succ n ih =>
    intro k hk
    simp only [iK, Bool.and_eq_true] at h
    by_cases e : k = n
    · subst e; exact h.1
    · exact ih h.2 k (by omega)
theorem Blk.flatB_flat {b : Blk} (h : b.flatB = true) : b.flat := by
  cases b with
  | var cells => exact h
  | row v sz n e f => exact jC h
  | lrow v sz n e cells => exact h
  | _ => trivial
def jo (E : Env) (fn : Func) (vs : List AV) (ins : List Blk) : Ans where
  α := AV × List Blk
  get := arun E fn vs ins
  av := fun x => x.1
  outs := fun x => x.2
  fl := fun x => AV.flat x.1 && x.2.all Blk.flatB
  hfl := fun x h => by
    simp only [Bool.and_eq_true, List.all_eq_true] at h
    exact ⟨h.1, fun b hb => Blk.flatB_flat (h.2 b hb)⟩
end Go.Proofs.YtimkpfnbkclclaaGreat.Ab
