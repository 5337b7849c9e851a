/- The plain evaluator: operations, regions, code, calls. -/
import Derived.Test.YthkdmemkjojmoaaZB1
namespace Go.Proofs.Ythkdmemkjojmoaa.Ab
open Go

/-- A value in other numbers: gp turns variables' numbers, go those of own slices (with their version); what has none is forgotten. -/
structure Tr where
  gp : Nat → Option Nat
  go : Nat → Nat → Option (Nat × Nat)
mutual
def AV.tr (t : Tr) : AV → AV
  | .agg cs => .agg (AV.trL t cs)
  | .tup cs => .tup (AV.trL t cs)
  | .fn f cs => .fn f (AV.trL t cs)
  | .own id ver => match t.go id ver with
    | some p => .own p.1 p.2
    | none => .undef
  | .rptr id ver sz k off => match t.go id ver with
    | some p => .rptr p.1 p.2 sz k off
    | none => .undef
  | .lptr id ver off => match t.go id ver with
    | some p => .lptr p.1 p.2 off
    | none => .undef
  | .ptr id off => match t.gp id with
    | some i => .ptr i off
    | none => .undef
  | .undef => .undef
  | .void => .void
  | .bool b => .bool b
  | .int k n => .int k n
  | .str s => .str s
  | .nilp => .nilp
  | .any1 => .any1
  | .raw v => .raw v
  | .slc sz n f => .slc sz n f
  | .pptr cs off => .pptr cs off
def AV.trL (t : Tr) : List AV → List AV
  | [] => []
  | v :: vs => AV.tr t v :: AV.trL t vs
end
/-- A block in other numbers, of version ver. -/
def Blk.tr (t : Tr) (ver : Nat) : Blk → Blk
  | .var cells => .var (AV.trL t cells)
  | .row _ sz n e f => .row ver sz n e f
  | .nilrow _ => .nilrow ver
  | .lrow _ sz n e cells => .lrow ver sz n e (AV.trL t cells)
  | .dead _ => .dead ver
def Blk.ver : Blk → Nat
  | .var _ => 0
  | .row v _ _ _ _ => v
  | .nilrow v => v
  | .lrow v _ _ _ _ => v
  | .dead v => v

mutual
/-- No slice that is only read is in it. -/
def AV.flat : AV → Bool
  | .agg cs => AV.flatL cs
  | .tup cs => AV.flatL cs
  | .fn _ cs => AV.flatL cs
  | .slc _ n _ => Nat.beq n 0
  | .pptr _ _ => false
  | _ => true
def AV.flatL : List AV → Bool
  | [] => true
  | v :: vs => match AV.flat v with
    | true => AV.flatL vs
    | false => false
end
def Blk.flat : Blk → Prop
  | .var cells => AV.flatL cells = true
  | .row _ _ n _ f => ∀ k, k < n → AV.flatL (f k) = true
  | .lrow _ _ _ _ cells => AV.flatL cells = true
  | _ => True
/-- An answer of a callee, with what it says of slices that are only read: none of them is in it. -/
structure Ans extends Res where
  fl : α → Bool
  hfl : ∀ x, fl x = true → AV.flat (av x) = true ∧ ∀ b ∈ outs x, b.flat

inductive AX where
  | normal | exit (id : Nat) | ret
structure St where
  tm : List (Nat × AV)
  hp : List (Nat × Blk)
  c : Nat
structure LRes where
  α : Type
  β : Type
  get : Option (α ⊕ β)
  one : Bool
  axl : AX
  stl : α → St
  axr : AX
  str : β → St
/-- What is done to a state ahead of a region, a loop, a function's end: an own slice becomes one that is only read; a nil one, one of no elements. -/
inductive PreC where
  | freeze (id : Nat)
  | asrow (id : Nat) (e : TypeId) (sz : Nat) (f : Nat → List AV)
structure Env where
  tt : TypeId → Option TI
  fs : FuncId → List AV → List Blk → Option Ans
  loops : Nat → Option (St → Option LRes)
  live : Nat → Option (List Nat × List Nat)
  fuel : Nat
  nt : Nat
  pre : Nat → List PreC
  gc : Nat → Option (List Nat)
  mm : Option Nat

def aget : List (Nat × AV) → Nat → AV
  | [], _ => .undef
  | (k, v) :: r, t => match Nat.beq k t with
    | true => v
    | false => aget r t
def hget : List (Nat × Blk) → Nat → Option Blk
  | [], _ => none
  | (k, v) :: r, t => match Nat.beq k t with
    | true => some v
    | false => hget r t
def hset : List (Nat × Blk) → Nat → Blk → List (Nat × Blk)
  | [], id, b => [(id, b)]
  | (k, x) :: r, id, b => match Nat.beq k id with
    | true => (k, b) :: r
    | false => (k, x) :: hset r id b
def hsets : List (Nat × Blk) → List (Nat × Blk) → List (Nat × Blk)
  | h, [] => h
  | h, (id, b) :: r => hsets (hset h id b) r
def number : Nat → List Blk → List (Nat × Blk)
  | _, [] => []
  | c, b :: bs => (c, b) :: number (c + 1) bs

def aev (tm : List (Nat × AV)) : Operand → AV
  | .tmp t => aget tm t
  | .const v => constAV v
  | .func f => .fn f []
  | .global _ => .undef

def idx : List Nat → Nat → Option Nat
  | [], _ => none
  | x :: xs, y => match Nat.beq x y with
    | true => some 0
    | false => match idx xs y with
      | some i => some (i + 1)
      | none => none
def addNew (xs : List Nat) (y : Nat) : List Nat :=
  match idx xs y with
  | some _ => xs
  | none => xs ++ [y]
mutual
def AV.ptrs : AV → List Nat
  | .ptr id _ => [id]
  | .fn _ cs => AV.ptrsL cs
  | .agg cs => AV.ptrsL cs
  | .tup cs => AV.ptrsL cs
  | _ => []
def AV.ptrsL : List AV → List Nat
  | [] => []
  | v :: vs => AV.ptrs v ++ AV.ptrsL vs
end
mutual
def AV.owns : AV → List Nat
  | .own id _ => [id]
  | .fn _ cs => AV.ownsL cs
  | .agg cs => AV.ownsL cs
  | .tup cs => AV.ownsL cs
  | _ => []
def AV.ownsL : List AV → List Nat
  | [] => []
  | v :: vs => AV.owns v ++ AV.ownsL vs
end
def Blk.owns : Blk → List Nat
  | .var cells => AV.ownsL cells
  | .lrow _ _ _ _ cells => AV.ownsL cells
  | _ => []
def Blk.ptrs : Blk → List Nat
  | .var cells => AV.ptrsL cells
  | .lrow _ _ _ _ cells => AV.ptrsL cells
  | _ => []
def lookAll : List Nat → (List Blk → LM EffG) → LM EffG
  | [], k => k []
  | id :: ids, k => .look id fun b => lookAll ids fun bs => k (b :: bs)
/-- A slice of the call's own is lent as one that is only read. -/
def lend0 : AV → (AV → List (Nat × Nat) → LM EffG) → LM EffG
  | .own id ver, k => .look id fun
    | .row ver' sz n _ f => match Nat.beq ver ver' with
      | true => k (.slc sz n f) [(id, ver)]
      | false => .fail
    | .nilrow ver' => match Nat.beq ver ver' with
      | true => k (.slc 0 0 fun _ => []) []
      | false => .fail
    | _ => .fail
  | v, k => k v []
def lendL : List AV → (List AV → List (Nat × Nat) → LM EffG) → LM EffG
  | [], k => k [] []
  | v :: vs, k => lend0 v fun v' u => lendL vs fun vs' us => k (v' :: vs') (u ++ us)
def rowOf (sz : Nat) (cells : List AV) (k : Nat) : List AV := (cells.drop (k * sz)).take sz
/-- The elements of a slice out of its cells; beyond them, the last one. -/
def rowC (sz : Nat) : Nat → List AV → Nat → List AV
  | 0, cells, _ => rowOf sz cells 0
  | n + 1, cells, k => match n with
    | 0 => rowOf sz cells 0
    | n + 1 => selRow (Nat.beq k 0) (rowOf sz cells 0) (rowC sz (n + 1) (cells.drop sz) (k - 1))
def lend : AV → (AV → List (Nat × Nat) → LM EffG) → LM EffG
  | .own id ver, k => .look id fun
    | .lrow ver' sz n _ cells => match Nat.beq ver ver' with
      | true => lendL cells fun cells' u => match allB AV.plain cells' with
        | true => k (.slc sz n (rowC sz n cells')) ((id, ver) :: u)
        | false => .fail
      | false => .fail
    | _ => lend0 (.own id ver) k
  | v, k => lend0 v k
def lendA : List AV → (List AV → List (Nat × Nat) → LM EffG) → LM EffG
  | [], k => k [] []
  | .agg cs :: vs, k => lendL cs fun cs' u => lendA vs fun vs' us => k (.agg cs' :: vs') (u ++ us)
  | v :: vs, k => lend v fun v' u => lendA vs fun vs' us => k (v' :: vs') (u ++ us)

/-- Lent, but for own slices that the callee may write. -/
def lendB : List AV → (List AV → List (Nat × Nat) → LM EffG) → LM EffG
  | [], k => k [] []
  | .agg cs :: vs, k => lendL cs fun cs' u => lendB vs fun vs' us => k (.agg cs' :: vs') (u ++ us)
  | .own id ver :: vs, k => lendB vs fun vs' us => k (.own id ver :: vs') us
  | v :: vs, k => lend v fun v' u => lendB vs fun vs' us => k (v' :: vs') (u ++ us)
def directOwns : List AV → List Nat
  | [] => []
  | .own id _ :: vs => id :: directOwns vs
  | _ :: vs => directOwns vs

def trIn (ids vers : List Nat) : Tr := ⟨idx ids, fun id ver => match idx ids id with
  | some j => match Nat.beq ver (vers.getD j 0) with
    | true => some (j, 0)
    | false => none
  | none => none⟩
def Blk.isVar : Blk → Bool
  | .var _ => true
  | _ => false
/-- Back: what came in keeps its number, with a version more if it has one; what is new gets the numbers from c on. -/
def trOut (ids : List Nat) (bs : List Blk) (c : Nat) : Tr :=
  ⟨fun j => some (match ids[j]? with | some id => id | none => c + (j - ids.length)),
   fun j ver => match ids[j]? with
    | some id => match bs[j]? with
      | some b => match b.isVar with
        | true => none
        | false => some (id, b.ver + ver)
      | none => none
    | none => some (c + (j - ids.length), 0)⟩
def trIns (t : Tr) : List Blk → List Blk
  | [] => []
  | b :: bs => Blk.tr t 0 b :: trIns t bs
/-- A block that comes back, in the place of b. -/
def back (t : Tr) (b b' : Blk) : Blk :=
  match b.isVar, b'.isVar with
  | true, true => Blk.tr t 0 b'
  | false, false => Blk.tr t (b.ver + b'.ver) b'
  | _, _ => .dead (b.ver + 1)
def updOut (t : Tr) : List Nat → List Blk → List Blk → List (Nat × Blk)
  | id :: ids, b :: bs, b' :: bs' => (id, back t b b') :: updOut t ids bs bs'
  | _, _, _ => []
def notIn (ids : List Nat) (bor : List (Nat × Nat)) : Bool := allB (fun p => match idx ids p.1 with | some _ => false | none => true) bor

def deadsOf (bor : List (Nat × Nat)) (fl : Bool) : List (Nat × Blk) :=
  match bor with
  | [] => []
  | _ => match fl with
    | true => []
    | false => bor.map fun p => (p.1, .dead (p.2 + 1))
/-- The numbers that blocks speak of, too. -/
def grow1 (ids : List Nat) (bs : List Blk) : List Nat := (bs.flatMap fun b => Blk.owns b ++ Blk.ptrs b).foldl addNew ids
def acall (E : Env) (f : FuncId) (args : List AV) (c : Nat) : LM EffG :=
  let mt := (E.live (2000000 + f)).isSome
  let ids0 := (match mt with | true => directOwns args ++ AV.ptrsL args | false => AV.ptrsL args).foldl addNew []
  lookAll ids0 fun bs0 =>
  lookAll (grow1 ids0 bs0) fun bs1 =>
  lookAll (grow1 (grow1 ids0 bs0) bs1) fun bs2 =>
  let ids := grow1 (grow1 (grow1 ids0 bs0) bs1) bs2
  lookAll ids fun bs =>
  (match mt with | true => lendB args | false => lendA args) fun args' bor =>
  match notIn ids bor with
  | false => .fail
  | true =>
    match E.fs f (AV.trL (trIn ids (bs.map Blk.ver)) args') (trIns (trIn ids (bs.map Blk.ver)) bs) with
    | none => .fail
    | some r => .ret ⟨true, r.α, r.get, fun x =>
        ⟨AV.tr (trOut ids bs c) (r.av x),
          updOut (trOut ids bs c) ids bs (r.outs x) ++ deadsOf bor (r.fl x),
          ((r.outs x).drop ids.length).map (Blk.tr (trOut ids bs c) 0)⟩⟩

/-- Own slices that are not told of. -/
def forget1 : AV → AV
  | .own _ _ => .any1
  | v => v
def forgetV : AV → AV
  | .agg cs => .agg (cs.map forget1)
  | v => forget1 v
/-- Arguments that a callee is not told of. -/
def forgetA (l : Option (List Nat × List Nat)) : Nat → List AV → List AV
  | _, [] => []
  | i, x :: xs => (match l with | none => x | some p => match idx p.1 i with | some _ => forgetV x | none => x) :: forgetA l (i + 1) xs
def ablen : AV → (Nat → LM EffG) → LM EffG
  | .slc _ n _, k => k n
  | .str s, k => k s.size
  | .own id ver, k => .look id fun
    | .row ver' _ n _ _ => match Nat.beq ver ver' with
      | true => k n
      | false => .fail
    | .nilrow ver' => match Nat.beq ver ver' with
      | true => k 0
      | false => .fail
    | .lrow ver' _ n _ _ => match Nat.beq ver ver' with
      | true => k n
      | false => .fail
    | _ => .fail
  | _, _ => .fail
def aminmax (least : Bool) : AV → List AV → LM EffG
  | x, [] => .ret (.val x)
  | .int k x, .int k' y :: r => if k = k' then aminmax least (.int k (match least with | true => if y < x then y else x | false => if x < y then y else x)) r else .fail
  | _, _ => .fail

/-- Append: xs of m elements (as functions) to a slice of the call's own. -/
def aappend (e : TypeId) (ei : TI) (s : AV) (isnil : Bool) (c : Nat) (m : Nat) (g : Nat → List AV) : LM EffG :=
  match isnil with
  | true => .ret ⟨decide (m * ei.bytes ≤ 140737488355328 ∧ m ≤ 1099511627776), Unit, some (), fun _ => ⟨.own c 0, [], [.row 0 ei.size m e g]⟩⟩
  | false =>
    match s with
    | .own id ver => .look id fun
      | .row ver' sz n e' f => match Nat.beq ver ver' && Nat.beq e e' && Nat.beq sz ei.size with
        | true => .ret ⟨decide ((n + m) * ei.bytes ≤ 140737488355328 ∧ n + m ≤ 1099511627776), Unit, some (), fun _ =>
            ⟨.own id (ver + 1), [(id, .row (ver + 1) sz (n + m) e (appRow n f g))], []⟩⟩
        | false => .fail
      | .nilrow ver' => match Nat.beq ver ver' with
        | true => .ret ⟨decide (m * ei.bytes ≤ 140737488355328 ∧ m ≤ 1099511627776), Unit, some (), fun _ =>
            ⟨.own id (ver + 1), [(id, .row (ver + 1) ei.size m e g)], []⟩⟩
        | false => .fail
      | _ => .fail
    | _ => .fail
/-- Append: m elements whose cells are listed. -/
def aappendL (e : TypeId) (ei : TI) (s : AV) (isnil : Bool) (c : Nat) (m : Nat) (cs : List AV) : LM EffG :=
  match isnil with
  | true => .ret ⟨decide (m * ei.bytes ≤ 140737488355328 ∧ m ≤ 1099511627776), Unit, some (), fun _ => ⟨.own c 0, [], [.lrow 0 ei.size m e cs]⟩⟩
  | false =>
    match s with
    | .own id ver => .look id fun
      | .lrow ver' sz n e' cs0 => match Nat.beq ver ver' && Nat.beq e e' && Nat.beq sz ei.size with
        | true => .ret ⟨decide ((n + m) * ei.bytes ≤ 140737488355328 ∧ n + m ≤ 1099511627776), Unit, some (), fun _ =>
            ⟨.own id (ver + 1), [(id, .lrow (ver + 1) sz (n + m) e (cs0 ++ cs))], []⟩⟩
        | false => .fail
      | .nilrow ver' => match Nat.beq ver ver' with
        | true => .ret ⟨decide (m * ei.bytes ≤ 140737488355328 ∧ m ≤ 1099511627776), Unit, some (), fun _ =>
            ⟨.own id (ver + 1), [(id, .lrow (ver + 1) ei.size m e cs)], []⟩⟩
        | false => .fail
      | _ => .fail
    | _ => .fail
def aappend2 (e : TypeId) (ei : TI) (s : AV) (isnil : Bool) (c : Nat) : AV → LM EffG
  | .slc sz m g => match Nat.beq sz ei.size || Nat.beq m 0 with
    | true => aappend e ei s isnil c m g
    | false => .fail
  | .own id ver => .look id fun
    | .row ver' sz m _ g => match Nat.beq ver ver' && Nat.beq sz ei.size with
      | true => aappend e ei s isnil c m g
      | false => .fail
    | .nilrow ver' => match Nat.beq ver ver' with
      | true => aappend e ei s isnil c 0 fun _ => []
      | false => .fail
    | .lrow ver' sz m _ cs => match Nat.beq ver ver' && Nat.beq sz ei.size with
      | true => aappendL e ei s isnil c m cs
      | false => .fail
    | _ => .fail
  | _ => .fail

def abuiltin (E : Env) (b : Builtin) (types : Array TypeId) (ops : Array Operand) (args : List AV) (c : Nat) : LM EffG :=
  match b, args with
  | .len, [x] => match (types[0]?).bind E.tt with
    | some ti => match ti.kind with
      | .slice _ => (match x with | .str _ => .fail | _ => ablen x fun n => .ret (.val (.int .i64 n)))
      | .str => (match x with | .str s => .ret (.val (.int .i64 s.size)) | _ => .fail)
      | _ => .fail
    | none => .fail
  | .min, x :: xs => aminmax true x xs
  | .max, x :: xs => aminmax false x xs
  | .append, [s, x] => match types[0]?, types[1]? with
    | some t, some t2 => match Nat.beq t t2 with
      | true => match elemOf? E.tt t with
        | some (e, ei) => aappend2 e ei s (match ops[0]? with | some o => isNilC o | none => false) c x
        | none => .fail
      | false => .fail
    | _, _ => .fail
  | _, _ => .fail

def aload (ti : TI) : AV → LM EffG
  | .ptr id off => .look id fun
    | .var cells => match apart ti cells off with
      | some v => .ret (.val v)
      | none => .fail
    | _ => .fail
  | .rptr id ver sz k off => .look id fun
    | .row ver' sz' _ _ f => match Nat.beq ver ver' && Nat.beq sz sz' with
      | true => match Nat.ble (off + ti.size) sz with
        | true => match ti.agg with
          | true => .ret (.val (.agg (((f k).drop off).take ti.size)))
          | false => match Nat.beq ti.size 1 with
            | true => .ret (.val ((f k).getD off .undef))
            | false => .fail
        | false => .fail
      | false => .fail
    | _ => .fail
  | .pptr cs off => match apart ti cs off with
    | some v => .ret (.val v)
    | none => .fail
  | .lptr id ver off => .look id fun
    | .lrow ver' _ _ _ cells => match Nat.beq ver ver' with
      | true => match apart ti cells off with
        | some v => .ret (.val v)
        | none => .fail
      | false => .fail
    | _ => .fail
  | _ => .fail
/-- A byte of a text. -/
def bytAt (s : ByteArray) (n : Int) : Int := match s[n.toNat]? with
  | some b => b.toNat
  | none => 0
/-- Cells that are stored: a nil slice that is written in the text gets a number. -/
def astore (ti : TI) (a : AV) (xs : List AV) (news : List Blk) : LM EffG :=
  match Nat.beq xs.length ti.size && allB AV.one xs with
  | false => .fail
  | true =>
    match a with
    | .ptr id off => .look id fun
      | .var cells => match Nat.ble (off + ti.size) cells.length with
        | true => .ret (.of ⟨.void, [(id, .var (setAt cells off xs))], news⟩)
        | false => .fail
      | _ => .fail
    | .rptr id ver sz k off => purifyL xs fun xs' u => .look id fun
      | .row ver' sz' n e f => match Nat.beq ver ver' && Nat.beq sz sz' && Nat.ble (off + ti.size) sz && notIn [id] (u.map fun p => (p.1, 0)) with
        | true => .ret (.of ⟨.void, (id, .row ver sz n e (updRow k (setAt (f k) off xs') f)) :: u, []⟩)
        | false => .fail
      | _ => .fail
    | .lptr id ver off => match news with
      | [] => .look id fun
        | .lrow ver' sz n e cells => match Nat.beq ver ver' && Nat.ble (off + ti.size) cells.length with
          | true => .ret (.of ⟨.void, [(id, .lrow ver sz n e (setAt cells off xs))], []⟩)
          | false => .fail
        | _ => .fail
      | _ => .fail
    | _ => .fail

def repl (zs : List AV) : Nat → List AV
  | 0 => []
  | n + 1 => zs ++ repl zs n
def afield (a : AV) (o : Nat) : LM EffG :=
  match a with
  | .ptr id off => .ret (.val (.ptr id (off + o)))
  | .rptr id ver sz k off => .ret (.val (.rptr id ver sz k (off + o)))
  | .pptr cs off => .ret (.val (.pptr cs (off + o)))
  | .lptr id ver off => .ret (.val (.lptr id ver (off + o)))
  | _ => .fail
/-- The place of an element of a listed slice, its number looked for. -/
def idxL (id ver sz : Nat) (j : Int) : Nat → Nat → LM EffG
  | 0, _ => .fail
  | n + 1, k => .case (decide (j = (k : Int))) (.ret (.val (.lptr id ver (k * sz)))) (idxL id ver sz j n (k + 1))
def anyOwn : List AV → Bool
  | [] => false
  | .own _ _ :: _ => true
  | _ :: r => anyOwn r
def szOk (size : Nat) : AV → Bool
  | .slc sz n _ => Nat.beq sz size || Nat.beq n 0
  | _ => true
def aslice (x : AV) (lo hi : Option AV) (upd : List (Nat × Blk)) : LM EffG :=
  match x, lo, hi with
  | .slc sz n f, none, none => .ret (.of ⟨.slc sz n f, upd, []⟩)
  | .slc sz n f, some (.int _ l), none => .ret ⟨decide (0 ≤ l ∧ l ≤ n), Unit, some (), fun _ => ⟨.slc sz (n - l.toNat) fun k => f (k + l.toNat), upd, []⟩⟩
  | .slc sz n f, none, some (.int _ h) => .ret ⟨decide (0 ≤ h ∧ h ≤ n), Unit, some (), fun _ => ⟨.slc sz h.toNat f, upd, []⟩⟩
  | .slc sz n f, some (.int _ l), some (.int _ h) => .ret ⟨decide (0 ≤ l ∧ l ≤ h ∧ h ≤ n), Unit, some (), fun _ => ⟨.slc sz (h.toNat - l.toNat) fun k => f (k + l.toNat), upd, []⟩⟩
  | _, _, _ => .fail

def isEq : BinOp → Option Bool
  | .eql => some true
  | .neq => some false
  | _ => none
/-- A slice and nil: known of one that has elements, and of one of the call's own that is nil. -/
def anil (tt : TypeId → Option TI) (op : BinOp) (T : TypeId) (x : AV) : LM EffG :=
  match (tt T).map TI.kind, isEq op with
  | some (.slice _), some b => match x with
    | .slc _ n _ => .ret (.when (decide (0 < n)) (.bool !b))
    | .own id ver => .look id fun
      | .row ver' _ n _ _ => match Nat.beq ver ver' with
        | true => .ret (.when (decide (0 < n)) (.bool !b))
        | false => .fail
      | .nilrow ver' => match Nat.beq ver ver' with
        | true => .ret (.val (.bool b))
        | false => .fail
      | _ => .fail
    | _ => .fail
  | _, _ => .fail
/-- An operation. (A made slice is only read, if E.live says anything of 1000000; a laid slice is listed, if of 1000001; a callee f may write the slices that it is given, if of 2000000 + f.) -/
def aop (E : Env) (o : Oper) (ρ : Operand → AV) (c : Nat) : LM EffG :=
  match o.op with
  | .move x | .assign x =>
    match isNilC x with
    | true => .ret (.of ⟨.own c 0, [], [.nilrow 0]⟩)
    | false => .ret (.val (ρ x))
  | .pick t a b => match ρ t with
    | .bool t => .ret (.val (apick t (ρ a) (ρ b)))
    | _ => .fail
  | .alloc T => match E.tt T with
    | some ti => .ret (.of ⟨.ptr c 0, [], .var (zcells ti.zero (c + 1)) :: nilrows (zslices ti.zero)⟩)
    | none => .fail
  | .box _ x =>
    match isNilC x with
    | true => .ret (.of ⟨.ptr c 0, [], [.var [.own (c + 1) 0], .nilrow 0]⟩)
    | false => match allB AV.one (ρ x).cells with
      | true => .ret (.of ⟨.ptr c 0, [], [.var (ρ x).cells]⟩)
      | false => .fail
  | .build T parts => match E.tt T with
    | some ti => match ti.kind with
      | .struct fs => match allB (fun p => (E.tt p.2).isSome) fs with
       | false => .fail
       | true => match lastElem (parts.toList.map fun p => (p.1, ρ p.2)) (zcells ti.zero c) 0 (fun i => (fieldAt? E.tt T i).map fun p => (p.1, p.2.size)) with
        | some cells => .ret (.of ⟨.agg cells, [], nilrows (zslices ti.zero)⟩)
        | none => .fail
      | _ => .fail
    | none => .fail
  | .buildSlice T len parts => match elemOf? E.tt T with
    | some (e, ei) => match Nat.ble (len * ei.size) 16777216 with
      | true => match lastElem (parts.toList.map fun p => (p.1, ρ p.2)) (repl (zplain ei.zero) len) 0 (fun i => some (i * ei.size, ei.size)) with
        | some cells => match (E.live 1000001).isSome && (anyOwn cells && Nat.blt 0 len) with
          | true => .ret (.of ⟨.own c 0, [], [.lrow 0 ei.size len e cells]⟩)
          | false => purifyL cells fun cells' u => .ret (.of ⟨.own c 0, u, [.row 0 ei.size len e (rowC ei.size len cells')]⟩)
        | none => .fail
      | false => .fail
    | none => .fail
  | .load T a => match E.tt T with
    | some ti => aload ti (ρ a)
    | none => .fail
  | .store T a x => match E.tt T with
    | some ti =>
      match isNilC x with
      | true => astore ti (ρ a) [.own c 0] [.nilrow 0]
      | false => astore ti (ρ a) (ρ x).cells []
    | none => .fail
  | .nilCheck x => match ρ x with
    | .ptr id off => .ret (.val (.ptr id off))
    | .rptr id ver sz k off => .ret (.val (.rptr id ver sz k off))
    | .pptr cs off => .ret (.val (.pptr cs off))
    | .lptr id ver off => .ret (.val (.lptr id ver off))
    | .fn f cs => .ret (.val (.fn f cs))
    | _ => .fail
  | .binOp op T x y _ => match isNilC y with
    | true => anil E.tt op T (ρ x)
    | false => abin E.tt op T (ρ x) (ρ y)
  | .makeSlice T l m => match elemOf? E.tt T, ρ l, ρ m with
    | some (e, ei), .int _ n, .int _ q => match E.live 1000000 with
      | none => .ret ⟨decide (0 ≤ n ∧ n ≤ q ∧ q * ei.bytes ≤ 140737488355328 ∧ q ≤ 1099511627776), Unit, some (), fun _ => ⟨.own c 0, [], [.row 0 ei.size n.toNat e fun _ => zplain ei.zero]⟩⟩
      | some _ => .ret (.when (decide (0 ≤ n ∧ n ≤ q ∧ q * ei.bytes ≤ 140737488355328 ∧ q ≤ 1099511627776)) (.slc ei.size n.toNat fun _ => zplain ei.zero))
    | _, _, _ => .fail
  | .unOp op _ x => aun op (ρ x)
  | .convert s d x => match E.tt s, E.tt d, ρ x with
    | some si, some di, .int _ n => match si.kind, di.kind with
      | .int _, .int k => .ret (.val (.int k (k.wrap n)))
      | _, _ => .fail
    | _, _, _ => .fail
  | .makeFunc (.func f) first cap => match first.toList with
    | [] => .ret (.val (.fn f (cap.toList.map ρ)))
    | _ => .fail
  | .slice T x lo hi none => match elemOf? E.tt T with
    | some (_, ei) => purify (ρ x) fun x' u => match szOk ei.size x' with
      | true => aslice x' (lo.map ρ) (hi.map ρ) u
      | false => .fail
    | none => .fail
  | .fieldAddr S x i => match fieldAt? E.tt S i with
    | some (off, _) => afield (ρ x) off
    | none => .fail
  | .field S x i => match fieldAt? E.tt S i, ρ x with
    | some (off, fi), .agg cs => match apart fi cs off with
      | some v => .ret (.val v)
      | none => .fail
    | _, _ => .fail
  | .indexAddr T x i => match elemOf? E.tt T, ρ x, ρ i with
    | some (_, ei), .slc sz n f, .int _ j => match Nat.beq sz ei.size with
      | true => .ret (.when (decide (0 ≤ j ∧ j < n)) (.pptr (f j.toNat) 0))
      | false => .fail
    | some (_, ei), .own id ver, .int _ j => .look id fun
      | .row ver' sz n _ _ => match Nat.beq ver ver' && Nat.beq sz ei.size with
        | true => .ret (.when (decide (0 ≤ j ∧ j < n)) (.rptr id ver sz j.toNat 0))
        | false => .fail
      | .lrow ver' sz n _ _ => match Nat.beq ver ver' && Nat.beq sz ei.size with
        | true => idxL id ver sz j n 0
        | false => .fail
      | _ => .fail
    | _, _, _ => .fail
  | .index T x i => match E.tt T, ρ x, ρ i with
    | some ti, .str s, .int _ n => match ti.kind with
      | .str => .ret (.when (decide (0 ≤ n ∧ n < (s.size : Int))) (.int .u8 (bytAt s n)))
      | _ => .fail
    | _, _, _ => .fail
  | .extract t i => match ρ t with
    | .tup vs => match vs[i]? with
      | some v => .ret (.val v)
      | none => .fail
    | _ => .fail
  | .call cl =>
    match cl.callee with
    | .builtin b => abuiltin E b cl.argTypes cl.args (cl.args.toList.map ρ) c
    | .value f => match ρ f with
      | .fn g caps => acall E g (forgetA (E.live (3000000 + g)) 0 (cl.args.toList.map ρ ++ caps)) c
      | _ => .fail
    | _ => .fail
  | _ => .fail
end Go.Proofs.Ythkdmemkjojmoaa.Ab
