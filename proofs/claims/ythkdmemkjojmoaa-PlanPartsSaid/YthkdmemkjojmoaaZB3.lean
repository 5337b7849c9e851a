/- The plain evaluator: regions, code, functions. -/
import Derived.Test.YthkdmemkjojmoaaZB2
namespace Go.Proofs.Ythkdmemkjojmoaa.Ab
open Go

/-- What an operation of a region did: what it wrote and looked at. -/
structure Rec where
  dst : Option Nat
  val : AV
  rd : List Nat
  wr : List (Nat × Blk)

def flagTmp (ops : Array Oper) (j : Nat) : Option Nat := (ops[j]?).bind (·.dst)
def tmpsOf (ops : Array Oper) (o : Oper) : List Nat :=
  (o.op.operands.toList.filterMap fun | .tmp t => some t | _ => none) ++ (match o.guard with | some (j, _) => (flagTmp ops j).toList | none => [])
def putTmp (tm : List (Nat × AV)) (d : Option Nat) (v : AV) : List (Nat × AV) :=
  match d with
  | some t => (t, v) :: tm
  | none => tm
def dstOk (nt : Nat) : Option Nat → Bool
  | some t => Nat.blt t nt
  | none => true
/-- One operation that is carried out. -/
def arun1 {R : Type} (E : Env) (o : Oper) (ci : Nat) (st : St) (rs : List Rec) (k : St → List Rec → Option R) : Option R :=
  match dstOk E.nt o.dst with
  | false => none
  | true =>
    (aop E o (aev st.tm) ci).runK (hget st.hp) fun rd g =>
      match g.req with
      | false => none
      | true =>
        match g.get with
        | none => none
        | some x =>
          match Nat.ble (g.eff x).news.length 64 && allB (fun p => (hget st.hp p.1).isSome) (g.eff x).upd with
          | false => none
          | true => k ⟨putTmp st.tm o.dst (g.eff x).val, hsets st.hp ((g.eff x).upd ++ number ci (g.eff x).news), st.c⟩
              (rs ++ [⟨o.dst, (g.eff x).val, rd, (g.eff x).upd ++ number ci (g.eff x).news⟩])
/-- One operation that is passed over. -/
def askip1 {R : Type} (E : Env) (o : Oper) (st : St) (rs : List Rec) (k : St → List Rec → Option R) : Option R :=
  match dstOk E.nt o.dst with
  | false => none
  | true => k ⟨putTmp st.tm o.dst .void, st.hp, st.c⟩ (rs ++ [⟨o.dst, .void, [], []⟩])
def astep1 {R : Type} (E : Env) (ops : Array Oper) (o : Oper) (ci : Nat) (st : St) (rs : List Rec) (k : St → List Rec → Option R) : Option R :=
  match o.guard with
  | none => arun1 E o ci st rs k
  | some (j, want) =>
    match flagTmp ops j with
    | none => none
    | some t =>
      match aget st.tm t with
      | .bool b =>
        match b with
        | true => match want with
          | true => arun1 E o ci ⟨(t, .bool true) :: st.tm, st.hp, st.c⟩ rs k
          | false => askip1 E o ⟨(t, .bool true) :: st.tm, st.hp, st.c⟩ rs k
        | false => match want with
          | true => askip1 E o ⟨(t, .bool false) :: st.tm, st.hp, st.c⟩ rs k
          | false => arun1 E o ci ⟨(t, .bool false) :: st.tm, st.hp, st.c⟩ rs k
      | .void => askip1 E o st rs k
      | _ => none
def aops {R : Type} (E : Env) (ops : Array Oper) : List Oper → Nat → St → List Rec → (St → List Rec → Option R) → Option R
  | [], _, st, rs, k => k st rs
  | o :: rest, ci, st, rs, k => astep1 E ops o ci st rs fun st' rs' => aops E ops rest (ci + 64) st' rs' k

/-- Which operations come surely ahead of each one, as bits. -/
def maskOf (ms : List Nat) (o : Oper) : Nat := o.after.toList.foldl (fun s e => match Region.binds .any e with | true => s ||| 2 ^ e.on ||| ms.getD e.on 0 | false => s) 0
def masks : List Oper → List Nat → List Nat
  | [], ms => ms
  | o :: rest, ms => masks rest (ms ++ [maskOf ms o])
def forward : List Oper → Nat → Bool
  | [], _ => true
  | o :: rest, i => allB (fun e => match Region.binds .any e with | true => Nat.blt e.on i | false => true) o.after.toList && forward rest (i + 1)
def hit (xs ys : List Nat) : Bool := xs.any fun x => ys.any fun y => Nat.beq x y
/-- Two operations that may come in either order. -/
def free (ti : List Nat) (ri : Rec) (tj : List Nat) (rj : Rec) : Bool :=
  let wi := ri.wr.map (·.1)
  let wj := rj.wr.map (·.1)
  !(hit wi (rj.rd ++ wj) || hit wj ri.rd || hit ri.dst.toList (tj ++ rj.dst.toList) || hit rj.dst.toList ti)
def freeAll (j mj : Nat) (tj : List Nat) (rj : Rec) : List (List Nat × Rec) → Nat → Bool
  | [], _ => true
  | (ti, ri) :: rest, i => (Nat.testBit mj i || free ti ri tj rj) && freeAll j mj tj rj rest (i + 1)
def indep : List (List Nat × Rec) → List (List Nat × Rec) → List Nat → Bool
  | _, [], _ => true
  | done, (tj, rj) :: rest, m :: ms => freeAll done.length m tj rj done 0 && indep (done ++ [(tj, rj)]) rest ms
  | _, _, [] => false
def okAny (ops : Array Oper) (rs : List Rec) : Bool :=
  forward ops.toList 0 && indep [] ((ops.toList.map (tmpsOf ops)).zip rs) (masks ops.toList [])

def aregion {R : Type} (E : Env) (ops : Array Oper) (draw : Bool) (st : St) (k : St → Option R) : Option R :=
  aops E ops ops.toList st.c st [] fun st' rs =>
    match draw with
    | false => k ⟨st'.tm, st'.hp, st.c + 64 * ops.size⟩
    | true => match okAny ops rs with
      | true => k ⟨st'.tm, st'.hp, st.c + 64 * ops.size⟩
      | false => none

/-- At a loop's head: only what lives is kept, in its first version. -/
def curOf (h : List (Nat × Blk)) (q : Nat → Bool) (tv : Nat → Nat → Nat) : Tr :=
  ⟨fun id => match q id with | true => some id | false => none,
   fun id ver => match q id with
    | true => match hget h id with
      | some b => match Nat.beq ver b.ver && !b.isVar with
        | true => some (id, tv id ver)
        | false => none
      | none => none
    | false => none⟩
def trHp (t : Tr) (q : Nat → Bool) (tv : Nat → Nat → Nat) : List (Nat × Blk) → List (Nat × Blk)
  | [] => []
  | (id, b) :: r => match q id with
    | true => (id, Blk.tr t (tv id b.ver) b) :: trHp t q tv r
    | false => trHp t q tv r
def trTm (t : Tr) : List (Nat × AV) → List (Nat × AV)
  | [] => []
  | (i, v) :: r => (i, AV.tr t v) :: trTm t r
def keepTm (tm : List (Nat × AV)) : List Nat → List (Nat × AV)
  | [] => []
  | t :: ts => (t, aget tm t) :: keepTm tm ts
def nrm (q : Nat → Bool) (tv : Nat → Nat → Nat) (live : Option (List Nat)) (c : Nat) (st : St) : St :=
  ⟨match live with
    | some l => trTm (curOf st.hp q tv) (keepTm st.tm l)
    | none => trTm (curOf st.hp q tv) st.tm,
   trHp (curOf st.hp q tv) q tv st.hp, c⟩
def memN : List Nat → Nat → Bool
  | [], _ => false
  | x :: xs, y => match Nat.beq x y with
    | true => true
    | false => memN xs y
/-- Which blocks stay at the head of the loop r: those below c, and of them, if the environment says so, only what came in and the listed ones. -/
def keepQ (E : Env) (r c : Nat) (id : Nat) : Bool := match Nat.blt id c with
  | false => false
  | true => match E.mm with
    | none => true
    | some m => match E.gc r with
      | none => true
      | some l => match Nat.blt id m with
        | true => true
        | false => memN l id

def firstReg : Code → Nat
  | .region id _ _ => id
  | .seq a _ => firstReg a
  | .cond _ a _ => firstReg a
  | .block _ a => firstReg a
  | .loop a => firstReg a
  | .scope a => firstReg a
  | _ => 0
def aloop {R : Type} (body : St → (AX → St → Option R) → Option R) (hd ex : St → St) : Nat → St → (AX → St → Option R) → Option R
  | 0, _, _ => none
  | n + 1, s, k => body s fun
    | .normal, s' => aloop body hd ex n (hd s') k
    | .exit id, s' => k (.exit id) (ex s')
    | .ret, s' => k .ret (ex s')
/-- The state at a loop's head, and behind it. -/
def keepAll : Option (List Nat × List Nat) → Option (List Nat)
  | some ([], _ :: l) => some l
  | _ => none
/-- How many rounds of a loop are run: its own number, if all blocks stay. -/
def fuelOf (E : Env) (c : Code) : Nat := match E.live (firstReg c) with
  | some ([], n :: _) => n
  | _ => E.fuel
/-- With an empty first list all blocks stay, and the variables of the second (behind its own number of rounds). -/
def nrmK (q : Nat → Bool) (tv : Nat → Nat → Nat) (ka : Option (List Nat)) (live : Option (List Nat)) (n : Nat) (st : St) : St :=
  match ka with
  | some l => ⟨keepTm st.tm l, st.hp, st.c⟩
  | none => nrm q tv live n st
/-- The version of a block at a loop's head: of what came in, whether it has been another one (or will be, by E.gc (4000000 + r)); else the first. -/
def tvOf (E : Env) (r id ver : Nat) : Nat := match E.mm with
  | none => 0
  | some m => match Nat.blt id m with
    | false => 0
    | true => match ver with
      | 0 => match E.gc (4000000 + r) with
        | some l => match memN l id with
          | true => 1
          | false => 0
        | none => 0
      | _ + 1 => 1
def headOf (E : Env) (c : Code) (n : Nat) : St → St := nrmK (keepQ E (firstReg c) n) (tvOf E (firstReg c)) (keepAll (E.live (firstReg c))) ((E.live (firstReg c)).map (·.1)) n
def exitOf (E : Env) (c : Code) (n : Nat) : St → St := nrmK (keepQ E (firstReg c) n) (tvOf E (firstReg c)) (keepAll (E.live (firstReg c))) ((E.live (firstReg c)).map (·.2)) n
/-- Static numbers: a state's next number does not depend on the way. -/
def szC : Code → Nat
  | .region _ ops _ => 64 * ops.size
  | .seq a b => szC a + szC b
  | .cond _ a b => szC a + szC b
  | .block _ a => szC a
  | _ => 0
def lift (c : Nat) (st : St) : St := ⟨st.tm, st.hp, match Nat.ble st.c c with | true => c | false => st.c⟩
mutual
/-- A slice of the call's own, as one that is only read. -/
def AV.fz (i v sz n : Nat) (f : Nat → List AV) : AV → AV
  | .own id ver => match Nat.beq id i && Nat.beq ver v with
    | true => .slc sz n f
    | false => .own id ver
  | .agg cs => .agg (AV.fzL i v sz n f cs)
  | .tup cs => .tup (AV.fzL i v sz n f cs)
  | .fn g cs => .fn g (AV.fzL i v sz n f cs)
  | .undef => .undef
  | .void => .void
  | .bool b => .bool b
  | .int k n => .int k n
  | .str s => .str s
  | .nilp => .nilp
  | .any1 => .any1
  | .raw v => .raw v
  | .slc sz n f => .slc sz n f
  | .ptr id off => .ptr id off
  | .rptr id ver sz k off => .rptr id ver sz k off
  | .pptr cs off => .pptr cs off
  | .lptr id ver off => .lptr id ver off
def AV.fzL (i v sz n : Nat) (f : Nat → List AV) : List AV → List AV
  | [] => []
  | x :: xs => AV.fz i v sz n f x :: AV.fzL i v sz n f xs
end
def Blk.fz (i v sz n : Nat) (f : Nat → List AV) : Blk → Blk
  | .var cells => .var (AV.fzL i v sz n f cells)
  | .lrow ver s m e cells => .lrow ver s m e (AV.fzL i v sz n f cells)
  | b => b
def fzTm (i v sz n : Nat) (f : Nat → List AV) : List (Nat × AV) → List (Nat × AV)
  | [] => []
  | (t, x) :: r => (t, AV.fz i v sz n f x) :: fzTm i v sz n f r
def fzHp (i v sz n : Nat) (f : Nat → List AV) : List (Nat × Blk) → List (Nat × Blk)
  | [] => []
  | (id, b) :: r => (id, Blk.fz i v sz n f b) :: fzHp i v sz n f r
def doPre1 (p : PreC) (st : St) : St := match p with
  | .freeze id => match hget st.hp id with
    | some (.row ver sz n _ f) => ⟨fzTm id ver sz n f st.tm, hset (fzHp id ver sz n f st.hp) id (.dead (ver + 1)), st.c⟩
    | some (.nilrow ver) => ⟨fzTm id ver 1 0 (fun _ => []) st.tm, hset (fzHp id ver 1 0 (fun _ => []) st.hp) id (.dead (ver + 1)), st.c⟩
    | _ => st
  | .asrow id e sz f => match hget st.hp id with
    | some (.nilrow ver) => match Nat.blt 0 sz with
      | true => ⟨st.tm, hset st.hp id (.row ver sz 0 e f), st.c⟩
      | false => st
    | _ => st
def doPre : List PreC → St → St
  | [], st => st
  | p :: ps, st => doPre ps (doPre1 p st)
/-- What a condition came to is known in its branch. -/
def known : Operand → Bool → St → St
  | .tmp t, b, st => ⟨(t, .bool b) :: st.tm, st.hp, st.c⟩
  | _, _, st => st
def aexec {R : Type} (E : Env) : Code → St → (AX → St → Option R) → Option R
  | .skip, st, k => k .normal st
  | .region id ops draw, st, k => aregion E ops draw (doPre (E.pre id) st) fun st' => k .normal st'
  | .seq a b, st, k => aexec E a st fun
    | .normal, st' => aexec E b st' k
    | .exit id, st' => k (.exit id) st'
    | .ret, st' => k .ret st'
  | .cond c x y, st, k => match aev st.tm c with
    | .bool b => match b with
      | true => aexec E x (known c true st) fun ax st' => k ax (lift (st.c + szC x + szC y) st')
      | false => aexec E y (known c false st) fun ax st' => k ax (lift (st.c + szC x + szC y) st')
    | _ => none
  | .block id c, st, k => aexec E c st fun
    | .normal, st' => k .normal (lift (st.c + szC c) st')
    | .exit id', st' => match Nat.beq id' id with
      | true => k .normal (lift (st.c + szC c) st')
      | false => k (.exit id') st'
    | .ret, st' => k .ret st'
  | .loop c, st, k => match E.loops (firstReg c) with
    | some f => match f (headOf E c st.c (doPre (E.pre (1000000 + firstReg c)) st)) with
      | some r => match r.get with
        | some (.inl x) => k r.axl (r.stl x)
        | some (.inr y) => match r.one with
          | true => none
          | false => k r.axr (r.str y)
        | none => none
      | none => none
    | none => aloop (fun s j => aexec E c s j) (headOf E c st.c) (exitOf E c st.c) (fuelOf E c) (headOf E c st.c (doPre (E.pre (1000000 + firstReg c)) st)) k
  | .exit id, st, k => k (.exit id) st
  | .ret, st, k => k .ret st
  | _, _, _ => none

/-- What a function gives back: the values, and what lies behind the numbers that they name. -/
def getRes (E : Env) (st : St) : List ResultVar → Option (List AV)
  | [] => some []
  | .tmp t :: r => match getRes E st r with
    | some vs => some (aget st.tm t :: vs)
    | none => none
  | .cell a T :: r => match aget st.tm a, E.tt T with
    | .ptr id off, some ti => match hget st.hp id with
      | some (.var cells) => match apart ti cells off with
        | some v => match getRes E st r with
          | some vs => some (v :: vs)
          | none => none
        | none => none
      | _ => none
    | _, _ => none
def pack : List AV → AV
  | [v] => v
  | vs => .tup vs
/-- A block's version behind a function: 1 of what came in and is no more what it was. -/
def expV (kv : Bool) (m j v : Nat) : Nat := match Nat.blt j m with
  | false => 0
  | true => match kv with
    | false => 1
    | true => match v with
      | 0 => 0
      | _ + 1 => 1
def kvOf (E : Env) (j : Nat) : Bool := match E.mm with
  | none => false
  | some _ => match E.gc 5000000 with
    | none => true
    | some l => match memN l j with
      | true => false
      | false => true
def expTr (kv : Nat → Bool) (m : Nat) (ids : List Nat) (h : List (Nat × Blk)) : Tr :=
  ⟨fun id => idx ids id,
   fun id ver => match idx ids id with
    | some j => match hget h id with
      | some b => match Nat.beq ver b.ver && !b.isVar with
        | true => some (j, expV (kv j) m j ver)
        | false => none
      | none => none
    | none => none⟩
def expBlk (kv : Nat → Bool) (m : Nat) (t : Tr) (h : List (Nat × Blk)) : Nat → List Nat → Option (List Blk)
  | _, [] => some []
  | j, id :: ids => match hget h id with
    | some b => match expBlk kv m t h (j + 1) ids with
      | some bs => some (Blk.tr t (expV (kv j) m j b.ver) b :: bs)
      | none => none
    | none => none
def moreIds (h : List (Nat × Blk)) (ids : List Nat) : List Nat :=
  (ids.flatMap fun id => match hget h id with | some b => Blk.owns b ++ Blk.ptrs b | none => []).foldl addNew ids
def afinish (E : Env) (rv : List ResultVar) (m : Nat) (st : St) : Option (AV × List Blk) :=
  match getRes E st rv with
  | none => none
  | some vs =>
    let ids0 := (AV.ptrsL vs ++ AV.ownsL vs).foldl addNew (List.range m)
    let ids := moreIds st.hp (moreIds st.hp ids0)
    match expBlk (kvOf E) m (expTr (kvOf E) m ids st.hp) st.hp 0 ids with
    | none => none
    | some bs => some (AV.tr (expTr (kvOf E) m ids st.hp) (pack vs), bs)
def args : Nat → List AV → List (Nat × AV)
  | _, [] => []
  | i, v :: vs => (i, v) :: args (i + 1) vs
/-- A function's run. -/
def arun (E : Env) (fn : Func) (vs : List AV) (ins : List Blk) : Option (AV × List Blk) :=
  match fn.body with
  | none => none
  | some c => match Nat.ble vs.length fn.ntmps with
    | false => none
    | true => match (match E.mm with | none => true | some m => Nat.beq ins.length m) with
     | false => none
     | true => aexec { E with nt := fn.ntmps } c ⟨args 0 vs, number 0 ins, ins.length⟩ fun
      | .normal, st => afinish E fn.results.toList ins.length (doPre (E.pre 2000000) st)
      | .ret, st => afinish E fn.results.toList ins.length (doPre (E.pre 2000000) st)
      | _, _ => none
end Go.Proofs.Ythkdmemkjojmoaa.Ab
