/- A plain evaluator of code over values (no worlds, no orders): its words. -/
import Derived.Test.YthkdmemkjojmoaaRows
import Derived.WalkKit
import Derived.Laws.AppendOwn
namespace Go.Proofs.Ythkdmemkjojmoaa.Ab
open Go

/-- A value, as a reader of the program thinks of it: slices that are only read are their elements; what the call owns has a number. -/
inductive AV where
  | undef
  | void
  | bool (b : Bool)
  | int (k : IntKind) (n : Int)
  | str (s : ByteArray)
  | nilp
  | raw (v : Value)
  | agg (cs : List AV)
  | tup (vs : List AV)
  | slc (sz n : Nat) (f : Nat → List AV)
  | own (id ver : Nat)
  | ptr (id off : Nat)
  | rptr (id ver sz k off : Nat)
  | pptr (cs : List AV) (off : Nat)
  | lptr (id ver off : Nat)
  | fn (f : FuncId) (caps : List AV)
  | any1
instance : Inhabited AV := ⟨.undef⟩

/-- What lies behind a number: a variable's cells; a slice of the call's own; one that is still nil; one whose elements are listed, which may speak of numbers; nothing any more. -/
inductive Blk where
  | var (cells : List AV)
  | row (ver sz n : Nat) (e : TypeId) (f : Nat → List AV)
  | nilrow (ver : Nat)
  | lrow (ver sz n : Nat) (e : TypeId) (cells : List AV)
  | dead (ver : Nat)

inductive ZC where
  | int (k : IntKind) | bool | str | nilp | nilsl | raw (v : Value)
inductive TK where
  | other | int (k : IntKind) | slice (e : TypeId) | struct (fs : List (Nat × TypeId)) | ptr | str
structure TI where
  size : Nat
  agg : Bool
  bytes : Nat
  kind : TK
  zero : List ZC
  eqc : Option (List Bool)

/-- Reads of blocks, that may fail. -/
inductive LM (α : Type 1) : Type 1 where
  | fail
  | ret (a : α)
  | look (id : Nat) (k : Blk → LM α)
  | case (b : Bool) (x y : LM α)
def LM.run {α : Type 1} (L : Nat → Option Blk) : LM α → Option (List Nat × α)
  | .fail => none
  | .ret a => some ([], a)
  | .look id k =>
    match L id with
    | none => none
    | some b =>
      match (k b).run L with
      | none => none
      | some (r, a) => some (id :: r, a)
  | .case b x y =>
    match b with
    | true => x.run L
    | false => y.run L
/-- The same, with what comes then. -/
def LM.runK {α : Type 1} {R : Type} (L : Nat → Option Blk) : LM α → (List Nat → α → Option R) → Option R
  | .fail, _ => none
  | .ret a, k => k [] a
  | .look id f, k =>
    match L id with
    | none => none
    | some b => (f b).runK L fun r a => k (id :: r) a
  | .case b x y, k =>
    match b with
    | true => x.runK L k
    | false => y.runK L k
theorem LM.runK_eq {α : Type 1} {R : Type} (L : Nat → Option Blk) (m : LM α) : ∀ k : List Nat → α → Option R, m.runK L k = match m.run L with | none => none | some (r, a) => k r a := by
  induction m with
  | fail => intro k; rfl
  | ret a => intro k; rfl
  | look id f ih =>
    intro k
    unfold LM.runK LM.run
    cases hb : L id with
    | none => rfl
    | some b =>
      simp only [ih b]
      cases (f b).run L with
      | none => rfl
      | some q => rfl
  | case b x y ihx ihy =>
    intro k
    unfold LM.runK LM.run
    cases b with
    | true => exact ihx k
    | false => exact ihy k

structure Eff where
  val : AV
  upd : List (Nat × Blk)
  news : List Blk
structure EffG where
  req : Bool
  β : Type
  get : Option β
  eff : β → Eff
def EffG.of (e : Eff) : EffG := ⟨true, Unit, some (), fun _ => e⟩
def EffG.val (v : AV) : EffG := ⟨true, Unit, some (), fun _ => ⟨v, [], []⟩⟩
def EffG.when (b : Bool) (v : AV) : EffG := ⟨b, Unit, some (), fun _ => ⟨v, [], []⟩⟩

/-- What is known of a callee: its answer (none: not known), and the blocks behind it. -/
structure Res where
  α : Type
  get : Option α
  av : α → AV
  outs : α → List Blk

def constAV : Value → AV
  | .bool b => .bool b
  | .int k n => .int k n
  | .string s => .str s
  | .pointer none => .nilp
  | .slice none 0 0 => .slc 0 0 fun _ => []
  | v => .raw v
def isNilC : Operand → Bool
  | .const (.slice none 0 0) => true
  | _ => false

def AV.cells : AV → List AV
  | .agg cs => cs
  | v => [v]
/-- A value of one cell. -/
def AV.one : AV → Bool
  | .bool _ | .int _ _ | .str _ | .nilp | .slc _ _ _ | .own _ _ | .ptr _ _ | .rptr _ _ _ _ _ | .pptr _ _ | .fn _ _ | .any1 => true
  | _ => false
/-- A cell that does not speak of a number. -/
def AV.plain : AV → Bool
  | .bool _ | .int _ _ | .str _ | .nilp | .slc _ _ _ => true
  | _ => false
def allB {α : Type} (p : α → Bool) : List α → Bool
  | [] => true
  | x :: xs => match p x with | true => allB p xs | false => false

/-- A cell as a plain one: a slice of the call's own is given up. -/
def purify : AV → (AV → List (Nat × Blk) → LM EffG) → LM EffG
  | .own id ver, k => .look id fun
    | .row ver' sz n _ f => match Nat.beq ver ver' with
      | true => k (.slc sz n f) [(id, .dead (ver + 1))]
      | false => .fail
    | .nilrow ver' => match Nat.beq ver ver' with
      | true => k (.slc 0 0 fun _ => []) [(id, .dead (ver + 1))]
      | false => .fail
    | _ => .fail
  | v, k => match v.plain with
    | true => k v []
    | false => .fail
def purifyL : List AV → (List AV → List (Nat × Blk) → LM EffG) → LM EffG
  | [], k => k [] []
  | v :: vs, k => purify v fun v' u => purifyL vs fun vs' us => k (v' :: vs') (u ++ us)

def setAt (xs : List AV) (off : Nat) (ys : List AV) : List AV := xs.take off ++ ys ++ xs.drop (off + ys.length)

def nilrows : Nat → List Blk
  | 0 => []
  | n + 1 => .nilrow 0 :: nilrows n
/-- The zero cells of a type; its slices get the numbers from c on. -/
def zcells : List ZC → Nat → List AV
  | [], _ => []
  | .int k :: zs, c => .int k 0 :: zcells zs c
  | .bool :: zs, c => .bool false :: zcells zs c
  | .str :: zs, c => .str ⟨#[]⟩ :: zcells zs c
  | .nilp :: zs, c => .nilp :: zcells zs c
  | .raw v :: zs, c => .raw v :: zcells zs c
  | .nilsl :: zs, c => .own c 0 :: zcells zs (c + 1)
def zslices : List ZC → Nat
  | [] => 0
  | .nilsl :: zs => zslices zs + 1
  | _ :: zs => zslices zs
/-- The zero cells of a type where they are only read. -/
def zplain : List ZC → List AV
  | [] => []
  | .int k :: zs => .int k 0 :: zplain zs
  | .bool :: zs => .bool false :: zplain zs
  | .str :: zs => .str ⟨#[]⟩ :: zplain zs
  | .nilp :: zs => .nilp :: zplain zs
  | .raw v :: zs => .raw v :: zplain zs
  | .nilsl :: zs => .slc 0 0 (fun _ => []) :: zplain zs

def apick0 (t : Bool) (x y : AV) : AV :=
  match x, y with
  | .bool p, .bool q => .bool (cond t p q)
  | .int k p, .int k' q => if k = k' then .int k (cond t p q) else cond t x y
  | _, _ => cond t x y
def zipSel0 (t : Bool) : List AV → List AV → List AV
  | x :: xs, y :: ys => apick0 t x y :: zipSel0 t xs ys
  | _, _ => []
/-- One of two rows of cells, read cell by cell. -/
def selRow0 (t : Bool) (xs ys : List AV) : List AV := match Nat.beq xs.length ys.length with
  | true => zipSel0 t xs ys
  | false => cond t xs ys
def apick (t : Bool) (x y : AV) : AV :=
  match x, y with
  | .bool p, .bool q => .bool (cond t p q)
  | .int k p, .int k' q => if k = k' then .int k (cond t p q) else cond t x y
  | .slc sz n f, .slc sz' n' f' => match Nat.beq sz sz' with
    | true => .slc sz (cond t n n') fun k => selRow0 t (f k) (f' k)
    | false => cond t x y
  | _, _ => cond t x y
def zipSel (t : Bool) : List AV → List AV → List AV
  | x :: xs, y :: ys => apick t x y :: zipSel t xs ys
  | _, _ => []
def selRow (t : Bool) (xs ys : List AV) : List AV := match Nat.beq xs.length ys.length with
  | true => zipSel t xs ys
  | false => cond t xs ys
theorem apick0_eq (t : Bool) (x y : AV) : apick0 t x y = cond t x y := by
  unfold apick0
  split
  · cases t <;> rfl
  · split
    · rename_i h; subst h; cases t <;> rfl
    · rfl
  · rfl
theorem zipSel0_eq (t : Bool) : ∀ (xs ys : List AV), xs.length = ys.length → zipSel0 t xs ys = cond t xs ys := by
  intro xs
  induction xs with
  | nil => intro ys h; cases ys with
    | nil => cases t <;> rfl
    | cons => simp at h
  | cons x xs ih => intro ys h; cases ys with
    | nil => simp at h
    | cons y ys =>
      unfold zipSel0
      rw [apick0_eq, ih ys (by simpa using h)]
      cases t <;> rfl
theorem selRow0_eq (t : Bool) (xs ys : List AV) : selRow0 t xs ys = cond t xs ys := by
  unfold selRow0
  cases h : Nat.beq xs.length ys.length with
  | true => exact zipSel0_eq t xs ys (Nat.eq_of_beq_eq_true h)
  | false => rfl
theorem apick_eq (t : Bool) (x y : AV) : apick t x y = cond t x y := by
  unfold apick
  split
  · cases t <;> rfl
  · split
    · rename_i h; subst h; cases t <;> rfl
    · rfl
  · rename_i sz n f sz' n' f'
    cases h : Nat.beq sz sz' with
    | true =>
      obtain rfl := Nat.eq_of_beq_eq_true h
      have e : (fun k => selRow0 t (f k) (f' k)) = cond t f f' := by
        funext k
        rw [selRow0_eq]
        cases t <;> rfl
      rw [e]
      cases t <;> rfl
    | false => rfl
  · rfl
theorem zipSel_eq (t : Bool) : ∀ (xs ys : List AV), xs.length = ys.length → zipSel t xs ys = cond t xs ys := by
  intro xs
  induction xs with
  | nil => intro ys h; cases ys with
    | nil => cases t <;> rfl
    | cons => simp at h
  | cons x xs ih => intro ys h; cases ys with
    | nil => simp at h
    | cons y ys =>
      unfold zipSel
      rw [apick_eq, ih ys (by simpa using h)]
      cases t <;> rfl
theorem selRow_eq (t : Bool) (xs ys : List AV) : selRow t xs ys = cond t xs ys := by
  unfold selRow
  cases h : Nat.beq xs.length ys.length with
  | true => exact zipSel_eq t xs ys (Nat.eq_of_beq_eq_true h)
  | false => rfl
/-- The elements behind an append. -/
def appRow (n : Nat) (f g : Nat → List AV) : Nat → List AV := fun k => selRow (Nat.blt k n) (f k) (g (k - n))
theorem appRow_eq (n : Nat) (f g : Nat → List AV) : appRow n f g = fun k => if k < n then f k else g (k - n) := by
  funext k
  unfold appRow
  rw [selRow_eq]
  by_cases h : k < n
  · rw [if_pos h, show Nat.blt k n = true from Nat.ble_eq_true_of_le h]; rfl
  · rw [if_neg h, show Nat.blt k n = false from by
      cases hb : Nat.blt k n with
      | false => rfl
      | true => exact absurd (Nat.le_of_ble_eq_true hb) h]; rfl
/-- The elements behind a store. -/
def updRow (k : Nat) (ys : List AV) (f : Nat → List AV) : Nat → List AV := fun j => selRow (Nat.beq j k) ys (f j)
theorem updRow_eq (k : Nat) (ys : List AV) (f : Nat → List AV) : updRow k ys f = fun j => if j = k then ys else f j := by
  funext j
  unfold updRow
  rw [selRow_eq]
  by_cases h : j = k
  · rw [if_pos h, h, Nat.beq_refl]; rfl
  · rw [if_neg h, show Nat.beq j k = false from by
      cases hb : Nat.beq j k with
      | false => rfl
      | true => exact absurd (Nat.eq_of_beq_eq_true hb) h]; rfl

/-- Equality of cells that can be compared: numbers (true), truth values (false). -/
def eqCells : List Bool → List AV → List AV → Option Bool
  | [], [], [] => some true
  | true :: ts, .int k a :: xs, .int k' b :: ys => if k = k' then (eqCells ts xs ys).map ((a == b) && ·) else none
  | false :: ts, .bool a :: xs, .bool b :: ys => (eqCells ts xs ys).map ((a == b) && ·)
  | _, _, _ => none

def abin (tt : TypeId → Option TI) (op : BinOp) (T : TypeId) (x y : AV) : LM EffG :=
  match x, y with
  | .int k a, .int k' b =>
    if k = k' then
      match op with
      | .add => .ret (.val (.int k (k.wrap (a + b))))
      | .sub => .ret (.val (.int k (k.wrap (a - b))))
      | .mul => .ret (.val (.int k (k.wrap (a * b))))
      | .quo => .ret (.when (b != 0) (.int k (k.wrap (a.tdiv b))))
      | .rem => .ret (.when (b != 0) (.int k (a.tmod b)))
      | .eql => .ret (.val (.bool (a == b)))
      | .neq => .ret (.val (.bool (a != b)))
      | .lss => .ret (.val (.bool (decide (a < b))))
      | .leq => .ret (.val (.bool (decide (a ≤ b))))
      | .gtr => .ret (.val (.bool (decide (a > b))))
      | .geq => .ret (.val (.bool (decide (a ≥ b))))
      | .shr => .ret (.when (decide (0 ≤ b ∧ b ≤ 8)) (.int k (a / 2 ^ b.toNat)))
      | _ => .fail
    else .fail
  | .bool a, .bool b =>
    match (tt T).map fun ti => (ti.eqc, ti.agg) with
    | some (some [false], false) =>
      match op with
      | .eql => .ret (.val (.bool (a == b)))
      | .neq => .ret (.val (.bool (!(a == b))))
      | _ => .fail
    | _ => .fail
  | .agg xs, .agg ys =>
    match (tt T).map fun ti => (ti.eqc, ti.agg) with
    | some (some ts, true) =>
      match eqCells ts xs ys with
      | some r =>
        match op with
        | .eql => .ret (.val (.bool r))
        | .neq => .ret (.val (.bool (!r)))
        | _ => .fail
      | none => .fail
    | _ => .fail
  | _, _ => .fail

def aun (op : UnOp) (x : AV) : LM EffG :=
  match op, x with
  | .neg, .int k n => .ret (.val (.int k (k.wrap (0 - n))))
  | .not, .bool b => .ret (.val (.bool !b))
  | _, _ => .fail

/-- The cells from off on, of a type. -/
def apart (ti : TI) (cs : List AV) (off : Nat) : Option AV :=
  match Nat.ble (off + ti.size) cs.length with
  | true => match ti.agg with
    | true => some (.agg ((cs.drop off).take ti.size))
    | false => match Nat.beq ti.size 1 with
      | true => some (cs.getD off .undef)
      | false => none
  | false => none

def lastElem : List (Nat × AV) → List AV → Nat → (Nat → Option (Nat × Nat)) → Option (List AV)
  | [], cells, _, _ => some cells
  | (i, v) :: rest, cells, d, place =>
    match place i with
    | none => none
    | some (off, size) =>
      match Nat.beq v.cells.length size && Nat.ble (off + size) cells.length && allB AV.one v.cells with
      | true => lastElem rest (setAt cells off v.cells) d place
      | false => none

def fieldAt? (tt : TypeId → Option TI) (S : TypeId) (i : Nat) : Option (Nat × TI) :=
  match tt S with
  | some ti => match ti.kind with
    | .struct fs => match fs[i]? with
      | some (o, t) => match tt t with
        | some fi => match Nat.blt 0 fi.size with
          | true => some (o, fi)
          | false => none
        | none => none
      | none => none
    | _ => none
  | none => none
def elemOf? (tt : TypeId → Option TI) (T : TypeId) : Option (TypeId × TI) :=
  match tt T with
  | some ti => match ti.kind with
    | .slice e => match tt e with
      | some ei => match Nat.blt 0 ei.size with
        | true => some (e, ei)
        | false => none
      | none => none
    | _ => none
  | none => none
end Go.Proofs.Ythkdmemkjojmoaa.Ab
