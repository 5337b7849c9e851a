/- The plain evaluator: the program's types, and callees that are run themselves. -/
import Derived.Test.YthkdmemkjojmoaaZB3
namespace Go.Proofs.Ythkdmemkjojmoaa.Ab
open Go

def zcOf : Value → ZC
  | .int k (.ofNat 0) => .int k
  | .bool false => .bool
  | .pointer none => .nilp
  | .slice none 0 0 => .nilsl
  | .string ⟨⟨[]⟩⟩ => .str
  | v => .raw v
def fieldsEq (g : TypeId → Option (List Bool)) : List Field → Nat → Option (List Bool)
  | [], _ => some []
  | f :: fs, i => match f.name != "_" && Nat.beq f.offset i, g f.type with
    | true, some t => match fieldsEq g fs (i + t.length) with
      | some ts => some (t ++ ts)
      | none => none
    | _, _ => none
/-- A type whose values are compared cell by cell, to some depth. -/
def eqcT (P : Program) : Nat → TypeId → Option (List Bool)
  | 0, _ => none
  | n + 1, t => match P.underlying t with
    | some (.int _) => some [true]
    | some .bool => some [false]
    | some (.struct fs) => match P.stoodInHeld t, P.info? t with
      | false, some i => match fieldsEq (eqcT P n) fs.toList 0 with
        | some ts => match Nat.beq ts.length i.size with
          | true => some ts
          | false => none
        | none => none
      | _, _ => none
    | _ => none
def eqcOf (P : Program) (t : TypeId) : TypeDesc → Option (List Bool)
  | .int _ => some [true]
  | .bool => some [false]
  | .struct fs => match P.stoodInHeld t with
    | false => fieldsEq (eqcT P 3) fs.toList 0
    | true => none
  | _ => none
def kindOf : TypeDesc → TK
  | .int k => .int k
  | .slice e => .slice e
  | .struct fs => .struct (fs.toList.map fun f => (f.offset, f.type))
  | .pointer _ => .ptr
  | .string => .str
  | _ => .other
def aggOf : TypeDesc → Bool
  | .struct _ => true
  | .array _ _ => true
  | _ => false
/-- What the program's table of types says. -/
def ttOf (P : Program) (t : TypeId) : Option TI :=
  match P.info? t, P.underlying t with
  | some i, some d =>
    match i.zero with
    | some z => match z.cells.toList.all Value.oneCell' && Nat.beq z.cells.size i.size with
      | true => some ⟨i.size, aggOf d, i.bytes, kindOf d, z.cells.toList.map zcOf, eqcOf P t d⟩
      | false => none
    | none => none
  | _, _ => none

def flatRow (f : Nat → List AV) : Nat → Bool
  | 0 => true
  | n + 1 => AV.flatL (f n) && flatRow f n
def Blk.flatB : Blk → Bool
  | .var cells => AV.flatL cells
  | .row _ _ n _ f => flatRow f n
  | .lrow _ _ _ _ cells => AV.flatL cells
  | _ => true
theorem flatRow_all {f : Nat → List AV} {n : Nat} (h : flatRow f n = true) : ∀ k, k < n → AV.flatL (f k) = true := by
  induction n with
  | zero => intro k hk; omega
  | succ n ih =>
    intro k hk
    simp only [flatRow, Bool.and_eq_true] at h
    by_cases e : k = n
    · subst e; exact h.1
    · exact ih h.2 k (by omega)
theorem Blk.flatB_flat {b : Blk} (h : b.flatB = true) : b.flat := by
  cases b with
  | var cells => exact h
  | row v sz n e f => exact flatRow_all h
  | lrow v sz n e cells => exact h
  | _ => trivial

def runAns (E : Env) (fn : Func) (vs : List AV) (ins : List Blk) : Ans where
  α := AV × List Blk
  get := arun E fn vs ins
  av := fun x => x.1
  outs := fun x => x.2
  fl := fun x => AV.flat x.1 && x.2.all Blk.flatB
  hfl := fun x h => by
    simp only [Bool.and_eq_true, List.all_eq_true] at h
    exact ⟨h.1, fun b hb => Blk.flatB_flat (h.2 b hb)⟩
/-- Callees are run themselves, as deep as the number says. -/
def envN (P : Program) (fuel : Nat) : Nat → Env
  | 0 => ⟨ttOf P, fun _ _ _ => none, fun _ => none, fun _ => none, fuel, 0, fun _ => [], fun _ => none, none⟩
  | n + 1 => ⟨ttOf P, fun f vs ins => match P.funcs[f]? with
      | some fn => some (runAns (envN P fuel n) fn vs ins)
      | none => none, fun _ => none, fun _ => none, fuel, 0, fun _ => [], fun _ => none, none⟩
end Go.Proofs.Ythkdmemkjojmoaa.Ab
