/- Bytes and numbers that come in; a told law, called. -/
import Derived.Test.YtkgcicbipcifdaaZf
import Derived.Test.YtkgcicbipcifdaaZn
namespace Go.Proofs.Ytkgcicbipcifdaa.Ab
open Go Go.ChangeShapes Go.WideShapes Go.ChangeAt Go.RowKit Go.Deep Go.Joins

def BtI := { a : Int // 0 ≤ a ∧ a ≤ 255 }
section
variable {H : Type} {enc : TypeId × Value → H} {w : World} {base : Nat} {spare : Nat → Bool} {held : Bool}
theorem trod_byteB {n : Nat} {cs : List Value} {x : DataW H × List MemPlace} (h : DataW.trod enc Try.prog w base spare held n 5 cs = some x) : ∃ a : BtI, cs = [.int .u8 a.1] := by
  obtain ⟨a, e, _, hw⟩ := DataW.trod_int Try.underlying5 h
  exact ⟨⟨a, Go.bounds_u8 hw⟩, e⟩
theorem open_bytesB {v : Value} {d : DataW H} {p : List MemPlace} {a : Option Addr} {len cap : Nat} (hv : v = .slice a len cap) (h : DataW.Trod enc Try.prog w base spare held 22 v d p) :
    ∃ s : Sq Int, (∀ k, 0 ≤ s.f k ∧ s.f k ≤ 255) ∧ ∀ (M : Nat → Prop) (σ : Nat → Value) (V : Nat → Option Nat), (∀ g, ¬ M g) → VR w M σ V (.slc 1 s.n fun k => [.int .u8 (s.f k)]) v := by
  obtain ⟨fuel, hf⟩ := h
  obtain ⟨v', l, hcs, hs⟩ := open_sl (fun a : BtI => [Value.int .u8 a.1]) (sz := 1) Try.underlying22 Try.cells5 (by omega) (fun _ => rfl) trod_byteB hf
  subst hv
  simp [Value.cells] at hcs
  subst hcs
  refine ⟨⟨l.length, fun k => (l.getD k ⟨0, by omega, by omega⟩).1⟩, fun k => (l.getD k ⟨0, by omega, by omega⟩).2, fun M σ V hM => .pure (pr_of_sl hM (fun a : BtI => [Value.int .u8 a.1]) (fun a : BtI => [AV.int .u8 a.1]) ⟨0, by omega, by omega⟩ (fun _ => rfl) (fun _ => rfl) (fun a j hj => ?_) hs)⟩
  have hj : j < 1 := hj
  obtain rfl : j = 0 := by omega
  exact ⟨.int _ _, rfl⟩
theorem trod_intE {n : Nat} {cs : List Value} {x : DataW H × List MemPlace} (h : DataW.trod enc Try.prog w base spare held n 3 cs = some x) : ∃ a : Int, cs = [.int .i64 a] := by
  obtain ⟨a, e, _, _⟩ := DataW.trod_int Try.underlying3 h
  exact ⟨a, e⟩
theorem open_intsS {v : Value} {d : DataW H} {p : List MemPlace} {a : Option Addr} {len cap : Nat} (hv : v = .slice a len cap) (h : DataW.Trod enc Try.prog w base spare held 33 v d p) :
    ∃ s : Sq Int, ∀ (M : Nat → Prop) (σ : Nat → Value) (V : Nat → Option Nat), (∀ g, ¬ M g) → VR w M σ V (.slc 1 s.n fun k => [.int .i64 (s.f k)]) v := by
  obtain ⟨fuel, hf⟩ := h
  obtain ⟨v', l, hcs, hs⟩ := open_sl (fun a : Int => [Value.int .i64 a]) (sz := 1) Try.underlying33 Try.cells3 (by omega) (fun _ => rfl) trod_intE hf
  subst hv
  simp [Value.cells] at hcs
  subst hcs
  refine ⟨⟨l.length, fun k => l.getD k 0⟩, fun M σ V hM => .pure (pr_of_sl hM (fun a : Int => [Value.int .i64 a]) (fun a : Int => [AV.int .i64 a]) 0 (fun _ => rfl) (fun _ => rfl) (fun a j hj => ?_) hs)⟩
  have hj : j < 1 := hj
  obtain rfl : j = 0 := by omega
  exact ⟨.int _ _, rfl⟩
end
/-- A law that comes to true, as it is told. -/
theorem law_told {f : FuncId} {A : Type} {enc : A → List AV × List Blk} {g : A → Option Bool} {av : Bool → AV} {outs : List Blk → Bool → List Blk} {fl : Bool} {hfl : fl = true → ∀ ins z, AV.flat (av z) = true ∧ ∀ b ∈ outs ins z, b.flat}
    (h : Tells Try.prog f (told enc g av outs fl hfl)) (hinj : ∀ a b, enc a = enc b → a = b) (hav : av true = .bool true) (a : A) (h2 : (enc a).2 = []) (hg : g a = some true) {w : World} {vs : Array Value} (hl : vs.size = (enc a).1.length)
    (hv : ∀ j, j < (enc a).1.length → ∀ (M : Nat → Prop) (σ : Nat → Value) (V : Nat → Option Nat), (∀ g, ¬ M g) → VR w M σ V ((enc a).1.getD j .undef) (vs.getD j undef)) (hgl : GlobOK w (fun _ => False) (fun _ => False) := by exact fun p hp => absurd hp List.not_mem_nil) : Calls Try.prog f vs w fun e w' => e = .returned (.bool true) ∧ Below w.heap.size w w' :=
  tells_calls h (xs := (enc a).1) (r := ⟨⟨Bool, gOfA enc g (enc a).1 [], av, outs []⟩, fun _ => fl, fun z h => hfl h [] z⟩) (x := true) rfl (by rw [← hg, ← congrFun (gOfA_eq hinj g) a, h2]) hav hl hv hgl
end Go.Proofs.Ytkgcicbipcifdaa.Ab
