/- Bytes and numbers that come in; a told law, called. -/
import Derived.Test.YtmfiagdelnddkaaGreatZf
import Derived.Test.YtmfiagdelnddkaaGreatZn
namespace Go.Proofs.YtmfiagdelnddkaaGreat.Ab
open Go Go.ChangeShapes Go.WideShapes Go.ChangeAt Go.RowKit Go.Deep Go.Joins
def BtI := { a : Int // 0 ≤ a ∧ a ≤ 255 }
section
variable {H : Type} {enc : TypeId × Value → H} {w : World} {base : Nat} {spare : Nat → Bool} {held : Bool}
theorem agp {n : Nat} {cs : List Value} {x : DataW H × List MemPlace} (h : DataW.trod enc Tryz.prog w base spare held n 5 cs = some x) : ∃ a : BtI, cs = [.int .u8 a.1] := by
  obtain ⟨a, e, _, hw⟩ := DataW.trod_int Tryz.underlying5 h
  exact ⟨⟨a, Go.bounds_u8 hw⟩, e⟩
theorem aj4 {v : Value} {d : DataW H} {p : List MemPlace} {a : Option Addr} {len cap : Nat} (hv : v = .slice a len cap) (h : DataW.Trod enc Tryz.prog w base spare held 22 v d p) :
    ∃ s : Sq Int, (∀ k, 0 ≤ s.f k ∧ s.f k ≤ 255) ∧ ∀ (M : Nat → Prop) (σ : Nat → Value) (V : Nat → Option Nat), (∀ g, ¬ M g) → VR w M σ V (.slc 1 s.n fun k => [.int .u8 (s.f k)]) v := by
  obtain ⟨fuel, hf⟩ := h
  obtain ⟨v', l, hcs, hs⟩ := Jm (fun a : BtI => [Value.int .u8 a.1]) (sz := 1) Tryz.underlying22 Tryz.cells5 (by omega) (fun _ => rfl) agp hf
  subst hv
  simp [Value.cells] at hcs
  subst hcs
  refine ⟨⟨l.length, fun k => (l.getD k ⟨0, by omega, by omega⟩).1⟩, fun k => (l.getD k ⟨0, by omega, by omega⟩).2, fun M σ V hM => .pure (CK hM (fun a : BtI => [Value.int .u8 a.1]) (fun a : BtI => [AV.int .u8 a.1]) ⟨0, by omega, by omega⟩ (fun _ => rfl) (fun _ => rfl) (fun a j hj => ?_) hs)⟩
  have hj : j < 1 := hj
  obtain rfl : j = 0 := by omega
  exact ⟨.int _ _, rfl⟩
theorem ah0 {n : Nat} {cs : List Value} {x : DataW H × List MemPlace} (h : DataW.trod enc Tryz.prog w base spare held n 3 cs = some x) : ∃ a : Int, cs = [.int .i64 a] := by
  obtain ⟨a, e, _, _⟩ := DataW.trod_int Tryz.underlying3 h
  exact ⟨a, e⟩
theorem akm {v : Value} {d : DataW H} {p : List MemPlace} {a : Option Addr} {len cap : Nat} (hv : v = .slice a len cap) (h : DataW.Trod enc Tryz.prog w base spare held 23 v d p) :
    ∃ s : Sq Int, ∀ (M : Nat → Prop) (σ : Nat → Value) (V : Nat → Option Nat), (∀ g, ¬ M g) → VR w M σ V (.slc 1 s.n fun k => [.int .i64 (s.f k)]) v := by
  obtain ⟨fuel, hf⟩ := h
  obtain ⟨v', l, hcs, hs⟩ := Jm (fun a : Int => [Value.int .i64 a]) (sz := 1) Tryz.underlying23 Tryz.cells3 (by omega) (fun _ => rfl) ah0 hf
  subst hv
  simp [Value.cells] at hcs
  subst hcs
  refine ⟨⟨l.length, fun k => l.getD k 0⟩, fun M σ V hM => .pure (CK hM (fun a : Int => [Value.int .i64 a]) (fun a : Int => [AV.int .i64 a]) 0 (fun _ => rfl) (fun _ => rfl) (fun a j hj => ?_) hs)⟩
  have hj : j < 1 := hj
  obtain rfl : j = 0 := by omega
  exact ⟨.int _ _, rfl⟩
end
theorem ak4 {f : FuncId} {A : Type} {enc : A → List AV × List Blk} {g : A → Option Bool} {av : Bool → AV} {outs : List Blk → Bool → List Blk} {fl : Bool} {hfl : fl = true → ∀ ins z, AV.flat (av z) = true ∧ ∀ b ∈ outs ins z, b.flat}
    (h : aN Tryz.prog f (told enc g av outs fl hfl)) (hinj : ∀ a b, enc a = enc b → a = b) (hav : av true = .bool true) (a : A) (h2 : (enc a).2 = []) (hg : g a = some true) {w : World} {vs : Array Value} (hl : vs.size = (enc a).1.length)
    (hv : ∀ j, j < (enc a).1.length → ∀ (M : Nat → Prop) (σ : Nat → Value) (V : Nat → Option Nat), (∀ g, ¬ M g) → VR w M σ V ((enc a).1.getD j .undef) (vs.getD j undef)) : Calls Tryz.prog f vs w fun e w' => e = .returned (.bool true) ∧ Below w.heap.size w w' :=
  Zp h (xs := (enc a).1) (r := ⟨⟨Bool, gOfA enc g (enc a).1 [], av, outs []⟩, fun _ => fl, fun z h => hfl h [] z⟩) (x := true) rfl (by rw [← hg, ← congrFun (aeA hinj g) a, h2]) hav hl hv
end Go.Proofs.YtmfiagdelnddkaaGreat.Ab
