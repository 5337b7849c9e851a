/- A part of the proof, what is needed of it. -/
import Derived.Test.YtimkpfnbkclclaaGreatPi05
import Derived.Test.YtimkpfnbkclclaaGreatPi06
namespace Go.Proofs.YtimkpfnbkclclaaGreat.Ab
open Go Go.ChangeShapes Go.WideShapes Go.ChangeAt Go.RowKit Go.Deep Go.Joins
theorem Tryz.cells51 : Tryz.prog.cellsOf 51 = 2 := by kernel_rfl
theorem Tryz.cells54 : Tryz.prog.cellsOf 54 = 2 := by kernel_rfl
section
variable {H : Type} {enc : TypeId × Value → H} {w : World} {base : Nat} {spare : Nat → Bool} {held : Bool}
def aq8 (p : qB) : List Value := [.int .i64 p.Low, .int .i64 p.High]
theorem aqR {n : Nat} {cs : List Value} {x : DataW H × List MemPlace} (h : DataW.trod enc Tryz.prog w base spare held n 51 cs = some x) : ∃ p : qB, cs = aq8 p := by
  obtain ⟨xs, n, _, _, hl, hxl, hf⟩ := DataW.trod_struct Tryz.underlying51 h
  rw [Tryz.cells51] at hl
  obtain ⟨c0, c1, rfl⟩ := qp hl
  obtain ⟨y0, y1, rfl⟩ := qp (show xs.length = 2 from hxl)
  have h0 : DataW.trod enc Tryz.prog w base spare held n 3 (([c0, c1].drop 0).take (Tryz.prog.cellsOf 3)) = some y0 := hf 0 _ rfl
  rw [Tryz.cells3] at h0
  obtain ⟨a0, e0, _⟩ := DataW.trod_int Tryz.underlying3 h0
  have h1 : DataW.trod enc Tryz.prog w base spare held n 3 (([c0, c1].drop 1).take (Tryz.prog.cellsOf 3)) = some y1 := hf 1 _ rfl
  rw [Tryz.cells3] at h1
  obtain ⟨a1, e1, _⟩ := DataW.trod_int Tryz.underlying3 h1
  simp at e0 e1
  subst e0 e1
  exact ⟨⟨a0, a1⟩, rfl⟩
def arf (p : rW) : List Value := [.int .i64 p.Road, .int .i64 p.Need]
theorem arb {n : Nat} {cs : List Value} {x : DataW H × List MemPlace} (h : DataW.trod enc Tryz.prog w base spare held n 54 cs = some x) : ∃ p : rW, cs = arf p := by
  obtain ⟨xs, n, _, _, hl, hxl, hf⟩ := DataW.trod_struct Tryz.underlying54 h
  rw [Tryz.cells54] at hl
  obtain ⟨c0, c1, rfl⟩ := qp hl
  obtain ⟨y0, y1, rfl⟩ := qp (show xs.length = 2 from hxl)
  have h0 : DataW.trod enc Tryz.prog w base spare held n 3 (([c0, c1].drop 0).take (Tryz.prog.cellsOf 3)) = some y0 := hf 0 _ rfl
  rw [Tryz.cells3] at h0
  obtain ⟨a0, e0, _⟩ := DataW.trod_int Tryz.underlying3 h0
  have h1 : DataW.trod enc Tryz.prog w base spare held n 3 (([c0, c1].drop 1).take (Tryz.prog.cellsOf 3)) = some y1 := hf 1 _ rfl
  rw [Tryz.cells3] at h1
  obtain ⟨a1, e1, _⟩ := DataW.trod_int Tryz.underlying3 h1
  simp at e0 e1
  subst e0 e1
  exact ⟨⟨a0, a1⟩, rfl⟩
theorem arI {v : Value} {d : DataW H} {p : List MemPlace} {a : Option Addr} {len cap : Nat} (hv : v = .slice a len cap) (h : DataW.Trod enc Tryz.prog w base spare held 42 v d p) :
    ∃ s : Sq qB, ∀ (M : Nat → Prop) (σ : Nat → Value) (V : Nat → Option Nat), (∀ g, ¬ M g) → VR w M σ V (.slc 2 s.n fun k => qB.enc (s.f k)) v := by
  obtain ⟨fuel, hf⟩ := h
  obtain ⟨v', l, hcs, hs⟩ := oD aq8 (sz := 2) Tryz.underlying42 Tryz.cells51 (by omega) (fun _ => rfl) aqR hf
  subst hv
  simp [Value.cells] at hcs
  subst hcs
  refine ⟨⟨l.length, fun k => l.getD k ⟨0, 0⟩⟩, fun M σ V hM => .pure (nE hM aq8 (fun p => qB.enc p) ⟨0, 0⟩ (fun _ => rfl) (fun _ => rfl) (fun a j hj => ?_) hs)⟩
  have hj : j < 2 := hj
  match j, hj with
  | 0, _ => exact ⟨.int _ _, rfl⟩
  | 1, _ => exact ⟨.int _ _, rfl⟩
theorem arH {v : Value} {d : DataW H} {p : List MemPlace} {a : Option Addr} {len cap : Nat} (hv : v = .slice a len cap) (h : DataW.Trod enc Tryz.prog w base spare held 49 v d p) :
    ∃ s : Sq rW, ∀ (M : Nat → Prop) (σ : Nat → Value) (V : Nat → Option Nat), (∀ g, ¬ M g) → VR w M σ V (.slc 2 s.n fun k => rW.enc (s.f k)) v := by
  obtain ⟨fuel, hf⟩ := h
  obtain ⟨v', l, hcs, hs⟩ := oD arf (sz := 2) Tryz.underlying49 Tryz.cells54 (by omega) (fun _ => rfl) arb hf
  subst hv
  simp [Value.cells] at hcs
  subst hcs
  refine ⟨⟨l.length, fun k => l.getD k ⟨0, 0⟩⟩, fun M σ V hM => .pure (nE hM arf (fun p => rW.enc p) ⟨0, 0⟩ (fun _ => rfl) (fun _ => rfl) (fun a j hj => ?_) hs)⟩
  have hj : j < 2 := hj
  match j, hj with
  | 0, _ => exact ⟨.int _ _, rfl⟩
  | 1, _ => exact ⟨.int _ _, rfl⟩
end
end Go.Proofs.YtimkpfnbkclclaaGreat.Ab
