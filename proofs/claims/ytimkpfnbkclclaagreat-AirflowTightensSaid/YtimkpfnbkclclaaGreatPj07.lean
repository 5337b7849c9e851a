/- A part of the proof, what is needed of it. -/
import Derived.Test.YtimkpfnbkclclaaGreatPj05
import Derived.Test.YtimkpfnbkclclaaGreatPj06
namespace Go.Proofs.YtimkpfnbkclclaaGreat.Ab
open Go Go.ChangeShapes Go.WideShapes Go.ChangeAt Go.RowKit Go.Deep Go.Joins
theorem Tryz.cells51 : Tryz.prog.cellsOf 51 = 2 := by kernel_rfl
theorem Tryz.cells75 : Tryz.prog.cellsOf 75 = 8 := by kernel_rfl
theorem Tryz.cells63 : Tryz.prog.cellsOf 63 = 4 := by kernel_rfl
theorem arN {α : Type} {l : List α} (h : l.length = 3) : ∃ a0 a1 a2, l = [a0, a1, a2] := by
  match l, h with
  | [a0, a1, a2], _ => exact ⟨a0, a1, a2, rfl⟩
theorem arO {α : Type} {l : List α} (h : l.length = 4) : ∃ a0 a1 a2 a3, l = [a0, a1, a2, a3] := by
  match l, h with
  | [a0, a1, a2, a3], _ => exact ⟨a0, a1, a2, a3, rfl⟩
theorem arw {α : Type} {l : List α} (h : l.length = 8) : ∃ a0 a1 a2 a3 a4 a5 a6 a7, l = [a0, a1, a2, a3, a4, a5, a6, a7] := by
  match l, h with
  | [a0, a1, a2, a3, a4, a5, a6, a7], _ => exact ⟨a0, a1, a2, a3, a4, a5, a6, a7, rfl⟩
section
variable {H : Type} {enc : TypeId × Value → H} {w : World} {base : Nat} {spare : Nat → Bool} {held : Bool}
def aq8 (p : qB) : List Value := [.int .i64 p.Low, .int .i64 p.High]
theorem aqR {n : Nat} {cs : List Value} {x : DataW H × List MemPlace} (h : DataW.trod enc Tryz.prog w base spare held n 51 cs = some x) : ∃ p : qB, cs = aq8 p := by
  obtain ⟨xs, n, _, _, hl, hxl, hf⟩ := DataW.trod_struct Tryz.underlying51 h
  rw [Tryz.cells51] at hl
  obtain ⟨c0, c1, rfl⟩ := qp hl
  obtain ⟨y0, y1, rfl⟩ := qp (show xs.length = 2 from hxl)
  have h0 : DataW.trod enc Tryz.prog w base spare held n 3 (([c0, c1].drop 0).take (Tryz.prog.cellsOf 3)) = some y0 := hf 0 _ rfl
  rw [Tryz.cells3] at h0
  obtain ⟨a0, e0, _⟩ := DataW.trod_int Tryz.underlying3 h0
  have h1 : DataW.trod enc Tryz.prog w base spare held n 3 (([c0, c1].drop 1).take (Tryz.prog.cellsOf 3)) = some y1 := hf 1 _ rfl
  rw [Tryz.cells3] at h1
  obtain ⟨a1, e1, _⟩ := DataW.trod_int Tryz.underlying3 h1
  simp at e0 e1
  subst e0 e1
  exact ⟨⟨a0, a1⟩, rfl⟩
def aqX (p : qG) : List Value := [.int .i64 p.Address, .int .i64 p.Kind, .int .i64 p.Target, .int .i64 p.Offset, .int .i64 p.Scale, .int .i64 p.Error, .int .i64 p.Drift, .int .i64 p.Life]
theorem aq2 {n : Nat} {cs : List Value} {x : DataW H × List MemPlace} (h : DataW.trod enc Tryz.prog w base spare held n 75 cs = some x) : ∃ p : qG, cs = aqX p := by
  obtain ⟨xs, n, _, _, hl, hxl, hf⟩ := DataW.trod_struct Tryz.underlying75 h
  rw [Tryz.cells75] at hl
  obtain ⟨c0, c1, c2, c3, c4, c5, c6, c7, rfl⟩ := arw hl
  obtain ⟨y0, y1, y2, y3, y4, y5, y6, y7, rfl⟩ := arw (show xs.length = 8 from hxl)
  have h0 : DataW.trod enc Tryz.prog w base spare held n 3 (([c0, c1, c2, c3, c4, c5, c6, c7].drop 0).take (Tryz.prog.cellsOf 3)) = some y0 := hf 0 _ rfl
  rw [Tryz.cells3] at h0
  obtain ⟨a0, e0, _⟩ := DataW.trod_int Tryz.underlying3 h0
  have h1 : DataW.trod enc Tryz.prog w base spare held n 3 (([c0, c1, c2, c3, c4, c5, c6, c7].drop 1).take (Tryz.prog.cellsOf 3)) = some y1 := hf 1 _ rfl
  rw [Tryz.cells3] at h1
  obtain ⟨a1, e1, _⟩ := DataW.trod_int Tryz.underlying3 h1
  have h2 : DataW.trod enc Tryz.prog w base spare held n 3 (([c0, c1, c2, c3, c4, c5, c6, c7].drop 2).take (Tryz.prog.cellsOf 3)) = some y2 := hf 2 _ rfl
  rw [Tryz.cells3] at h2
  obtain ⟨a2, e2, _⟩ := DataW.trod_int Tryz.underlying3 h2
  have h3 : DataW.trod enc Tryz.prog w base spare held n 3 (([c0, c1, c2, c3, c4, c5, c6, c7].drop 3).take (Tryz.prog.cellsOf 3)) = some y3 := hf 3 _ rfl
  rw [Tryz.cells3] at h3
  obtain ⟨a3, e3, _⟩ := DataW.trod_int Tryz.underlying3 h3
  have h4 : DataW.trod enc Tryz.prog w base spare held n 3 (([c0, c1, c2, c3, c4, c5, c6, c7].drop 4).take (Tryz.prog.cellsOf 3)) = some y4 := hf 4 _ rfl
  rw [Tryz.cells3] at h4
  obtain ⟨a4, e4, _⟩ := DataW.trod_int Tryz.underlying3 h4
  have h5 : DataW.trod enc Tryz.prog w base spare held n 3 (([c0, c1, c2, c3, c4, c5, c6, c7].drop 5).take (Tryz.prog.cellsOf 3)) = some y5 := hf 5 _ rfl
  rw [Tryz.cells3] at h5
  obtain ⟨a5, e5, _⟩ := DataW.trod_int Tryz.underlying3 h5
  have h6 : DataW.trod enc Tryz.prog w base spare held n 3 (([c0, c1, c2, c3, c4, c5, c6, c7].drop 6).take (Tryz.prog.cellsOf 3)) = some y6 := hf 6 _ rfl
  rw [Tryz.cells3] at h6
  obtain ⟨a6, e6, _⟩ := DataW.trod_int Tryz.underlying3 h6
  have h7 : DataW.trod enc Tryz.prog w base spare held n 3 (([c0, c1, c2, c3, c4, c5, c6, c7].drop 7).take (Tryz.prog.cellsOf 3)) = some y7 := hf 7 _ rfl
  rw [Tryz.cells3] at h7
  obtain ⟨a7, e7, _⟩ := DataW.trod_int Tryz.underlying3 h7
  simp at e0 e1 e2 e3 e4 e5 e6 e7
  subst e0 e1 e2 e3 e4 e5 e6 e7
  exact ⟨⟨a0, a1, a2, a3, a4, a5, a6, a7⟩, rfl⟩
def aqG (p : qE) : List Value := [.int .i64 p.Sensor, .int .i64 p.Time, .int .i64 p.Span.Low, .int .i64 p.Span.High]
theorem aqY {n : Nat} {cs : List Value} {x : DataW H × List MemPlace} (h : DataW.trod enc Tryz.prog w base spare held n 63 cs = some x) : ∃ p : qE, cs = aqG p := by
  obtain ⟨xs, n, _, _, hl, hxl, hf⟩ := DataW.trod_struct Tryz.underlying63 h
  rw [Tryz.cells63] at hl
  obtain ⟨c0, c1, c2, c3, rfl⟩ := arO hl
  obtain ⟨y0, y1, y2, rfl⟩ := arN (show xs.length = 3 from hxl)
  have h0 : DataW.trod enc Tryz.prog w base spare held n 3 (([c0, c1, c2, c3].drop 0).take (Tryz.prog.cellsOf 3)) = some y0 := hf 0 _ rfl
  have h1 : DataW.trod enc Tryz.prog w base spare held n 3 (([c0, c1, c2, c3].drop 1).take (Tryz.prog.cellsOf 3)) = some y1 := hf 1 _ rfl
  have h2 : DataW.trod enc Tryz.prog w base spare held n 51 (([c0, c1, c2, c3].drop 2).take (Tryz.prog.cellsOf 51)) = some y2 := hf 2 _ rfl
  rw [Tryz.cells3] at h0
  rw [Tryz.cells3] at h1
  rw [Tryz.cells51] at h2
  obtain ⟨a0, e0, _⟩ := DataW.trod_int Tryz.underlying3 h0
  obtain ⟨a1, e1, _⟩ := DataW.trod_int Tryz.underlying3 h1
  obtain ⟨a2, e2⟩ := aqR h2
  simp [aq8] at e0 e1 e2
  obtain ⟨e2, f2⟩ := e2
  subst e0 e1 e2 f2
  exact ⟨⟨a0, a1, a2⟩, rfl⟩
theorem arz {v : Value} {d : DataW H} {p : List MemPlace} {a : Option Addr} {len cap : Nat} (hv : v = .slice a len cap) (h : DataW.Trod enc Tryz.prog w base spare held 60 v d p) :
    ∃ s : Sq qG, ∀ (M : Nat → Prop) (σ : Nat → Value) (V : Nat → Option Nat), (∀ g, ¬ M g) → VR w M σ V (.slc 8 s.n fun k => qG.enc (s.f k)) v := by
  obtain ⟨fuel, hf⟩ := h
  obtain ⟨v', l, hcs, hs⟩ := oD aqX (sz := 8) Tryz.underlying60 Tryz.cells75 (by omega) (fun _ => rfl) aq2 hf
  subst hv
  simp [Value.cells] at hcs
  subst hcs
  refine ⟨⟨l.length, fun k => l.getD k ⟨0, 0, 0, 0, 0, 0, 0, 0⟩⟩, fun M σ V hM => .pure (nE hM aqX (fun p => qG.enc p) ⟨0, 0, 0, 0, 0, 0, 0, 0⟩ (fun _ => rfl) (fun _ => rfl) (fun a j hj => ?_) hs)⟩
  have hj : j < 8 := hj
  match j, hj with
  | 0, _ => exact ⟨.int _ _, rfl⟩
  | 1, _ => exact ⟨.int _ _, rfl⟩
  | 2, _ => exact ⟨.int _ _, rfl⟩
  | 3, _ => exact ⟨.int _ _, rfl⟩
  | 4, _ => exact ⟨.int _ _, rfl⟩
  | 5, _ => exact ⟨.int _ _, rfl⟩
  | 6, _ => exact ⟨.int _ _, rfl⟩
  | 7, _ => exact ⟨.int _ _, rfl⟩
theorem arq {v : Value} {d : DataW H} {p : List MemPlace} {a : Option Addr} {len cap : Nat} (hv : v = .slice a len cap) (h : DataW.Trod enc Tryz.prog w base spare held 61 v d p) :
    ∃ s : Sq qE, ∀ (M : Nat → Prop) (σ : Nat → Value) (V : Nat → Option Nat), (∀ g, ¬ M g) → VR w M σ V (.slc 4 s.n fun k => qE.enc (s.f k)) v := by
  obtain ⟨fuel, hf⟩ := h
  obtain ⟨v', l, hcs, hs⟩ := oD aqG (sz := 4) Tryz.underlying61 Tryz.cells63 (by omega) (fun _ => rfl) aqY hf
  subst hv
  simp [Value.cells] at hcs
  subst hcs
  refine ⟨⟨l.length, fun k => l.getD k ⟨0, 0, ⟨0, 0⟩⟩⟩, fun M σ V hM => .pure (nE hM aqG (fun p => qE.enc p) ⟨0, 0, ⟨0, 0⟩⟩ (fun _ => rfl) (fun _ => rfl) (fun a j hj => ?_) hs)⟩
  have hj : j < 4 := hj
  match j, hj with
  | 0, _ => exact ⟨.int _ _, rfl⟩
  | 1, _ => exact ⟨.int _ _, rfl⟩
  | 2, _ => exact ⟨.int _ _, rfl⟩
  | 3, _ => exact ⟨.int _ _, rfl⟩
end
end Go.Proofs.YtimkpfnbkclclaaGreat.Ab
