/- Stage 9: airs, settings and states that come in. -/
import Derived.Test.YtmfiagdelnddkaaGreatXu
import Derived.Test.YtmfiagdelnddkaaGreatXa
namespace Go.Proofs.YtmfiagdelnddkaaGreat.Ab
open Go Go.ChangeShapes Go.WideShapes Go.ChangeAt Go.RowKit Go.Deep Go.Joins
theorem Tryz.cells61 : Tryz.prog.cellsOf 61 = 2 := by kernel_rfl
theorem Tryz.cells70 : Tryz.prog.cellsOf 70 = 10 := by kernel_rfl
theorem Tryz.cells63 : Tryz.prog.cellsOf 63 = 2 := by kernel_rfl
theorem Tryz.cells122 : Tryz.prog.cellsOf 122 = 2 := by kernel_rfl
theorem Tryz.cells73 : Tryz.prog.cellsOf 73 = 4 := by kernel_rfl
theorem Tryz.cells91 : Tryz.prog.cellsOf 91 = 3 := by kernel_rfl
theorem Tryz.cells29 : Tryz.prog.cellsOf 29 = 2 := by kernel_rfl
theorem Tryz.cells33 : Tryz.prog.cellsOf 33 = 4 := by kernel_rfl
theorem Tryz.cells35 : Tryz.prog.cellsOf 35 = 2 := by kernel_rfl
theorem Tryz.cells37 : Tryz.prog.cellsOf 37 = 2 := by kernel_rfl
theorem Tryz.cells26 : Tryz.prog.cellsOf 26 = 1 := by kernel_rfl
theorem Tryz.cells27 : Tryz.prog.cellsOf 27 = 1 := by kernel_rfl
theorem Tryz.cells71 : Tryz.prog.cellsOf 71 = 1 := by kernel_rfl
theorem Tryz.cells30 : Tryz.prog.cellsOf 30 = 1 := by kernel_rfl
theorem Tryz.cells31 : Tryz.prog.cellsOf 31 = 1 := by kernel_rfl
theorem Tryz.cells23 : Tryz.prog.cellsOf 23 = 1 := by kernel_rfl
theorem ajW {α : Type} {l : List α} (h : l.length = 3) : ∃ a0 a1 a2, l = [a0, a1, a2] := by
  match l, h with
  | [a0, a1, a2], _ => exact ⟨a0, a1, a2, rfl⟩
theorem alj {α : Type} {l : List α} (h : l.length = 8) : ∃ a0 a1 a2 a3 a4 a5 a6 a7, l = [a0, a1, a2, a3, a4, a5, a6, a7] := by
  match l, h with
  | [a0, a1, a2, a3, a4, a5, a6, a7], _ => exact ⟨a0, a1, a2, a3, a4, a5, a6, a7, rfl⟩
theorem akO {α : Type} {l : List α} (h : l.length = 10) : ∃ a0 a1 a2 a3 a4 a5 a6 a7 a8 a9, l = [a0, a1, a2, a3, a4, a5, a6, a7, a8, a9] := by
  match l, h with
  | [a0, a1, a2, a3, a4, a5, a6, a7, a8, a9], _ => exact ⟨a0, a1, a2, a3, a4, a5, a6, a7, a8, a9, rfl⟩
section
variable {H : Type} {enc : TypeId × Value → H} {w : World} {base : Nat} {spare : Nat → Bool} {held : Bool}
def ahB (p : aM) : List Value := [.int .i64 p.Flow, .int .i64 p.Pressure]
theorem aeY {n : Nat} {cs : List Value} {x : DataW H × List MemPlace} (h : DataW.trod enc Tryz.prog w base spare held n 122 cs = some x) : ∃ p : aM, cs = ahB p := by
  obtain ⟨xs, n, _, _, hl, hxl, hf⟩ := DataW.trod_struct Tryz.underlying122 h
  rw [Tryz.cells122] at hl
  obtain ⟨c0, c1, rfl⟩ := WV hl
  obtain ⟨y0, y1, rfl⟩ := WV (show xs.length = 2 from hxl)
  have h0 : DataW.trod enc Tryz.prog w base spare held n 3 (([c0, c1].drop 0).take (Tryz.prog.cellsOf 3)) = some y0 := hf 0 _ rfl
  have h1 : DataW.trod enc Tryz.prog w base spare held n 3 (([c0, c1].drop 1).take (Tryz.prog.cellsOf 3)) = some y1 := hf 1 _ rfl
  rw [Tryz.cells3] at h0
  rw [Tryz.cells3] at h1
  obtain ⟨a0, e0, _⟩ := DataW.trod_int Tryz.underlying3 h0
  obtain ⟨a1, e1, _⟩ := DataW.trod_int Tryz.underlying3 h1
  simp at e0 e1
  subst e0 e1
  exact ⟨⟨a0, a1⟩, rfl⟩
def akY (p : aK) : List Value := [.int .i64 p.Low, .int .i64 p.High]
theorem aaZ {n : Nat} {cs : List Value} {x : DataW H × List MemPlace} (h : DataW.trod enc Tryz.prog w base spare held n 63 cs = some x) : ∃ p : aK, cs = akY p := by
  obtain ⟨xs, n, _, _, hl, hxl, hf⟩ := DataW.trod_struct Tryz.underlying63 h
  rw [Tryz.cells63] at hl
  obtain ⟨c0, c1, rfl⟩ := WV hl
  obtain ⟨y0, y1, rfl⟩ := WV (show xs.length = 2 from hxl)
  have h0 : DataW.trod enc Tryz.prog w base spare held n 3 (([c0, c1].drop 0).take (Tryz.prog.cellsOf 3)) = some y0 := hf 0 _ rfl
  have h1 : DataW.trod enc Tryz.prog w base spare held n 3 (([c0, c1].drop 1).take (Tryz.prog.cellsOf 3)) = some y1 := hf 1 _ rfl
  rw [Tryz.cells3] at h0
  rw [Tryz.cells3] at h1
  obtain ⟨a0, e0, _⟩ := DataW.trod_int Tryz.underlying3 h0
  obtain ⟨a1, e1, _⟩ := DataW.trod_int Tryz.underlying3 h1
  simp at e0 e1
  subst e0 e1
  exact ⟨⟨a0, a1⟩, rfl⟩
def aeJ (p : ay) : List Value := [.int .i64 p.Height, .bool p.Surface]
theorem aeX {n : Nat} {cs : List Value} {x : DataW H × List MemPlace} (h : DataW.trod enc Tryz.prog w base spare held n 61 cs = some x) : ∃ p : ay, cs = aeJ p := by
  obtain ⟨xs, n, _, _, hl, hxl, hf⟩ := DataW.trod_struct Tryz.underlying61 h
  rw [Tryz.cells61] at hl
  obtain ⟨c0, c1, rfl⟩ := WV hl
  obtain ⟨y0, y1, rfl⟩ := WV (show xs.length = 2 from hxl)
  have h0 : DataW.trod enc Tryz.prog w base spare held n 3 (([c0, c1].drop 0).take (Tryz.prog.cellsOf 3)) = some y0 := hf 0 _ rfl
  have h1 : DataW.trod enc Tryz.prog w base spare held n 4 (([c0, c1].drop 1).take (Tryz.prog.cellsOf 4)) = some y1 := hf 1 _ rfl
  rw [Tryz.cells3] at h0
  rw [Tryz.cells4] at h1
  obtain ⟨a0, e0, _⟩ := DataW.trod_int Tryz.underlying3 h0
  obtain ⟨a1, e1, _⟩ := DataW.trod_bool Tryz.underlying4 h1
  simp at e0 e1
  subst e0 e1
  exact ⟨⟨a0, a1⟩, rfl⟩
def aj8 (p : aB) : List Value := [.int .i64 p.From, .int .i64 p.To, .int .i64 p.Length, .int .i64 p.Area, .bool p.Walk, .bool p.Closed, .int .i64 p.Rest.Low, .int .i64 p.Rest.High, .int .i64 p.Lift.Low, .int .i64 p.Lift.High]
theorem ags {n : Nat} {cs : List Value} {x : DataW H × List MemPlace} (h : DataW.trod enc Tryz.prog w base spare held n 70 cs = some x) : ∃ p : aB, cs = aj8 p := by
  obtain ⟨xs, n, _, _, hl, hxl, hf⟩ := DataW.trod_struct Tryz.underlying70 h
  rw [Tryz.cells70] at hl
  obtain ⟨c0, c1, c2, c3, c4, c5, c6, c7, c8, c9, rfl⟩ := akO hl
  obtain ⟨y0, y1, y2, y3, y4, y5, y6, y7, rfl⟩ := alj (show xs.length = 8 from hxl)
  have h0 : DataW.trod enc Tryz.prog w base spare held n 3 (([c0, c1, c2, c3, c4, c5, c6, c7, c8, c9].drop 0).take (Tryz.prog.cellsOf 3)) = some y0 := hf 0 _ rfl
  have h1 : DataW.trod enc Tryz.prog w base spare held n 3 (([c0, c1, c2, c3, c4, c5, c6, c7, c8, c9].drop 1).take (Tryz.prog.cellsOf 3)) = some y1 := hf 1 _ rfl
  have h2 : DataW.trod enc Tryz.prog w base spare held n 3 (([c0, c1, c2, c3, c4, c5, c6, c7, c8, c9].drop 2).take (Tryz.prog.cellsOf 3)) = some y2 := hf 2 _ rfl
  have h3 : DataW.trod enc Tryz.prog w base spare held n 3 (([c0, c1, c2, c3, c4, c5, c6, c7, c8, c9].drop 3).take (Tryz.prog.cellsOf 3)) = some y3 := hf 3 _ rfl
  have h4 : DataW.trod enc Tryz.prog w base spare held n 4 (([c0, c1, c2, c3, c4, c5, c6, c7, c8, c9].drop 4).take (Tryz.prog.cellsOf 4)) = some y4 := hf 4 _ rfl
  have h5 : DataW.trod enc Tryz.prog w base spare held n 4 (([c0, c1, c2, c3, c4, c5, c6, c7, c8, c9].drop 5).take (Tryz.prog.cellsOf 4)) = some y5 := hf 5 _ rfl
  have h6 : DataW.trod enc Tryz.prog w base spare held n 63 (([c0, c1, c2, c3, c4, c5, c6, c7, c8, c9].drop 6).take (Tryz.prog.cellsOf 63)) = some y6 := hf 6 _ rfl
  have h7 : DataW.trod enc Tryz.prog w base spare held n 63 (([c0, c1, c2, c3, c4, c5, c6, c7, c8, c9].drop 8).take (Tryz.prog.cellsOf 63)) = some y7 := hf 7 _ rfl
  rw [Tryz.cells3] at h0
  rw [Tryz.cells3] at h1
  rw [Tryz.cells3] at h2
  rw [Tryz.cells3] at h3
  rw [Tryz.cells4] at h4
  rw [Tryz.cells4] at h5
  rw [Tryz.cells63] at h6
  rw [Tryz.cells63] at h7
  obtain ⟨a0, e0, _⟩ := DataW.trod_int Tryz.underlying3 h0
  obtain ⟨a1, e1, _⟩ := DataW.trod_int Tryz.underlying3 h1
  obtain ⟨a2, e2, _⟩ := DataW.trod_int Tryz.underlying3 h2
  obtain ⟨a3, e3, _⟩ := DataW.trod_int Tryz.underlying3 h3
  obtain ⟨a4, e4, _⟩ := DataW.trod_bool Tryz.underlying4 h4
  obtain ⟨a5, e5, _⟩ := DataW.trod_bool Tryz.underlying4 h5
  obtain ⟨a6, e6⟩ := aaZ h6
  obtain ⟨a7, e7⟩ := aaZ h7
  simp [akY] at e0 e1 e2 e3 e4 e5 e6 e7
  obtain ⟨e6, f6⟩ := e6
  obtain ⟨e7, f7⟩ := e7
  subst e0 e1 e2 e3 e4 e5 e6 e7 f6 f7
  exact ⟨⟨a0, a1, a2, a3, a4, a5, a6, a7⟩, rfl⟩
def ajT (a : Int) : List Value := [.int .i64 a]
theorem ahZ {n : Nat} {cs : List Value} {x : DataW H × List MemPlace} (h : DataW.trod enc Tryz.prog w base spare held n 3 cs = some x) : ∃ a : Int, cs = ajT a := by
  obtain ⟨a, e, _⟩ := DataW.trod_int Tryz.underlying3 h
  exact ⟨a, e⟩
theorem Zi {n : Nat} {cs : List Value} {x : DataW H × List MemPlace} (h : DataW.trod enc Tryz.prog w base spare held n 23 cs = some x) : ∃ (v : Value) (s : Sq Int), cs = [v] ∧ ∀ M : Nat → Prop, (∀ g, ¬ M g) → PR w M (.slc 1 s.n fun k => [.int .i64 (s.f k)]) v := by
  obtain ⟨v, l, e, hs⟩ := Jm ajT (sz := 1) Tryz.underlying23 Tryz.cells3 (by omega) (fun _ => rfl) ahZ h
  refine ⟨v, ⟨l.length, fun k => l.getD k 0⟩, e, fun M hM => CK hM ajT (fun p => [.int .i64 p]) 0 (fun _ => rfl) (fun _ => rfl) (fun a j hj => ?_) hs⟩
  have hj : j < 1 := hj
  match j, hj with
  | 0, _ => exact ⟨.int _ _, rfl⟩
theorem ahP {n : Nat} {cs : List Value} {x : DataW H × List MemPlace} (h : DataW.trod enc Tryz.prog w base spare held n 71 cs = some x) : ∃ (v : Value) (s : Sq aM), cs = [v] ∧ ∀ M : Nat → Prop, (∀ g, ¬ M g) → PR w M (.slc 2 s.n fun k => (aM.enc (s.f k))) v := by
  obtain ⟨v, l, e, hs⟩ := Jm ahB (sz := 2) Tryz.underlying71 Tryz.cells122 (by omega) (fun _ => rfl) aeY h
  refine ⟨v, ⟨l.length, fun k => l.getD k ⟨0, 0⟩⟩, e, fun M hM => CK hM ahB (fun p => (aM.enc p)) ⟨0, 0⟩ (fun _ => rfl) (fun _ => rfl) (fun a j hj => ?_) hs⟩
  have hj : j < 2 := hj
  match j, hj with
  | 0, _ => exact ⟨.int _ _, rfl⟩
  | 1, _ => exact ⟨.int _ _, rfl⟩
theorem ahO {n : Nat} {cs : List Value} {x : DataW H × List MemPlace} (h : DataW.trod enc Tryz.prog w base spare held n 26 cs = some x) : ∃ (v : Value) (s : Sq ay), cs = [v] ∧ ∀ M : Nat → Prop, (∀ g, ¬ M g) → PR w M (.slc 2 s.n fun k => (ay.enc (s.f k))) v := by
  obtain ⟨v, l, e, hs⟩ := Jm aeJ (sz := 2) Tryz.underlying26 Tryz.cells61 (by omega) (fun _ => rfl) aeX h
  refine ⟨v, ⟨l.length, fun k => l.getD k ⟨0, false⟩⟩, e, fun M hM => CK hM aeJ (fun p => (ay.enc p)) ⟨0, false⟩ (fun _ => rfl) (fun _ => rfl) (fun a j hj => ?_) hs⟩
  have hj : j < 2 := hj
  match j, hj with
  | 0, _ => exact ⟨.int _ _, rfl⟩
  | 1, _ => exact ⟨.bool _, rfl⟩
theorem aiW {n : Nat} {cs : List Value} {x : DataW H × List MemPlace} (h : DataW.trod enc Tryz.prog w base spare held n 27 cs = some x) : ∃ (v : Value) (s : Sq aB), cs = [v] ∧ ∀ M : Nat → Prop, (∀ g, ¬ M g) → PR w M (.slc 10 s.n fun k => (aB.enc (s.f k))) v := by
  obtain ⟨v, l, e, hs⟩ := Jm aj8 (sz := 10) Tryz.underlying27 Tryz.cells70 (by omega) (fun _ => rfl) ags h
  refine ⟨v, ⟨l.length, fun k => l.getD k ⟨0, 0, 0, 0, false, false, ⟨0, 0⟩, ⟨0, 0⟩⟩⟩, e, fun M hM => CK hM aj8 (fun p => (aB.enc p)) ⟨0, 0, 0, 0, false, false, ⟨0, 0⟩, ⟨0, 0⟩⟩ (fun _ => rfl) (fun _ => rfl) (fun a j hj => ?_) hs⟩
  have hj : j < 10 := hj
  match j, hj with
  | 0, _ => exact ⟨.int _ _, rfl⟩
  | 1, _ => exact ⟨.int _ _, rfl⟩
  | 2, _ => exact ⟨.int _ _, rfl⟩
  | 3, _ => exact ⟨.int _ _, rfl⟩
  | 4, _ => exact ⟨.bool _, rfl⟩
  | 5, _ => exact ⟨.bool _, rfl⟩
  | 6, _ => exact ⟨.int _ _, rfl⟩
  | 7, _ => exact ⟨.int _ _, rfl⟩
  | 8, _ => exact ⟨.int _ _, rfl⟩
  | 9, _ => exact ⟨.int _ _, rfl⟩
structure ajp (w : World) where
  x : SFan
  v : Value
  pr : ∀ M : Nat → Prop, (∀ g, ¬ M g) → PR w M (.slc 2 x.Curve.n fun k => (aM.enc (x.Curve.f k))) v
def ajN (a : ajp w) : List Value := [.int .i64 a.x.Road, .bool a.x.Back, .bool a.x.Auxiliary, a.v]
theorem ahY {n : Nat} {cs : List Value} {x : DataW H × List MemPlace} (h : DataW.trod enc Tryz.prog w base spare held n 73 cs = some x) : ∃ a : ajp w, cs = ajN a := by
  obtain ⟨xs, n, _, _, hl, hxl, hf⟩ := DataW.trod_struct Tryz.underlying73 h
  rw [Tryz.cells73] at hl
  obtain ⟨c0, c1, c2, c3, rfl⟩ := ajX hl
  obtain ⟨y0, y1, y2, y3, rfl⟩ := ajX (show xs.length = 4 from hxl)
  have h0 : DataW.trod enc Tryz.prog w base spare held n 3 (([c0, c1, c2, c3].drop 0).take (Tryz.prog.cellsOf 3)) = some y0 := hf 0 _ rfl
  have h1 : DataW.trod enc Tryz.prog w base spare held n 4 (([c0, c1, c2, c3].drop 1).take (Tryz.prog.cellsOf 4)) = some y1 := hf 1 _ rfl
  have h2 : DataW.trod enc Tryz.prog w base spare held n 4 (([c0, c1, c2, c3].drop 2).take (Tryz.prog.cellsOf 4)) = some y2 := hf 2 _ rfl
  have h3 : DataW.trod enc Tryz.prog w base spare held n 71 (([c0, c1, c2, c3].drop 3).take (Tryz.prog.cellsOf 71)) = some y3 := hf 3 _ rfl
  rw [Tryz.cells3] at h0
  rw [Tryz.cells4] at h1
  rw [Tryz.cells4] at h2
  rw [Tryz.cells71] at h3
  obtain ⟨a0, e0, _⟩ := DataW.trod_int Tryz.underlying3 h0
  obtain ⟨a1, e1, _⟩ := DataW.trod_bool Tryz.underlying4 h1
  obtain ⟨a2, e2, _⟩ := DataW.trod_bool Tryz.underlying4 h2
  obtain ⟨v, s, e3, pr⟩ := ahP h3
  simp at e0 e1 e2 e3
  subst e0 e1 e2 e3
  exact ⟨⟨⟨a0, a1, a2, s⟩, c3, pr⟩, rfl⟩
theorem akc {n : Nat} {cs : List Value} {x : DataW H × List MemPlace} (h : DataW.trod enc Tryz.prog w base spare held n 30 cs = some x) : ∃ (v : Value) (s : Sq SFan), cs = [v] ∧ ∀ M : Nat → Prop, (∀ g, ¬ M g) → PR w M (.slc 4 s.n fun k => (SFan.enc (s.f k))) v := by
  obtain ⟨v, l, e, hs⟩ := Jm (ajN (w := w)) (sz := 4) Tryz.underlying30 Tryz.cells73 (by omega) (fun _ => rfl) ahY h
  let z : ajp w := ⟨⟨0, false, false, ⟨0, fun _ => ⟨0, 0⟩⟩⟩, .slice none 0 0, fun _ _ => .slc0 _ _ _ (.inl rfl)⟩
  refine ⟨v, ⟨l.length, fun k => (l.getD k z).x⟩, e, fun M hM => CK hM ajN (fun a => SFan.enc a.x) z (fun _ => rfl) (fun _ => rfl) (fun a j hj => ?_) hs⟩
  have hj : j < 4 := hj
  match j, hj with
  | 0, _ => exact ⟨.int _ _, rfl⟩
  | 1, _ => exact ⟨.bool _, rfl⟩
  | 2, _ => exact ⟨.bool _, rfl⟩
  | 3, _ => exact ⟨a.pr M hM, (VR.pure (σ := fun _ => undef) (V := fun _ => none) (a.pr M hM)).one rfl⟩
structure agz (w : World) where
  x : aC
  v : Value
  pr : ∀ M : Nat → Prop, (∀ g, ¬ M g) → PR w M (.slc 1 x.Rests.n fun k => [.int .i64 (x.Rests.f k)]) v
def ag4 (a : agz w) : List Value := [.int .i64 a.x.Road, .int .i64 a.x.Other, a.v]
theorem agq {n : Nat} {cs : List Value} {x : DataW H × List MemPlace} (h : DataW.trod enc Tryz.prog w base spare held n 91 cs = some x) : ∃ a : agz w, cs = ag4 a := by
  obtain ⟨xs, n, _, _, hl, hxl, hf⟩ := DataW.trod_struct Tryz.underlying91 h
  rw [Tryz.cells91] at hl
  obtain ⟨c0, c1, c2, rfl⟩ := ajW hl
  obtain ⟨y0, y1, y2, rfl⟩ := ajW (show xs.length = 3 from hxl)
  have h0 : DataW.trod enc Tryz.prog w base spare held n 3 (([c0, c1, c2].drop 0).take (Tryz.prog.cellsOf 3)) = some y0 := hf 0 _ rfl
  have h1 : DataW.trod enc Tryz.prog w base spare held n 3 (([c0, c1, c2].drop 1).take (Tryz.prog.cellsOf 3)) = some y1 := hf 1 _ rfl
  have h2 : DataW.trod enc Tryz.prog w base spare held n 23 (([c0, c1, c2].drop 2).take (Tryz.prog.cellsOf 23)) = some y2 := hf 2 _ rfl
  rw [Tryz.cells3] at h0
  rw [Tryz.cells3] at h1
  rw [Tryz.cells23] at h2
  obtain ⟨a0, e0, _⟩ := DataW.trod_int Tryz.underlying3 h0
  obtain ⟨a1, e1, _⟩ := DataW.trod_int Tryz.underlying3 h1
  obtain ⟨v, s, e2, pr⟩ := Zi h2
  simp at e0 e1 e2
  subst e0 e1 e2
  exact ⟨⟨⟨a0, a1, s⟩, c2, pr⟩, rfl⟩
theorem aiV {n : Nat} {cs : List Value} {x : DataW H × List MemPlace} (h : DataW.trod enc Tryz.prog w base spare held n 31 cs = some x) : ∃ (v : Value) (s : Sq aC), cs = [v] ∧ ∀ M : Nat → Prop, (∀ g, ¬ M g) → PR w M (.slc 3 s.n fun k => (aC.enc (s.f k))) v := by
  obtain ⟨v, l, e, hs⟩ := Jm (ag4 (w := w)) (sz := 3) Tryz.underlying31 Tryz.cells91 (by omega) (fun _ => rfl) agq h
  let z : agz w := ⟨⟨0, 0, ⟨0, fun _ => 0⟩⟩, .slice none 0 0, fun _ _ => .slc0 _ _ _ (.inl rfl)⟩
  refine ⟨v, ⟨l.length, fun k => (l.getD k z).x⟩, e, fun M hM => CK hM ag4 (fun a => aC.enc a.x) z (fun _ => rfl) (fun _ => rfl) (fun a j hj => ?_) hs⟩
  have hj : j < 3 := hj
  match j, hj with
  | 0, _ => exact ⟨.int _ _, rfl⟩
  | 1, _ => exact ⟨.int _ _, rfl⟩
  | 2, _ => exact ⟨a.pr M hM, (VR.pure (σ := fun _ => undef) (V := fun _ => none) (a.pr M hM)).one rfl⟩
theorem agr {n : Nat} {cs : List Value} {x : DataW H × List MemPlace} (h : DataW.trod enc Tryz.prog w base spare held n 29 cs = some x) : ∃ (v0 v1 : Value) (s0 : Sq ay) (s1 : Sq aB), cs = [v0, v1] ∧ (∀ M : Nat → Prop, (∀ g, ¬ M g) → PR w M (.slc 2 s0.n fun k => (ay.enc (s0.f k))) v0) ∧ (∀ M : Nat → Prop, (∀ g, ¬ M g) → PR w M (.slc 10 s1.n fun k => (aB.enc (s1.f k))) v1) := by
  obtain ⟨xs, n, _, _, hl, hxl, hf⟩ := DataW.trod_struct Tryz.underlying29 h
  rw [Tryz.cells29] at hl
  obtain ⟨c0, c1, rfl⟩ := WV hl
  obtain ⟨y0, y1, rfl⟩ := WV (show xs.length = 2 from hxl)
  have h0 : DataW.trod enc Tryz.prog w base spare held n 26 (([c0, c1].drop 0).take (Tryz.prog.cellsOf 26)) = some y0 := hf 0 _ rfl
  have h1 : DataW.trod enc Tryz.prog w base spare held n 27 (([c0, c1].drop 1).take (Tryz.prog.cellsOf 27)) = some y1 := hf 1 _ rfl
  rw [Tryz.cells26] at h0
  rw [Tryz.cells27] at h1
  obtain ⟨v0, s0, e0, p0⟩ := ahO h0
  obtain ⟨v1, s1, e1, p1⟩ := aiW h1
  simp at e0 e1
  subst e0 e1
  exact ⟨_, _, s0, s1, rfl, p0, p1⟩
set_option maxRecDepth 100000 in
theorem ak6 {r : Reach} {b0 : Nat} {v : Value} {d : DataW H} {p : List MemPlace} (hv : Value.okWide Tryz.prog w r b0 33 v) (h : DataW.Trod enc Tryz.prog w base spare held 33 v d p) :
    ∃ raw : SAir, ∀ (M : Nat → Prop) (σ : Nat → Value) (V : Nat → Option Nat), (∀ g, ¬ M g) → VR w M σ V (.agg [.slc 2 raw.Mine.Places.n (fun k => (ay.enc (raw.Mine.Places.f k))), .slc 10 raw.Mine.Roads.n (fun k => (aB.enc (raw.Mine.Roads.f k))), .slc 4 raw.Fans.n (fun k => (SFan.enc (raw.Fans.f k))), .slc 3 raw.Doors.n (fun k => (aC.enc (raw.Doors.f k)))]) v := by
  obtain ⟨cs, rfl, hsz⟩ := okWide_struct Tryz.underlying33 hv
  obtain ⟨fuel, hf⟩ := h
  obtain ⟨xs, n, _, _, hl, hxl, hf⟩ := DataW.trod_struct Tryz.underlying33 hf
  rw [Tryz.cells33] at hl
  obtain ⟨c0, c1, c2, c3, hc⟩ := ajX hl
  obtain ⟨y0, y1, y2, rfl⟩ := ajW (show xs.length = 3 from hxl)
  rw [hc] at hf
  have h0 : DataW.trod enc Tryz.prog w base spare held n 29 (([c0, c1, c2, c3].drop 0).take (Tryz.prog.cellsOf 29)) = some y0 := hf 0 _ rfl
  have h1 : DataW.trod enc Tryz.prog w base spare held n 30 (([c0, c1, c2, c3].drop 2).take (Tryz.prog.cellsOf 30)) = some y1 := hf 1 _ rfl
  have h2 : DataW.trod enc Tryz.prog w base spare held n 31 (([c0, c1, c2, c3].drop 3).take (Tryz.prog.cellsOf 31)) = some y2 := hf 2 _ rfl
  rw [Tryz.cells29] at h0
  rw [Tryz.cells30] at h1
  rw [Tryz.cells31] at h2
  obtain ⟨v0, v1, s0, s1, e0, p0, p1⟩ := agr h0
  obtain ⟨v2, s2, e1, p2⟩ := akc h1
  obtain ⟨v3, s3, e2, p3⟩ := aiV h2
  simp at e0 e1 e2
  obtain ⟨e0, e3⟩ := e0
  subst e0 e1 e2 e3
  have hcs : cs = #[c0, c1, c2, c3] := by
    simp only [Value.cells] at hc
    exact Array.ext' hc
  subst hcs
  refine ⟨⟨⟨s0, s1⟩, s2, s3⟩, fun M σ V hM => .agg _ _ rfl fun i hi => ?_⟩
  match i, hi with
  | 0, _ => exact .pure (p0 M hM)
  | 1, _ => exact .pure (p1 M hM)
  | 2, _ => exact .pure (p2 M hM)
  | 3, _ => exact .pure (p3 M hM)
set_option maxRecDepth 100000 in
theorem ajk {r : Reach} {b0 : Nat} {v : Value} {d : DataW H} {p : List MemPlace} (hv : Value.okWide Tryz.prog w r b0 35 v) (h : DataW.Trod enc Tryz.prog w base spare held 35 v d p) :
    ∃ raw : au, ∀ (M : Nat → Prop) (σ : Nat → Value) (V : Nat → Option Nat), (∀ g, ¬ M g) → VR w M σ V (.agg [.slc 1 raw.Fans.n (fun k => [.int .i64 (raw.Fans.f k)]), .slc 1 raw.Doors.n (fun k => [.int .i64 (raw.Doors.f k)])]) v := by
  obtain ⟨cs, rfl, hsz⟩ := okWide_struct Tryz.underlying35 hv
  obtain ⟨fuel, hf⟩ := h
  obtain ⟨xs, n, _, _, hl, hxl, hf⟩ := DataW.trod_struct Tryz.underlying35 hf
  rw [Tryz.cells35] at hl
  obtain ⟨c0, c1, hc⟩ := WV hl
  obtain ⟨y0, y1, rfl⟩ := WV (show xs.length = 2 from hxl)
  rw [hc] at hf
  have h0 : DataW.trod enc Tryz.prog w base spare held n 23 (([c0, c1].drop 0).take (Tryz.prog.cellsOf 23)) = some y0 := hf 0 _ rfl
  have h1 : DataW.trod enc Tryz.prog w base spare held n 23 (([c0, c1].drop 1).take (Tryz.prog.cellsOf 23)) = some y1 := hf 1 _ rfl
  rw [Tryz.cells23] at h0
  rw [Tryz.cells23] at h1
  obtain ⟨v0, s0, e0, p0⟩ := Zi h0
  obtain ⟨v1, s1, e1, p1⟩ := Zi h1
  simp at e0 e1
  subst e0 e1
  have hcs : cs = #[c0, c1] := by
    simp only [Value.cells] at hc
    exact Array.ext' hc
  subst hcs
  refine ⟨⟨s0, s1⟩, fun M σ V hM => .agg _ _ rfl fun i hi => ?_⟩
  match i, hi with
  | 0, _ => exact .pure (p0 M hM)
  | 1, _ => exact .pure (p1 M hM)
set_option maxRecDepth 100000 in
theorem akn {r : Reach} {b0 : Nat} {v : Value} {d : DataW H} {p : List MemPlace} (hv : Value.okWide Tryz.prog w r b0 37 v) (h : DataW.Trod enc Tryz.prog w base spare held 37 v d p) :
    ∃ raw : dN, ∀ (M : Nat → Prop) (σ : Nat → Value) (V : Nat → Option Nat), (∀ g, ¬ M g) → VR w M σ V (.agg [.slc 1 raw.Pressures.n (fun k => [.int .i64 (raw.Pressures.f k)]), .slc 1 raw.Flows.n (fun k => [.int .i64 (raw.Flows.f k)])]) v := by
  obtain ⟨cs, rfl, hsz⟩ := okWide_struct Tryz.underlying37 hv
  obtain ⟨fuel, hf⟩ := h
  obtain ⟨xs, n, _, _, hl, hxl, hf⟩ := DataW.trod_struct Tryz.underlying37 hf
  rw [Tryz.cells37] at hl
  obtain ⟨c0, c1, hc⟩ := WV hl
  obtain ⟨y0, y1, rfl⟩ := WV (show xs.length = 2 from hxl)
  rw [hc] at hf
  have h0 : DataW.trod enc Tryz.prog w base spare held n 23 (([c0, c1].drop 0).take (Tryz.prog.cellsOf 23)) = some y0 := hf 0 _ rfl
  have h1 : DataW.trod enc Tryz.prog w base spare held n 23 (([c0, c1].drop 1).take (Tryz.prog.cellsOf 23)) = some y1 := hf 1 _ rfl
  rw [Tryz.cells23] at h0
  rw [Tryz.cells23] at h1
  obtain ⟨v0, s0, e0, p0⟩ := Zi h0
  obtain ⟨v1, s1, e1, p1⟩ := Zi h1
  simp at e0 e1
  subst e0 e1
  have hcs : cs = #[c0, c1] := by
    simp only [Value.cells] at hc
    exact Array.ext' hc
  subst hcs
  refine ⟨⟨s0, s1⟩, fun M σ V hM => .agg _ _ rfl fun i hi => ?_⟩
  match i, hi with
  | 0, _ => exact .pure (p0 M hM)
  | 1, _ => exact .pure (p1 M hM)
end
theorem bounds_u16 {n : Int} (h : (Lit.int .u16 n).wf = true) : 0 ≤ n ∧ n ≤ 65535 := by
  simp [Lit.wf, IntKind.min, IntKind.max, IntKind.signed, IntKind.bits] at h
  omega
end Go.Proofs.YtmfiagdelnddkaaGreat.Ab
