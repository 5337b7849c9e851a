/- Stage 9: airs, settings and states that come in. -/
import Derived.Test.YtnoeblpanfbpjaaGreatXu
import Derived.Test.YtnoeblpanfbpjaaGreatXa
namespace Go.Proofs.YtnoeblpanfbpjaaGreat.Ab
open Go Go.ChangeShapes Go.WideShapes Go.ChangeAt Go.RowKit Go.Deep Go.Joins

theorem Tryz.cells64 : Tryz.prog.cellsOf 64 = 2 := by kernel_rfl
theorem Tryz.cells71 : Tryz.prog.cellsOf 71 = 10 := by kernel_rfl
theorem Tryz.cells57 : Tryz.prog.cellsOf 57 = 2 := by kernel_rfl
theorem Tryz.cells125 : Tryz.prog.cellsOf 125 = 2 := by kernel_rfl
theorem Tryz.cells99 : Tryz.prog.cellsOf 99 = 4 := by kernel_rfl
theorem Tryz.cells61 : Tryz.prog.cellsOf 61 = 3 := by kernel_rfl
theorem Tryz.cells31 : Tryz.prog.cellsOf 31 = 2 := by kernel_rfl
theorem Tryz.cells35 : Tryz.prog.cellsOf 35 = 4 := by kernel_rfl
theorem Tryz.cells37 : Tryz.prog.cellsOf 37 = 2 := by kernel_rfl
theorem Tryz.cells39 : Tryz.prog.cellsOf 39 = 2 := by kernel_rfl
theorem Tryz.cells28 : Tryz.prog.cellsOf 28 = 1 := by kernel_rfl
theorem Tryz.cells29 : Tryz.prog.cellsOf 29 = 1 := by kernel_rfl
theorem Tryz.cells96 : Tryz.prog.cellsOf 96 = 1 := by kernel_rfl
theorem Tryz.cells32 : Tryz.prog.cellsOf 32 = 1 := by kernel_rfl
theorem Tryz.cells33 : Tryz.prog.cellsOf 33 = 1 := by kernel_rfl
theorem Tryz.cells23 : Tryz.prog.cellsOf 23 = 1 := by kernel_rfl
theorem list3 {α : Type} {l : List α} (h : l.length = 3) : ∃ a0 a1 a2, l = [a0, a1, a2] := by
  match l, h with
  | [a0, a1, a2], _ => exact ⟨a0, a1, a2, rfl⟩
theorem list8 {α : Type} {l : List α} (h : l.length = 8) : ∃ a0 a1 a2 a3 a4 a5 a6 a7, l = [a0, a1, a2, a3, a4, a5, a6, a7] := by
  match l, h with
  | [a0, a1, a2, a3, a4, a5, a6, a7], _ => exact ⟨a0, a1, a2, a3, a4, a5, a6, a7, rfl⟩
theorem list10 {α : Type} {l : List α} (h : l.length = 10) : ∃ a0 a1 a2 a3 a4 a5 a6 a7 a8 a9, l = [a0, a1, a2, a3, a4, a5, a6, a7, a8, a9] := by
  match l, h with
  | [a0, a1, a2, a3, a4, a5, a6, a7, a8, a9], _ => exact ⟨a0, a1, a2, a3, a4, a5, a6, a7, a8, a9, rfl⟩
section
variable {H : Type} {enc : TypeId × Value → H} {w : World} {base : Nat} {spare : Nat → Bool} {held : Bool}
def pointV (p : SPoint) : List Value := [.int .i64 p.Flow, .int .i64 p.Pressure]
theorem trod_pointS {n : Nat} {cs : List Value} {x : DataW H × List MemPlace} (h : DataW.trod enc Tryz.prog w base spare held n 125 cs = some x) : ∃ p : SPoint, cs = pointV p := by
  obtain ⟨xs, n, _, _, hl, hxl, hf⟩ := DataW.trod_struct Tryz.underlying125 h
  rw [Tryz.cells125] at hl
  obtain ⟨c0, c1, rfl⟩ := list2 hl
  obtain ⟨y0, y1, rfl⟩ := list2 (show xs.length = 2 from hxl)
  have h0 : DataW.trod enc Tryz.prog w base spare held n 3 (([c0, c1].drop 0).take (Tryz.prog.cellsOf 3)) = some y0 := hf 0 _ rfl
  have h1 : DataW.trod enc Tryz.prog w base spare held n 3 (([c0, c1].drop 1).take (Tryz.prog.cellsOf 3)) = some y1 := hf 1 _ rfl
  rw [Tryz.cells3] at h0
  rw [Tryz.cells3] at h1
  obtain ⟨a0, e0, _⟩ := DataW.trod_int Tryz.underlying3 h0
  obtain ⟨a1, e1, _⟩ := DataW.trod_int Tryz.underlying3 h1
  simp at e0 e1
  subst e0 e1
  exact ⟨⟨a0, a1⟩, rfl⟩
def spanV (p : SSpan) : List Value := [.int .i64 p.Low, .int .i64 p.High]
theorem trod_spanS {n : Nat} {cs : List Value} {x : DataW H × List MemPlace} (h : DataW.trod enc Tryz.prog w base spare held n 57 cs = some x) : ∃ p : SSpan, cs = spanV p := by
  obtain ⟨xs, n, _, _, hl, hxl, hf⟩ := DataW.trod_struct Tryz.underlying57 h
  rw [Tryz.cells57] at hl
  obtain ⟨c0, c1, rfl⟩ := list2 hl
  obtain ⟨y0, y1, rfl⟩ := list2 (show xs.length = 2 from hxl)
  have h0 : DataW.trod enc Tryz.prog w base spare held n 3 (([c0, c1].drop 0).take (Tryz.prog.cellsOf 3)) = some y0 := hf 0 _ rfl
  have h1 : DataW.trod enc Tryz.prog w base spare held n 3 (([c0, c1].drop 1).take (Tryz.prog.cellsOf 3)) = some y1 := hf 1 _ rfl
  rw [Tryz.cells3] at h0
  rw [Tryz.cells3] at h1
  obtain ⟨a0, e0, _⟩ := DataW.trod_int Tryz.underlying3 h0
  obtain ⟨a1, e1, _⟩ := DataW.trod_int Tryz.underlying3 h1
  simp at e0 e1
  subst e0 e1
  exact ⟨⟨a0, a1⟩, rfl⟩
def placeV9 (p : SPlace) : List Value := [.int .i64 p.Height, .bool p.Surface]
theorem trod_placeS {n : Nat} {cs : List Value} {x : DataW H × List MemPlace} (h : DataW.trod enc Tryz.prog w base spare held n 64 cs = some x) : ∃ p : SPlace, cs = placeV9 p := by
  obtain ⟨xs, n, _, _, hl, hxl, hf⟩ := DataW.trod_struct Tryz.underlying64 h
  rw [Tryz.cells64] at hl
  obtain ⟨c0, c1, rfl⟩ := list2 hl
  obtain ⟨y0, y1, rfl⟩ := list2 (show xs.length = 2 from hxl)
  have h0 : DataW.trod enc Tryz.prog w base spare held n 3 (([c0, c1].drop 0).take (Tryz.prog.cellsOf 3)) = some y0 := hf 0 _ rfl
  have h1 : DataW.trod enc Tryz.prog w base spare held n 4 (([c0, c1].drop 1).take (Tryz.prog.cellsOf 4)) = some y1 := hf 1 _ rfl
  rw [Tryz.cells3] at h0
  rw [Tryz.cells4] at h1
  obtain ⟨a0, e0, _⟩ := DataW.trod_int Tryz.underlying3 h0
  obtain ⟨a1, e1, _⟩ := DataW.trod_bool Tryz.underlying4 h1
  simp at e0 e1
  subst e0 e1
  exact ⟨⟨a0, a1⟩, rfl⟩
def roadV (p : SRoad) : List Value := [.int .i64 p.From, .int .i64 p.To, .int .i64 p.Length, .int .i64 p.Area, .bool p.Walk, .bool p.Closed, .int .i64 p.Rest.Low, .int .i64 p.Rest.High, .int .i64 p.Lift.Low, .int .i64 p.Lift.High]
theorem trod_roadS {n : Nat} {cs : List Value} {x : DataW H × List MemPlace} (h : DataW.trod enc Tryz.prog w base spare held n 71 cs = some x) : ∃ p : SRoad, cs = roadV p := by
  obtain ⟨xs, n, _, _, hl, hxl, hf⟩ := DataW.trod_struct Tryz.underlying71 h
  rw [Tryz.cells71] at hl
  obtain ⟨c0, c1, c2, c3, c4, c5, c6, c7, c8, c9, rfl⟩ := list10 hl
  obtain ⟨y0, y1, y2, y3, y4, y5, y6, y7, rfl⟩ := list8 (show xs.length = 8 from hxl)
  have h0 : DataW.trod enc Tryz.prog w base spare held n 3 (([c0, c1, c2, c3, c4, c5, c6, c7, c8, c9].drop 0).take (Tryz.prog.cellsOf 3)) = some y0 := hf 0 _ rfl
  have h1 : DataW.trod enc Tryz.prog w base spare held n 3 (([c0, c1, c2, c3, c4, c5, c6, c7, c8, c9].drop 1).take (Tryz.prog.cellsOf 3)) = some y1 := hf 1 _ rfl
  have h2 : DataW.trod enc Tryz.prog w base spare held n 3 (([c0, c1, c2, c3, c4, c5, c6, c7, c8, c9].drop 2).take (Tryz.prog.cellsOf 3)) = some y2 := hf 2 _ rfl
  have h3 : DataW.trod enc Tryz.prog w base spare held n 3 (([c0, c1, c2, c3, c4, c5, c6, c7, c8, c9].drop 3).take (Tryz.prog.cellsOf 3)) = some y3 := hf 3 _ rfl
  have h4 : DataW.trod enc Tryz.prog w base spare held n 4 (([c0, c1, c2, c3, c4, c5, c6, c7, c8, c9].drop 4).take (Tryz.prog.cellsOf 4)) = some y4 := hf 4 _ rfl
  have h5 : DataW.trod enc Tryz.prog w base spare held n 4 (([c0, c1, c2, c3, c4, c5, c6, c7, c8, c9].drop 5).take (Tryz.prog.cellsOf 4)) = some y5 := hf 5 _ rfl
  have h6 : DataW.trod enc Tryz.prog w base spare held n 57 (([c0, c1, c2, c3, c4, c5, c6, c7, c8, c9].drop 6).take (Tryz.prog.cellsOf 57)) = some y6 := hf 6 _ rfl
  have h7 : DataW.trod enc Tryz.prog w base spare held n 57 (([c0, c1, c2, c3, c4, c5, c6, c7, c8, c9].drop 8).take (Tryz.prog.cellsOf 57)) = some y7 := hf 7 _ rfl
  rw [Tryz.cells3] at h0
  rw [Tryz.cells3] at h1
  rw [Tryz.cells3] at h2
  rw [Tryz.cells3] at h3
  rw [Tryz.cells4] at h4
  rw [Tryz.cells4] at h5
  rw [Tryz.cells57] at h6
  rw [Tryz.cells57] at h7
  obtain ⟨a0, e0, _⟩ := DataW.trod_int Tryz.underlying3 h0
  obtain ⟨a1, e1, _⟩ := DataW.trod_int Tryz.underlying3 h1
  obtain ⟨a2, e2, _⟩ := DataW.trod_int Tryz.underlying3 h2
  obtain ⟨a3, e3, _⟩ := DataW.trod_int Tryz.underlying3 h3
  obtain ⟨a4, e4, _⟩ := DataW.trod_bool Tryz.underlying4 h4
  obtain ⟨a5, e5, _⟩ := DataW.trod_bool Tryz.underlying4 h5
  obtain ⟨a6, e6⟩ := trod_spanS h6
  obtain ⟨a7, e7⟩ := trod_spanS h7
  simp [spanV] at e0 e1 e2 e3 e4 e5 e6 e7
  obtain ⟨e6, f6⟩ := e6
  obtain ⟨e7, f7⟩ := e7
  subst e0 e1 e2 e3 e4 e5 e6 e7 f6 f7
  exact ⟨⟨a0, a1, a2, a3, a4, a5, a6, a7⟩, rfl⟩
def intV9 (a : Int) : List Value := [.int .i64 a]
theorem trod_int9 {n : Nat} {cs : List Value} {x : DataW H × List MemPlace} (h : DataW.trod enc Tryz.prog w base spare held n 3 cs = some x) : ∃ a : Int, cs = intV9 a := by
  obtain ⟨a, e, _⟩ := DataW.trod_int Tryz.underlying3 h
  exact ⟨a, e⟩

theorem slc_int {n : Nat} {cs : List Value} {x : DataW H × List MemPlace} (h : DataW.trod enc Tryz.prog w base spare held n 23 cs = some x) : ∃ (v : Value) (s : Sq Int), cs = [v] ∧ ∀ M : Nat → Prop, (∀ g, ¬ M g) → PR w M (.slc 1 s.n fun k => [.int .i64 (s.f k)]) v := by
  obtain ⟨v, l, e, hs⟩ := open_sl intV9 (sz := 1) Tryz.underlying23 Tryz.cells3 (by omega) (fun _ => rfl) trod_int9 h
  refine ⟨v, ⟨l.length, fun k => l.getD k 0⟩, e, fun M hM => pr_of_sl hM intV9 (fun p => [.int .i64 p]) 0 (fun _ => rfl) (fun _ => rfl) (fun a j hj => ?_) hs⟩
  have hj : j < 1 := hj
  match j, hj with
  | 0, _ => exact ⟨.int _ _, rfl⟩
theorem slc_point {n : Nat} {cs : List Value} {x : DataW H × List MemPlace} (h : DataW.trod enc Tryz.prog w base spare held n 96 cs = some x) : ∃ (v : Value) (s : Sq SPoint), cs = [v] ∧ ∀ M : Nat → Prop, (∀ g, ¬ M g) → PR w M (.slc 2 s.n fun k => (SPoint.enc (s.f k))) v := by
  obtain ⟨v, l, e, hs⟩ := open_sl pointV (sz := 2) Tryz.underlying96 Tryz.cells125 (by omega) (fun _ => rfl) trod_pointS h
  refine ⟨v, ⟨l.length, fun k => l.getD k ⟨0, 0⟩⟩, e, fun M hM => pr_of_sl hM pointV (fun p => (SPoint.enc p)) ⟨0, 0⟩ (fun _ => rfl) (fun _ => rfl) (fun a j hj => ?_) hs⟩
  have hj : j < 2 := hj
  match j, hj with
  | 0, _ => exact ⟨.int _ _, rfl⟩
  | 1, _ => exact ⟨.int _ _, rfl⟩
theorem slc_place {n : Nat} {cs : List Value} {x : DataW H × List MemPlace} (h : DataW.trod enc Tryz.prog w base spare held n 28 cs = some x) : ∃ (v : Value) (s : Sq SPlace), cs = [v] ∧ ∀ M : Nat → Prop, (∀ g, ¬ M g) → PR w M (.slc 2 s.n fun k => (SPlace.enc (s.f k))) v := by
  obtain ⟨v, l, e, hs⟩ := open_sl placeV9 (sz := 2) Tryz.underlying28 Tryz.cells64 (by omega) (fun _ => rfl) trod_placeS h
  refine ⟨v, ⟨l.length, fun k => l.getD k ⟨0, false⟩⟩, e, fun M hM => pr_of_sl hM placeV9 (fun p => (SPlace.enc p)) ⟨0, false⟩ (fun _ => rfl) (fun _ => rfl) (fun a j hj => ?_) hs⟩
  have hj : j < 2 := hj
  match j, hj with
  | 0, _ => exact ⟨.int _ _, rfl⟩
  | 1, _ => exact ⟨.bool _, rfl⟩
theorem slc_road {n : Nat} {cs : List Value} {x : DataW H × List MemPlace} (h : DataW.trod enc Tryz.prog w base spare held n 29 cs = some x) : ∃ (v : Value) (s : Sq SRoad), cs = [v] ∧ ∀ M : Nat → Prop, (∀ g, ¬ M g) → PR w M (.slc 10 s.n fun k => (SRoad.enc (s.f k))) v := by
  obtain ⟨v, l, e, hs⟩ := open_sl roadV (sz := 10) Tryz.underlying29 Tryz.cells71 (by omega) (fun _ => rfl) trod_roadS h
  refine ⟨v, ⟨l.length, fun k => l.getD k ⟨0, 0, 0, 0, false, false, ⟨0, 0⟩, ⟨0, 0⟩⟩⟩, e, fun M hM => pr_of_sl hM roadV (fun p => (SRoad.enc p)) ⟨0, 0, 0, 0, false, false, ⟨0, 0⟩, ⟨0, 0⟩⟩ (fun _ => rfl) (fun _ => rfl) (fun a j hj => ?_) hs⟩
  have hj : j < 10 := hj
  match j, hj with
  | 0, _ => exact ⟨.int _ _, rfl⟩
  | 1, _ => exact ⟨.int _ _, rfl⟩
  | 2, _ => exact ⟨.int _ _, rfl⟩
  | 3, _ => exact ⟨.int _ _, rfl⟩
  | 4, _ => exact ⟨.bool _, rfl⟩
  | 5, _ => exact ⟨.bool _, rfl⟩
  | 6, _ => exact ⟨.int _ _, rfl⟩
  | 7, _ => exact ⟨.int _ _, rfl⟩
  | 8, _ => exact ⟨.int _ _, rfl⟩
  | 9, _ => exact ⟨.int _ _, rfl⟩
structure FanC9 (w : World) where
  x : SFan
  v : Value
  pr : ∀ M : Nat → Prop, (∀ g, ¬ M g) → PR w M (.slc 2 x.Curve.n fun k => (SPoint.enc (x.Curve.f k))) v
def fanV9 (a : FanC9 w) : List Value := [.int .i64 a.x.Road, .bool a.x.Back, .bool a.x.Auxiliary, a.v]
theorem trod_fanS {n : Nat} {cs : List Value} {x : DataW H × List MemPlace} (h : DataW.trod enc Tryz.prog w base spare held n 99 cs = some x) : ∃ a : FanC9 w, cs = fanV9 a := by
  obtain ⟨xs, n, _, _, hl, hxl, hf⟩ := DataW.trod_struct Tryz.underlying99 h
  rw [Tryz.cells99] at hl
  obtain ⟨c0, c1, c2, c3, rfl⟩ := list4 hl
  obtain ⟨y0, y1, y2, y3, rfl⟩ := list4 (show xs.length = 4 from hxl)
  have h0 : DataW.trod enc Tryz.prog w base spare held n 3 (([c0, c1, c2, c3].drop 0).take (Tryz.prog.cellsOf 3)) = some y0 := hf 0 _ rfl
  have h1 : DataW.trod enc Tryz.prog w base spare held n 4 (([c0, c1, c2, c3].drop 1).take (Tryz.prog.cellsOf 4)) = some y1 := hf 1 _ rfl
  have h2 : DataW.trod enc Tryz.prog w base spare held n 4 (([c0, c1, c2, c3].drop 2).take (Tryz.prog.cellsOf 4)) = some y2 := hf 2 _ rfl
  have h3 : DataW.trod enc Tryz.prog w base spare held n 96 (([c0, c1, c2, c3].drop 3).take (Tryz.prog.cellsOf 96)) = some y3 := hf 3 _ rfl
  rw [Tryz.cells3] at h0
  rw [Tryz.cells4] at h1
  rw [Tryz.cells4] at h2
  rw [Tryz.cells96] at h3
  obtain ⟨a0, e0, _⟩ := DataW.trod_int Tryz.underlying3 h0
  obtain ⟨a1, e1, _⟩ := DataW.trod_bool Tryz.underlying4 h1
  obtain ⟨a2, e2, _⟩ := DataW.trod_bool Tryz.underlying4 h2
  obtain ⟨v, s, e3, pr⟩ := slc_point h3
  simp at e0 e1 e2 e3
  subst e0 e1 e2 e3
  exact ⟨⟨⟨a0, a1, a2, s⟩, c3, pr⟩, rfl⟩
theorem slc_fan {n : Nat} {cs : List Value} {x : DataW H × List MemPlace} (h : DataW.trod enc Tryz.prog w base spare held n 32 cs = some x) : ∃ (v : Value) (s : Sq SFan), cs = [v] ∧ ∀ M : Nat → Prop, (∀ g, ¬ M g) → PR w M (.slc 4 s.n fun k => (SFan.enc (s.f k))) v := by
  obtain ⟨v, l, e, hs⟩ := open_sl (fanV9 (w := w)) (sz := 4) Tryz.underlying32 Tryz.cells99 (by omega) (fun _ => rfl) trod_fanS h
  let z : FanC9 w := ⟨⟨0, false, false, ⟨0, fun _ => ⟨0, 0⟩⟩⟩, .slice none 0 0, fun _ _ => .slc0 _ _ _ (.inl rfl)⟩
  refine ⟨v, ⟨l.length, fun k => (l.getD k z).x⟩, e, fun M hM => pr_of_sl hM fanV9 (fun a => SFan.enc a.x) z (fun _ => rfl) (fun _ => rfl) (fun a j hj => ?_) hs⟩
  have hj : j < 4 := hj
  match j, hj with
  | 0, _ => exact ⟨.int _ _, rfl⟩
  | 1, _ => exact ⟨.bool _, rfl⟩
  | 2, _ => exact ⟨.bool _, rfl⟩
  | 3, _ => exact ⟨a.pr M hM, (VR.pure (σ := fun _ => undef) (V := fun _ => none) (a.pr M hM)).one rfl⟩
structure DoorC9 (w : World) where
  x : SDoor
  v : Value
  pr : ∀ M : Nat → Prop, (∀ g, ¬ M g) → PR w M (.slc 1 x.Rests.n fun k => [.int .i64 (x.Rests.f k)]) v
def doorV9 (a : DoorC9 w) : List Value := [.int .i64 a.x.Road, .int .i64 a.x.Other, a.v]
theorem trod_doorS {n : Nat} {cs : List Value} {x : DataW H × List MemPlace} (h : DataW.trod enc Tryz.prog w base spare held n 61 cs = some x) : ∃ a : DoorC9 w, cs = doorV9 a := by
  obtain ⟨xs, n, _, _, hl, hxl, hf⟩ := DataW.trod_struct Tryz.underlying61 h
  rw [Tryz.cells61] at hl
  obtain ⟨c0, c1, c2, rfl⟩ := list3 hl
  obtain ⟨y0, y1, y2, rfl⟩ := list3 (show xs.length = 3 from hxl)
  have h0 : DataW.trod enc Tryz.prog w base spare held n 3 (([c0, c1, c2].drop 0).take (Tryz.prog.cellsOf 3)) = some y0 := hf 0 _ rfl
  have h1 : DataW.trod enc Tryz.prog w base spare held n 3 (([c0, c1, c2].drop 1).take (Tryz.prog.cellsOf 3)) = some y1 := hf 1 _ rfl
  have h2 : DataW.trod enc Tryz.prog w base spare held n 23 (([c0, c1, c2].drop 2).take (Tryz.prog.cellsOf 23)) = some y2 := hf 2 _ rfl
  rw [Tryz.cells3] at h0
  rw [Tryz.cells3] at h1
  rw [Tryz.cells23] at h2
  obtain ⟨a0, e0, _⟩ := DataW.trod_int Tryz.underlying3 h0
  obtain ⟨a1, e1, _⟩ := DataW.trod_int Tryz.underlying3 h1
  obtain ⟨v, s, e2, pr⟩ := slc_int h2
  simp at e0 e1 e2
  subst e0 e1 e2
  exact ⟨⟨⟨a0, a1, s⟩, c2, pr⟩, rfl⟩
theorem slc_door {n : Nat} {cs : List Value} {x : DataW H × List MemPlace} (h : DataW.trod enc Tryz.prog w base spare held n 33 cs = some x) : ∃ (v : Value) (s : Sq SDoor), cs = [v] ∧ ∀ M : Nat → Prop, (∀ g, ¬ M g) → PR w M (.slc 3 s.n fun k => (SDoor.enc (s.f k))) v := by
  obtain ⟨v, l, e, hs⟩ := open_sl (doorV9 (w := w)) (sz := 3) Tryz.underlying33 Tryz.cells61 (by omega) (fun _ => rfl) trod_doorS h
  let z : DoorC9 w := ⟨⟨0, 0, ⟨0, fun _ => 0⟩⟩, .slice none 0 0, fun _ _ => .slc0 _ _ _ (.inl rfl)⟩
  refine ⟨v, ⟨l.length, fun k => (l.getD k z).x⟩, e, fun M hM => pr_of_sl hM doorV9 (fun a => SDoor.enc a.x) z (fun _ => rfl) (fun _ => rfl) (fun a j hj => ?_) hs⟩
  have hj : j < 3 := hj
  match j, hj with
  | 0, _ => exact ⟨.int _ _, rfl⟩
  | 1, _ => exact ⟨.int _ _, rfl⟩
  | 2, _ => exact ⟨a.pr M hM, (VR.pure (σ := fun _ => undef) (V := fun _ => none) (a.pr M hM)).one rfl⟩
theorem trod_mineS {n : Nat} {cs : List Value} {x : DataW H × List MemPlace} (h : DataW.trod enc Tryz.prog w base spare held n 31 cs = some x) : ∃ (v0 v1 : Value) (s0 : Sq SPlace) (s1 : Sq SRoad), cs = [v0, v1] ∧ (∀ M : Nat → Prop, (∀ g, ¬ M g) → PR w M (.slc 2 s0.n fun k => (SPlace.enc (s0.f k))) v0) ∧ (∀ M : Nat → Prop, (∀ g, ¬ M g) → PR w M (.slc 10 s1.n fun k => (SRoad.enc (s1.f k))) v1) := by
  obtain ⟨xs, n, _, _, hl, hxl, hf⟩ := DataW.trod_struct Tryz.underlying31 h
  rw [Tryz.cells31] at hl
  obtain ⟨c0, c1, rfl⟩ := list2 hl
  obtain ⟨y0, y1, rfl⟩ := list2 (show xs.length = 2 from hxl)
  have h0 : DataW.trod enc Tryz.prog w base spare held n 28 (([c0, c1].drop 0).take (Tryz.prog.cellsOf 28)) = some y0 := hf 0 _ rfl
  have h1 : DataW.trod enc Tryz.prog w base spare held n 29 (([c0, c1].drop 1).take (Tryz.prog.cellsOf 29)) = some y1 := hf 1 _ rfl
  rw [Tryz.cells28] at h0
  rw [Tryz.cells29] at h1
  obtain ⟨v0, s0, e0, p0⟩ := slc_place h0
  obtain ⟨v1, s1, e1, p1⟩ := slc_road h1
  simp at e0 e1
  subst e0 e1
  exact ⟨_, _, s0, s1, rfl, p0, p1⟩
set_option maxRecDepth 100000 in
theorem open_air {r : Reach} {b0 : Nat} {v : Value} {d : DataW H} {p : List MemPlace} (hv : Value.okWide Tryz.prog w r b0 35 v) (h : DataW.Trod enc Tryz.prog w base spare held 35 v d p) :
    ∃ raw : SAir, ∀ (M : Nat → Prop) (σ : Nat → Value) (V : Nat → Option Nat), (∀ g, ¬ M g) → VR w M σ V (.agg [.slc 2 raw.Mine.Places.n (fun k => (SPlace.enc (raw.Mine.Places.f k))), .slc 10 raw.Mine.Roads.n (fun k => (SRoad.enc (raw.Mine.Roads.f k))), .slc 4 raw.Fans.n (fun k => (SFan.enc (raw.Fans.f k))), .slc 3 raw.Doors.n (fun k => (SDoor.enc (raw.Doors.f k)))]) v := by
  obtain ⟨cs, rfl, hsz⟩ := okWide_struct Tryz.underlying35 hv
  obtain ⟨fuel, hf⟩ := h
  obtain ⟨xs, n, _, _, hl, hxl, hf⟩ := DataW.trod_struct Tryz.underlying35 hf
  rw [Tryz.cells35] at hl
  obtain ⟨c0, c1, c2, c3, hc⟩ := list4 hl
  obtain ⟨y0, y1, y2, rfl⟩ := list3 (show xs.length = 3 from hxl)
  rw [hc] at hf
  have h0 : DataW.trod enc Tryz.prog w base spare held n 31 (([c0, c1, c2, c3].drop 0).take (Tryz.prog.cellsOf 31)) = some y0 := hf 0 _ rfl
  have h1 : DataW.trod enc Tryz.prog w base spare held n 32 (([c0, c1, c2, c3].drop 2).take (Tryz.prog.cellsOf 32)) = some y1 := hf 1 _ rfl
  have h2 : DataW.trod enc Tryz.prog w base spare held n 33 (([c0, c1, c2, c3].drop 3).take (Tryz.prog.cellsOf 33)) = some y2 := hf 2 _ rfl
  rw [Tryz.cells31] at h0
  rw [Tryz.cells32] at h1
  rw [Tryz.cells33] at h2
  obtain ⟨v0, v1, s0, s1, e0, p0, p1⟩ := trod_mineS h0
  obtain ⟨v2, s2, e1, p2⟩ := slc_fan h1
  obtain ⟨v3, s3, e2, p3⟩ := slc_door h2
  simp at e0 e1 e2
  obtain ⟨e0, e3⟩ := e0
  subst e0 e1 e2 e3
  have hcs : cs = #[c0, c1, c2, c3] := by
    simp only [Value.cells] at hc
    exact Array.ext' hc
  subst hcs
  refine ⟨⟨⟨s0, s1⟩, s2, s3⟩, fun M σ V hM => .agg _ _ rfl fun i hi => ?_⟩
  match i, hi with
  | 0, _ => exact .pure (p0 M hM)
  | 1, _ => exact .pure (p1 M hM)
  | 2, _ => exact .pure (p2 M hM)
  | 3, _ => exact .pure (p3 M hM)
set_option maxRecDepth 100000 in
theorem open_setting {r : Reach} {b0 : Nat} {v : Value} {d : DataW H} {p : List MemPlace} (hv : Value.okWide Tryz.prog w r b0 37 v) (h : DataW.Trod enc Tryz.prog w base spare held 37 v d p) :
    ∃ raw : SSetting, ∀ (M : Nat → Prop) (σ : Nat → Value) (V : Nat → Option Nat), (∀ g, ¬ M g) → VR w M σ V (.agg [.slc 1 raw.Fans.n (fun k => [.int .i64 (raw.Fans.f k)]), .slc 1 raw.Doors.n (fun k => [.int .i64 (raw.Doors.f k)])]) v := by
  obtain ⟨cs, rfl, hsz⟩ := okWide_struct Tryz.underlying37 hv
  obtain ⟨fuel, hf⟩ := h
  obtain ⟨xs, n, _, _, hl, hxl, hf⟩ := DataW.trod_struct Tryz.underlying37 hf
  rw [Tryz.cells37] at hl
  obtain ⟨c0, c1, hc⟩ := list2 hl
  obtain ⟨y0, y1, rfl⟩ := list2 (show xs.length = 2 from hxl)
  rw [hc] at hf
  have h0 : DataW.trod enc Tryz.prog w base spare held n 23 (([c0, c1].drop 0).take (Tryz.prog.cellsOf 23)) = some y0 := hf 0 _ rfl
  have h1 : DataW.trod enc Tryz.prog w base spare held n 23 (([c0, c1].drop 1).take (Tryz.prog.cellsOf 23)) = some y1 := hf 1 _ rfl
  rw [Tryz.cells23] at h0
  rw [Tryz.cells23] at h1
  obtain ⟨v0, s0, e0, p0⟩ := slc_int h0
  obtain ⟨v1, s1, e1, p1⟩ := slc_int h1
  simp at e0 e1
  subst e0 e1
  have hcs : cs = #[c0, c1] := by
    simp only [Value.cells] at hc
    exact Array.ext' hc
  subst hcs
  refine ⟨⟨s0, s1⟩, fun M σ V hM => .agg _ _ rfl fun i hi => ?_⟩
  match i, hi with
  | 0, _ => exact .pure (p0 M hM)
  | 1, _ => exact .pure (p1 M hM)
set_option maxRecDepth 100000 in
theorem open_state {r : Reach} {b0 : Nat} {v : Value} {d : DataW H} {p : List MemPlace} (hv : Value.okWide Tryz.prog w r b0 39 v) (h : DataW.Trod enc Tryz.prog w base spare held 39 v d p) :
    ∃ raw : SState, ∀ (M : Nat → Prop) (σ : Nat → Value) (V : Nat → Option Nat), (∀ g, ¬ M g) → VR w M σ V (.agg [.slc 1 raw.Pressures.n (fun k => [.int .i64 (raw.Pressures.f k)]), .slc 1 raw.Flows.n (fun k => [.int .i64 (raw.Flows.f k)])]) v := by
  obtain ⟨cs, rfl, hsz⟩ := okWide_struct Tryz.underlying39 hv
  obtain ⟨fuel, hf⟩ := h
  obtain ⟨xs, n, _, _, hl, hxl, hf⟩ := DataW.trod_struct Tryz.underlying39 hf
  rw [Tryz.cells39] at hl
  obtain ⟨c0, c1, hc⟩ := list2 hl
  obtain ⟨y0, y1, rfl⟩ := list2 (show xs.length = 2 from hxl)
  rw [hc] at hf
  have h0 : DataW.trod enc Tryz.prog w base spare held n 23 (([c0, c1].drop 0).take (Tryz.prog.cellsOf 23)) = some y0 := hf 0 _ rfl
  have h1 : DataW.trod enc Tryz.prog w base spare held n 23 (([c0, c1].drop 1).take (Tryz.prog.cellsOf 23)) = some y1 := hf 1 _ rfl
  rw [Tryz.cells23] at h0
  rw [Tryz.cells23] at h1
  obtain ⟨v0, s0, e0, p0⟩ := slc_int h0
  obtain ⟨v1, s1, e1, p1⟩ := slc_int h1
  simp at e0 e1
  subst e0 e1
  have hcs : cs = #[c0, c1] := by
    simp only [Value.cells] at hc
    exact Array.ext' hc
  subst hcs
  refine ⟨⟨s0, s1⟩, fun M σ V hM => .agg _ _ rfl fun i hi => ?_⟩
  match i, hi with
  | 0, _ => exact .pure (p0 M hM)
  | 1, _ => exact .pure (p1 M hM)
end
theorem bounds_u16 {n : Int} (h : (Lit.int .u16 n).wf = true) : 0 ≤ n ∧ n ≤ 65535 := by
  simp [Lit.wf, IntKind.min, IntKind.max, IntKind.signed, IntKind.bits] at h
  omega
end Go.Proofs.YtnoeblpanfbpjaaGreat.Ab
