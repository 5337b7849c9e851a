/- Stage 1: mines that come in (out of XXv). -/
import Derived.Test.YtkgcicbipcifdaaXu
import Derived.Test.YtkgcicbipcifdaaL1a
namespace Go.Proofs.Ytkgcicbipcifdaa.Ab
open Go Go.ChangeShapes Go.WideShapes Go.ChangeAt Go.RowKit Go.Deep Go.Joins

theorem Try.cells45 : Try.prog.cellsOf 45 = 2 := by kernel_rfl
theorem Try.cells51 : Try.prog.cellsOf 51 = 10 := by kernel_rfl
theorem Try.cells49 : Try.prog.cellsOf 49 = 2 := by kernel_rfl
theorem Try.cells26 : Try.prog.cellsOf 26 = 2 := by kernel_rfl
theorem Try.cells23 : Try.prog.cellsOf 23 = 1 := by kernel_rfl
theorem Try.cells24 : Try.prog.cellsOf 24 = 1 := by kernel_rfl
theorem list8 {α : Type} {l : List α} (h : l.length = 8) : ∃ a0 a1 a2 a3 a4 a5 a6 a7, l = [a0, a1, a2, a3, a4, a5, a6, a7] := by
  match l, h with
  | [a0, a1, a2, a3, a4, a5, a6, a7], _ => exact ⟨a0, a1, a2, a3, a4, a5, a6, a7, rfl⟩
theorem list10 {α : Type} {l : List α} (h : l.length = 10) : ∃ a0 a1 a2 a3 a4 a5 a6 a7 a8 a9, l = [a0, a1, a2, a3, a4, a5, a6, a7, a8, a9] := by
  match l, h with
  | [a0, a1, a2, a3, a4, a5, a6, a7, a8, a9], _ => exact ⟨a0, a1, a2, a3, a4, a5, a6, a7, a8, a9, rfl⟩
section
variable {H : Type} {enc : TypeId × Value → H} {w : World} {base : Nat} {spare : Nat → Bool} {held : Bool}
def spanV (p : SSpan) : List Value := [.int .i64 p.Low, .int .i64 p.High]
theorem trod_spanS {n : Nat} {cs : List Value} {x : DataW H × List MemPlace} (h : DataW.trod enc Try.prog w base spare held n 49 cs = some x) : ∃ p : SSpan, cs = spanV p := by
  obtain ⟨xs, n, _, _, hl, hxl, hf⟩ := DataW.trod_struct Try.underlying49 h
  rw [Try.cells49] at hl
  obtain ⟨c0, c1, rfl⟩ := list2 hl
  obtain ⟨y0, y1, rfl⟩ := list2 (show xs.length = 2 from hxl)
  have h0 : DataW.trod enc Try.prog w base spare held n 3 (([c0, c1].drop 0).take (Try.prog.cellsOf 3)) = some y0 := hf 0 _ rfl
  have h1 : DataW.trod enc Try.prog w base spare held n 3 (([c0, c1].drop 1).take (Try.prog.cellsOf 3)) = some y1 := hf 1 _ rfl
  rw [Try.cells3] at h0
  rw [Try.cells3] at h1
  obtain ⟨a0, e0, _⟩ := DataW.trod_int Try.underlying3 h0
  obtain ⟨a1, e1, _⟩ := DataW.trod_int Try.underlying3 h1
  simp at e0 e1
  subst e0 e1
  exact ⟨⟨a0, a1⟩, rfl⟩
def placeV9 (p : SPlace) : List Value := [.int .i64 p.Height, .bool p.Surface]
theorem trod_placeS {n : Nat} {cs : List Value} {x : DataW H × List MemPlace} (h : DataW.trod enc Try.prog w base spare held n 45 cs = some x) : ∃ p : SPlace, cs = placeV9 p := by
  obtain ⟨xs, n, _, _, hl, hxl, hf⟩ := DataW.trod_struct Try.underlying45 h
  rw [Try.cells45] at hl
  obtain ⟨c0, c1, rfl⟩ := list2 hl
  obtain ⟨y0, y1, rfl⟩ := list2 (show xs.length = 2 from hxl)
  have h0 : DataW.trod enc Try.prog w base spare held n 3 (([c0, c1].drop 0).take (Try.prog.cellsOf 3)) = some y0 := hf 0 _ rfl
  have h1 : DataW.trod enc Try.prog w base spare held n 4 (([c0, c1].drop 1).take (Try.prog.cellsOf 4)) = some y1 := hf 1 _ rfl
  rw [Try.cells3] at h0
  rw [Try.cells4] at h1
  obtain ⟨a0, e0, _⟩ := DataW.trod_int Try.underlying3 h0
  obtain ⟨a1, e1, _⟩ := DataW.trod_bool Try.underlying4 h1
  simp at e0 e1
  subst e0 e1
  exact ⟨⟨a0, a1⟩, rfl⟩
def roadV (p : SRoad) : List Value := [.int .i64 p.From, .int .i64 p.To, .int .i64 p.Length, .int .i64 p.Area, .bool p.Walk, .bool p.Closed, .int .i64 p.Rest.Low, .int .i64 p.Rest.High, .int .i64 p.Lift.Low, .int .i64 p.Lift.High]
theorem trod_roadS {n : Nat} {cs : List Value} {x : DataW H × List MemPlace} (h : DataW.trod enc Try.prog w base spare held n 51 cs = some x) : ∃ p : SRoad, cs = roadV p := by
  obtain ⟨xs, n, _, _, hl, hxl, hf⟩ := DataW.trod_struct Try.underlying51 h
  rw [Try.cells51] at hl
  obtain ⟨c0, c1, c2, c3, c4, c5, c6, c7, c8, c9, rfl⟩ := list10 hl
  obtain ⟨y0, y1, y2, y3, y4, y5, y6, y7, rfl⟩ := list8 (show xs.length = 8 from hxl)
  have h0 : DataW.trod enc Try.prog w base spare held n 3 (([c0, c1, c2, c3, c4, c5, c6, c7, c8, c9].drop 0).take (Try.prog.cellsOf 3)) = some y0 := hf 0 _ rfl
  have h1 : DataW.trod enc Try.prog w base spare held n 3 (([c0, c1, c2, c3, c4, c5, c6, c7, c8, c9].drop 1).take (Try.prog.cellsOf 3)) = some y1 := hf 1 _ rfl
  have h2 : DataW.trod enc Try.prog w base spare held n 3 (([c0, c1, c2, c3, c4, c5, c6, c7, c8, c9].drop 2).take (Try.prog.cellsOf 3)) = some y2 := hf 2 _ rfl
  have h3 : DataW.trod enc Try.prog w base spare held n 3 (([c0, c1, c2, c3, c4, c5, c6, c7, c8, c9].drop 3).take (Try.prog.cellsOf 3)) = some y3 := hf 3 _ rfl
  have h4 : DataW.trod enc Try.prog w base spare held n 4 (([c0, c1, c2, c3, c4, c5, c6, c7, c8, c9].drop 4).take (Try.prog.cellsOf 4)) = some y4 := hf 4 _ rfl
  have h5 : DataW.trod enc Try.prog w base spare held n 4 (([c0, c1, c2, c3, c4, c5, c6, c7, c8, c9].drop 5).take (Try.prog.cellsOf 4)) = some y5 := hf 5 _ rfl
  have h6 : DataW.trod enc Try.prog w base spare held n 49 (([c0, c1, c2, c3, c4, c5, c6, c7, c8, c9].drop 6).take (Try.prog.cellsOf 49)) = some y6 := hf 6 _ rfl
  have h7 : DataW.trod enc Try.prog w base spare held n 49 (([c0, c1, c2, c3, c4, c5, c6, c7, c8, c9].drop 8).take (Try.prog.cellsOf 49)) = some y7 := hf 7 _ rfl
  rw [Try.cells3] at h0
  rw [Try.cells3] at h1
  rw [Try.cells3] at h2
  rw [Try.cells3] at h3
  rw [Try.cells4] at h4
  rw [Try.cells4] at h5
  rw [Try.cells49] at h6
  rw [Try.cells49] at h7
  obtain ⟨a0, e0, _⟩ := DataW.trod_int Try.underlying3 h0
  obtain ⟨a1, e1, _⟩ := DataW.trod_int Try.underlying3 h1
  obtain ⟨a2, e2, _⟩ := DataW.trod_int Try.underlying3 h2
  obtain ⟨a3, e3, _⟩ := DataW.trod_int Try.underlying3 h3
  obtain ⟨a4, e4, _⟩ := DataW.trod_bool Try.underlying4 h4
  obtain ⟨a5, e5, _⟩ := DataW.trod_bool Try.underlying4 h5
  obtain ⟨a6, e6⟩ := trod_spanS h6
  obtain ⟨a7, e7⟩ := trod_spanS h7
  simp [spanV] at e0 e1 e2 e3 e4 e5 e6 e7
  obtain ⟨e6, f6⟩ := e6
  obtain ⟨e7, f7⟩ := e7
  subst e0 e1 e2 e3 e4 e5 e6 e7 f6 f7
  exact ⟨⟨a0, a1, a2, a3, a4, a5, a6, a7⟩, rfl⟩
theorem slc_place {n : Nat} {cs : List Value} {x : DataW H × List MemPlace} (h : DataW.trod enc Try.prog w base spare held n 23 cs = some x) : ∃ (v : Value) (s : Sq SPlace), cs = [v] ∧ ∀ M : Nat → Prop, (∀ g, ¬ M g) → PR w M (.slc 2 s.n fun k => (SPlace.enc (s.f k))) v := by
  obtain ⟨v, l, e, hs⟩ := open_sl placeV9 (sz := 2) Try.underlying23 Try.cells45 (by omega) (fun _ => rfl) trod_placeS h
  refine ⟨v, ⟨l.length, fun k => l.getD k ⟨0, false⟩⟩, e, fun M hM => pr_of_sl hM placeV9 (fun p => (SPlace.enc p)) ⟨0, false⟩ (fun _ => rfl) (fun _ => rfl) (fun a j hj => ?_) hs⟩
  have hj : j < 2 := hj
  match j, hj with
  | 0, _ => exact ⟨.int _ _, rfl⟩
  | 1, _ => exact ⟨.bool _, rfl⟩
theorem slc_road {n : Nat} {cs : List Value} {x : DataW H × List MemPlace} (h : DataW.trod enc Try.prog w base spare held n 24 cs = some x) : ∃ (v : Value) (s : Sq SRoad), cs = [v] ∧ ∀ M : Nat → Prop, (∀ g, ¬ M g) → PR w M (.slc 10 s.n fun k => (SRoad.enc (s.f k))) v := by
  obtain ⟨v, l, e, hs⟩ := open_sl roadV (sz := 10) Try.underlying24 Try.cells51 (by omega) (fun _ => rfl) trod_roadS h
  refine ⟨v, ⟨l.length, fun k => l.getD k ⟨0, 0, 0, 0, false, false, ⟨0, 0⟩, ⟨0, 0⟩⟩⟩, e, fun M hM => pr_of_sl hM roadV (fun p => (SRoad.enc p)) ⟨0, 0, 0, 0, false, false, ⟨0, 0⟩, ⟨0, 0⟩⟩ (fun _ => rfl) (fun _ => rfl) (fun a j hj => ?_) hs⟩
  have hj : j < 10 := hj
  match j, hj with
  | 0, _ => exact ⟨.int _ _, rfl⟩
  | 1, _ => exact ⟨.int _ _, rfl⟩
  | 2, _ => exact ⟨.int _ _, rfl⟩
  | 3, _ => exact ⟨.int _ _, rfl⟩
  | 4, _ => exact ⟨.bool _, rfl⟩
  | 5, _ => exact ⟨.bool _, rfl⟩
  | 6, _ => exact ⟨.int _ _, rfl⟩
  | 7, _ => exact ⟨.int _ _, rfl⟩
  | 8, _ => exact ⟨.int _ _, rfl⟩
  | 9, _ => exact ⟨.int _ _, rfl⟩
theorem trod_mineS {n : Nat} {cs : List Value} {x : DataW H × List MemPlace} (h : DataW.trod enc Try.prog w base spare held n 26 cs = some x) : ∃ (v0 v1 : Value) (s0 : Sq SPlace) (s1 : Sq SRoad), cs = [v0, v1] ∧ (∀ M : Nat → Prop, (∀ g, ¬ M g) → PR w M (.slc 2 s0.n fun k => (SPlace.enc (s0.f k))) v0) ∧ (∀ M : Nat → Prop, (∀ g, ¬ M g) → PR w M (.slc 10 s1.n fun k => (SRoad.enc (s1.f k))) v1) := by
  obtain ⟨xs, n, _, _, hl, hxl, hf⟩ := DataW.trod_struct Try.underlying26 h
  rw [Try.cells26] at hl
  obtain ⟨c0, c1, rfl⟩ := list2 hl
  obtain ⟨y0, y1, rfl⟩ := list2 (show xs.length = 2 from hxl)
  have h0 : DataW.trod enc Try.prog w base spare held n 23 (([c0, c1].drop 0).take (Try.prog.cellsOf 23)) = some y0 := hf 0 _ rfl
  have h1 : DataW.trod enc Try.prog w base spare held n 24 (([c0, c1].drop 1).take (Try.prog.cellsOf 24)) = some y1 := hf 1 _ rfl
  rw [Try.cells23] at h0
  rw [Try.cells24] at h1
  obtain ⟨v0, s0, e0, p0⟩ := slc_place h0
  obtain ⟨v1, s1, e1, p1⟩ := slc_road h1
  simp at e0 e1
  subst e0 e1
  exact ⟨_, _, s0, s1, rfl, p0, p1⟩
set_option maxRecDepth 100000 in
theorem open_mine {r : Reach} {b0 : Nat} {v : Value} {d : DataW H} {p : List MemPlace} (hv : Value.okWide Try.prog w r b0 26 v) (h : DataW.Trod enc Try.prog w base spare held 26 v d p) :
    ∃ raw : SMine, ∀ (M : Nat → Prop) (σ : Nat → Value) (V : Nat → Option Nat), (∀ g, ¬ M g) → VR w M σ V (.agg [.slc 2 raw.Places.n (fun k => (SPlace.enc (raw.Places.f k))), .slc 10 raw.Roads.n (fun k => (SRoad.enc (raw.Roads.f k)))]) v := by
  obtain ⟨cs, rfl, hsz⟩ := okWide_struct Try.underlying26 hv
  obtain ⟨fuel, hf⟩ := h
  obtain ⟨v0, v1, s0, s1, hc, p0, p1⟩ := trod_mineS hf
  have hcs : cs = #[v0, v1] := by
    simp only [Value.cells] at hc
    exact Array.ext' hc
  subst hcs
  refine ⟨⟨s0, s1⟩, fun M σ V hM => .agg _ _ rfl fun i hi => ?_⟩
  match i, hi with
  | 0, _ => exact .pure (p0 M hM)
  | 1, _ => exact .pure (p1 M hM)
end
end Go.Proofs.Ytkgcicbipcifdaa.Ab
