/- A part of the proof, what is needed of it. -/
import Derived.Test.YtimkpfnbkclclaaGreatPh05
import Derived.Test.YtimkpfnbkclclaaGreatPh06
namespace Go.Proofs.YtimkpfnbkclclaaGreat.Ab
open Go Go.ChangeShapes Go.WideShapes Go.ChangeAt Go.RowKit Go.Deep Go.Joins
theorem Tryz.cells25 : Tryz.prog.cellsOf 25 = 2 := by kernel_rfl
theorem Tryz.cells23 : Tryz.prog.cellsOf 23 = 1 := by kernel_rfl
section
variable {H : Type} {enc : TypeId × Value → H} {w : World} {base : Nat} {spare : Nat → Bool} {held : Bool}
def apm (a : Int) : List Value := [.int .i64 a]
theorem aoo {n : Nat} {cs : List Value} {x : DataW H × List MemPlace} (h : DataW.trod enc Tryz.prog w base spare held n 3 cs = some x) : ∃ a : Int, cs = apm a := by
  obtain ⟨a, e, _⟩ := DataW.trod_int Tryz.underlying3 h
  exact ⟨a, e⟩
theorem aly {n : Nat} {cs : List Value} {x : DataW H × List MemPlace} (h : DataW.trod enc Tryz.prog w base spare held n 23 cs = some x) : ∃ (v : Value) (s : Sq Int), cs = [v] ∧ ∀ M : Nat → Prop, (∀ g, ¬ M g) → PR w M (.slc 1 s.n fun k => [.int .i64 (s.f k)]) v := by
  obtain ⟨v, l, e, hs⟩ := oD apm (sz := 1) Tryz.underlying23 Tryz.cells3 (by omega) (fun _ => rfl) aoo h
  refine ⟨v, ⟨l.length, fun k => l.getD k 0⟩, e, fun M hM => nE hM apm (fun p => [.int .i64 p]) 0 (fun _ => rfl) (fun _ => rfl) (fun a j hj => ?_) hs⟩
  have hj : j < 1 := hj
  match j, hj with
  | 0, _ => exact ⟨.int _ _, rfl⟩
structure ao2 (w : World) where
  x : SFan
  v : Value
  pr : ∀ M : Nat → Prop, (∀ g, ¬ M g) → PR w M (.slc 2 x.Curve.n fun k => (qH.enc (x.Curve.f k))) v
structure anT (w : World) where
  x : qD
  v : Value
  pr : ∀ M : Nat → Prop, (∀ g, ¬ M g) → PR w M (.slc 1 x.Rests.n fun k => [.int .i64 (x.Rests.f k)]) v
set_option maxRecDepth 100000 in
theorem aoX {r : Reach} {b0 : Nat} {v : Value} {d : DataW H} {p : List MemPlace} (hv : Value.okWide Tryz.prog w r b0 25 v) (h : DataW.Trod enc Tryz.prog w base spare held 25 v d p) :
    ∃ raw : qz, ∀ (M : Nat → Prop) (σ : Nat → Value) (V : Nat → Option Nat), (∀ g, ¬ M g) → VR w M σ V (.agg [.slc 1 raw.Fans.n (fun k => [.int .i64 (raw.Fans.f k)]), .slc 1 raw.Doors.n (fun k => [.int .i64 (raw.Doors.f k)])]) v := by
  obtain ⟨cs, rfl, hsz⟩ := okWide_struct Tryz.underlying25 hv
  obtain ⟨fuel, hf⟩ := h
  obtain ⟨xs, n, _, _, hl, hxl, hf⟩ := DataW.trod_struct Tryz.underlying25 hf
  rw [Tryz.cells25] at hl
  obtain ⟨c0, c1, hc⟩ := qp hl
  obtain ⟨y0, y1, rfl⟩ := qp (show xs.length = 2 from hxl)
  rw [hc] at hf
  have h0 : DataW.trod enc Tryz.prog w base spare held n 23 (([c0, c1].drop 0).take (Tryz.prog.cellsOf 23)) = some y0 := hf 0 _ rfl
  have h1 : DataW.trod enc Tryz.prog w base spare held n 23 (([c0, c1].drop 1).take (Tryz.prog.cellsOf 23)) = some y1 := hf 1 _ rfl
  rw [Tryz.cells23] at h0
  rw [Tryz.cells23] at h1
  obtain ⟨v0, s0, e0, p0⟩ := aly h0
  obtain ⟨v1, s1, e1, p1⟩ := aly h1
  simp at e0 e1
  subst e0 e1
  have hcs : cs = #[c0, c1] := by
    simp only [Value.cells] at hc
    exact Array.ext' hc
  subst hcs
  refine ⟨⟨s0, s1⟩, fun M σ V hM => .agg _ _ rfl fun i hi => ?_⟩
  match i, hi with
  | 0, _ => exact .pure (p0 M hM)
  | 1, _ => exact .pure (p1 M hM)
end
end Go.Proofs.YtimkpfnbkclclaaGreat.Ab
