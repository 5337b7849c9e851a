/- Stage 11: bounds that come in. -/
import Derived.Test.YtnoeblpanfbpjaaGreatXv
import Derived.Test.YtnoeblpanfbpjaaGreatXd
namespace Go.Proofs.YtnoeblpanfbpjaaGreat.Ab
open Go Go.ChangeShapes Go.WideShapes Go.ChangeAt Go.RowKit Go.Deep Go.Joins

theorem Tryz.cells25 : Tryz.prog.cellsOf 25 = 2 := by kernel_rfl
section
variable {H : Type} {enc : TypeId × Value → H} {w : World} {base : Nat} {spare : Nat → Bool} {held : Bool}
set_option maxRecDepth 100000 in
theorem open_bounds {r : Reach} {b0 : Nat} {v : Value} {d : DataW H} {p : List MemPlace} (hv : Value.okWide Tryz.prog w r b0 25 v) (h : DataW.Trod enc Tryz.prog w base spare held 25 v d p) :
    ∃ raw : SBounds, ∀ (M : Nat → Prop) (σ : Nat → Value) (V : Nat → Option Nat), (∀ g, ¬ M g) → VR w M σ V (.agg [.slc 1 raw.Low.n (fun k => [.int .i64 (raw.Low.f k)]), .slc 1 raw.High.n (fun k => [.int .i64 (raw.High.f k)])]) v := by
  obtain ⟨cs, rfl, hsz⟩ := okWide_struct Tryz.underlying25 hv
  obtain ⟨fuel, hf⟩ := h
  obtain ⟨xs, n, _, _, hl, hxl, hf⟩ := DataW.trod_struct Tryz.underlying25 hf
  rw [Tryz.cells25] at hl
  obtain ⟨c0, c1, hc⟩ := list2 hl
  obtain ⟨y0, y1, rfl⟩ := list2 (show xs.length = 2 from hxl)
  rw [hc] at hf
  have h0 : DataW.trod enc Tryz.prog w base spare held n 23 (([c0, c1].drop 0).take (Tryz.prog.cellsOf 23)) = some y0 := hf 0 _ rfl
  have h1 : DataW.trod enc Tryz.prog w base spare held n 23 (([c0, c1].drop 1).take (Tryz.prog.cellsOf 23)) = some y1 := hf 1 _ rfl
  rw [Tryz.cells23] at h0
  rw [Tryz.cells23] at h1
  obtain ⟨v0, s0, e0, p0⟩ := slc_int h0
  obtain ⟨v1, s1, e1, p1⟩ := slc_int h1
  simp at e0 e1
  subst e0 e1
  have hcs : cs = #[c0, c1] := by
    simp only [Value.cells] at hc
    exact Array.ext' hc
  subst hcs
  refine ⟨⟨s0, s1⟩, fun M σ V hM => .agg _ _ rfl fun i hi => ?_⟩
  match i, hi with
  | 0, _ => exact .pure (p0 M hM)
  | 1, _ => exact .pure (p1 M hM)
end
end Go.Proofs.YtnoeblpanfbpjaaGreat.Ab
