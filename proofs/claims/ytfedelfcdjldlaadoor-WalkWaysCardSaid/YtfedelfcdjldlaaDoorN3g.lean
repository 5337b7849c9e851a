/- The package variables that stage 3's cards list, where a call begins. -/
import Derived.Test.YtfedelfcdjldlaaDoorXu
import Derived.Test.YtfedelfcdjldlaaDoorTie
import Derived.Test.YtfedelfcdjldlaaDoorCards
import Derived.Deep.Slices
import Derived.Lib.SmallJoins
import Derived.ProofKit
import Derived.OpenShut
import Derived.ShutString
import Derived.ChangeOld
import Derived.Below
import Derived.LaidMore
import Derived.Lay
import Derived.Stop.Joined
import Derived.SevenTiedAt
namespace Go.Proofs.YtfedelfcdjldlaaDoor
open Go.ChangeShapes Go.WideShapes Go.ChangeAt Go.RowKit Go.Joins
open Go.ChangeMaps (open_string shut_string)
open Ab (own laidOut Tryd.cells3)

theorem gA : Tryd.prog.globalNamed "minecontrol/walk.clearAir" = some 0 := by kernel_rfl
theorem gB : Tryd.prog.globalNamed "minecontrol/walk.inSmoke" = some 1 := by kernel_rfl
theorem tA : (Tryd.prog.globals[0]?).map (·.type) = some 72 := by kernel_rfl
theorem tB : (Tryd.prog.globals[1]?).map (·.type) = some 72 := by kernel_rfl
theorem list3 {α : Type} {l : List α} (h : l.length = 3) : ∃ a b c, l = [a, b, c] := by
  match l, h with
  | [a, b, c], _ => exact ⟨a, b, c, rfl⟩
theorem Tryd.cells72 : Tryd.prog.cellsOf 72 = 3 := by kernel_rfl
theorem trod_pace {H : Type} {enc : TypeId × Value → H} {w : World} {base : Nat} {spare : Nat → Bool} {held : Bool} {n : Nat} {cs : List Value} {a b c : Int} {p : List MemPlace} (h : DataW.trod enc Tryd.prog w base spare held n 72 cs = some (.agg [.lit (.int .i64 a), .lit (.int .i64 b), .lit (.int .i64 c)], p)) : cs = [.int .i64 a, .int .i64 b, .int .i64 c] := by
  obtain ⟨xs, n, hx, _, hl, hxl, hf⟩ := DataW.trod_struct Tryd.underlying72 h
  rw [Tryd.cells72] at hl
  obtain ⟨c0, c1, c2, rfl⟩ := list3 hl
  obtain ⟨x0, x1, x2, rfl⟩ := list3 (show xs.length = 3 from hxl)
  rename_i hd
  simp only [List.map_cons, List.map_nil, Prod.mk.injEq, DataW.agg.injEq, List.cons.injEq, and_true] at hd
  obtain ⟨⟨d0, d1, d2⟩, _⟩ := hd
  have h0 : DataW.trod enc Tryd.prog w base spare held n 3 (([c0, c1, c2].drop 0).take (Tryd.prog.cellsOf 3)) = some x0 := hf 0 _ rfl
  have h1 : DataW.trod enc Tryd.prog w base spare held n 3 (([c0, c1, c2].drop 1).take (Tryd.prog.cellsOf 3)) = some x1 := hf 1 _ rfl
  have h2 : DataW.trod enc Tryd.prog w base spare held n 3 (([c0, c1, c2].drop 2).take (Tryd.prog.cellsOf 3)) = some x2 := hf 2 _ rfl
  rw [Tryd.cells3] at h0 h1 h2
  obtain ⟨a0, e0, f0, _⟩ := DataW.trod_int Tryd.underlying3 h0
  obtain ⟨a1, e1, f1, _⟩ := DataW.trod_int Tryd.underlying3 h1
  obtain ⟨a2, e2, f2, _⟩ := DataW.trod_int Tryd.underlying3 h2
  subst f0
  subst f1
  subst f2
  simp at e0 e1 e2 d0 d1 d2
  rw [e0, e1, e2, d0, d1, d2]
theorem glob_of_laid {W : World} (h : laidMetH Tryd.prog [("minecontrol/walk.clearAir", Rows.laid_minecontrol_walk_clearAir), ("minecontrol/walk.inSmoke", Rows.laid_minecontrol_walk_inSmoke)] W) : Ab.GlobOK W (fun _ => False) (fun _ => False) := by
  rw [MakeChecks.laidMetH_plain _ _ _ (by kernel_rfl)] at h
  obtain ⟨ps, ⟨g0, t0, cs0, f0, p0, q0, hg0, ht0, hv0, hd0, ⟨g1, t1, cs1, f1, p1, q1, hg1, ht1, hv1, hd1, _, _⟩, _⟩, _, _⟩ := h
  obtain rfl := Option.some.inj (gA.symm.trans hg0)
  obtain rfl := Option.some.inj (gB.symm.trans hg1)
  obtain rfl := Option.some.inj (tA.symm.trans ht0)
  obtain rfl := Option.some.inj (tB.symm.trans ht1)
  have e0 := trod_pace hd0
  have e1 := trod_pace hd1
  have k0 := World.var?_cell hg0 hv0
  have k1 := World.var?_cell hg1 hv1
  obtain ⟨l0⟩ := cs0
  obtain ⟨l1⟩ := cs1
  simp only at e0 e1
  subst e0
  subst e1
  intro p hp
  have hp : p = (0, [6, 9, 12]) ∨ p = (1, [2, 3, 4]) := by simpa [Ab.glT] using hp
  rcases hp with rfl | rfl
  · exact ⟨World.block_lt_of_cell? W _ (k0 0), id, id, fun j hj => match j, hj with
      | 0, _ => k0 0
      | 1, _ => k0 1
      | 2, _ => k0 2⟩
  · exact ⟨World.block_lt_of_cell? W _ (k1 0), id, id, fun j hj => match j, hj with
      | 0, _ => k1 0
      | 1, _ => k1 1
      | 2, _ => k1 2⟩

theorem door_met (os : Os) (args : Array Value) : laidMetH Tryd.prog [("minecontrol/walk.clearAir", Rows.laid_minecontrol_walk_clearAir), ("minecontrol/walk.inSmoke", Rows.laid_minecontrol_walk_inSmoke)] ((World.laidAll Tryd.prog os [("minecontrol/walk.clearAir", Rows.laid_minecontrol_walk_clearAir), ("minecontrol/walk.inSmoke", Rows.laid_minecontrol_walk_inSmoke)]).forCall (fun _ _ => 0) ⟨#[], args, []⟩).memory := by
  rw [MakeChecks.laidMetH_plain _ _ _ (by kernel_rfl)]
  exact laidMet_laidAll _ (by kernel_rfl) (by kernel_rfl)

end Go.Proofs.YtfedelfcdjldlaaDoor
