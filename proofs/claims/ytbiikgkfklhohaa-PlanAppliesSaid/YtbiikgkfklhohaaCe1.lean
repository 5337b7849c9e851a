/- The edit that is drawn: kind 1. -/
import Derived.Test.YtbiikgkfklhohaaCe
namespace Go.Proofs.Ytbiikgkfklhohaa
open Go.ChangeShapes Go.WideShapes Go.RowKit

set_option maxHeartbeats 4000000 in
set_option maxRecDepth 100000 in
theorem drawEdit_1 (b : Nat) (l : List Nat) (i : Nat) (v : Value) (m : Mn) (w : World) (h : CdAt w b l i) (hm : MnV w v m) (hK : 1 + (nx l i 6).1 = 1) :
    Calls Try.prog 17 #[.pointer (some ⟨b, 0, none⟩), v] w fun e w' => ∃ d : Ed, e = .returned d.v ∧ (∃ j, CdAt w' b l j) ∧ w.grownBy w' (some b) := by
  have hb := h.lt
  obtain ⟨va, vb, rfl, hp, hr⟩ := hm
  obtain ⟨pa, pc, rfl, pc1, pc2, hpc⟩ := hp.shape
  obtain ⟨ra, rc, rfl, rc1, rc2, hrc⟩ := hr.shape
  clear hpc hrc hp hr
  go_enter Try.func17, Try.ntmps17
  go_wp2_with fail
  have hC := (h.alloc (.cells #[.slice pa m.ps.length pc, .slice ra m.rs.length rc] 26)).alloc (.cells #[.int .i64 0, .int .i64 0, .bool false, .int .i64 0, .int .i64 0, .int .i64 0, .int .i64 0, .bool false, .bool false, .int .i64 0, .int .i64 0, .int .i64 0, .int .i64 0, .int .i64 0, .int .i64 0, .int .i64 0] 43)
  have S : CeS w b l w.heap.size (w.heap.size + 1) #[.slice pa m.ps.length pc, .slice ra m.rs.length rc] #[.int .i64 0, .int .i64 0, .bool false, .int .i64 0, .int .i64 0, .int .i64 0, .int .i64 0, .bool false, .bool false, .int .i64 0, .int .i64 0, .int .i64 0, .int .i64 0, .int .i64 0, .int .i64 0, .int .i64 0]
      ((w.alloc (.cells #[.slice pa m.ps.length pc, .slice ra m.rs.length rc] 26)).alloc (.cells #[.int .i64 0, .int .i64 0, .bool false, .int .i64 0, .int .i64 0, .int .i64 0, .int .i64 0, .bool false, .bool false, .int .i64 0, .int .i64 0, .int .i64 0, .int .i64 0, .int .i64 0, .int .i64 0, .int .i64 0] 43)) := by
    refine ⟨⟨_, (h.alloc _).alloc _⟩, (Bk.new w _ _).of (gb_alloc (gb_refl _ none) _) (by simp), ?_, gb_alloc (gb_alloc (gb_refl w _) _) _, ⟨hb, by omega⟩, rfl⟩
    have := Bk.new (w.alloc (.cells #[.slice pa m.ps.length pc, .slice ra m.rs.length rc] 26)) #[.int .i64 0, .int .i64 0, .bool false, .int .i64 0, .int .i64 0, .int .i64 0, .int .i64 0, .bool false, .bool false, .int .i64 0, .int .i64 0, .int .i64 0, .int .i64 0, .int .i64 0, .int .i64 0, .int .i64 0] 43
    simpa using this
  generalize World.alloc (w.alloc _) _ = W at *
  generalize w.heap.size + 1 = n2 at *
  generalize hn1 : w.heap.size = n1 at *
  refine (range_any b l i 1 6 _ hC (by omega) (by omega) (by omega) (by omega)).mono ?_
  rw [show (6 : Int) - 1 + 1 = 6 from rfl, hK]
  rintro e w1 ⟨rfl, hC1, ho⟩
  replace S := S.only ho hC1
  clear hC ho hC1 hK W
  go_wp2_with fail
  have S1 := CfS.start S #[.int .i64 1, .int .i64 0, .bool false, .int .i64 0, .int .i64 0, .int .i64 0, .int .i64 0, .bool false, .bool false, .int .i64 0, .int .i64 0, .int .i64 0, .int .i64 0, .int .i64 0, .int .i64 0, .int .i64 0]
  clear S
  generalize w1.alloc _ = W1 at *
  generalize w1.heap.size = n3 at *
  obtain ⟨j0, hC⟩ := S1.a.cd
  refine (range_ex _ _ _ _ _ _ hC (by omega) (by omega) (by omega)).mono ?_
  rintro e w2 ⟨v1, j1, rfl, a1, b1, hC1, ho⟩
  replace S1 := S1.only ho hC1
  clear hC ho
  go_wp2_with fail
  refine (one_ex _ _ _ _ _ hC1 (by omega) (by omega)).mono ?_
  rintro e w3 ⟨v2, j2, rfl, hC2, ho⟩
  replace S1 := S1.only ho hC2
  clear hC1 hC2 ho j0 j1 j2
  have q0 := S1.ke.cell
  have q0f := S1.ke.frozen
  have r0 := S1.a.ke.cell
  have r0f := S1.a.ke.frozen
  have hne := S1.lt
  go_wp2_with fail
  replace S1 := (S1.set 1 (.int .i64 v1)).set 2 (.bool v2)
  clear q0 q0f r0 r0f
  generalize World.setCell (w3.setCell _ _) ⟨n3, 2, none⟩ _ = w4 at *
  obtain ⟨hk, hc, hg⟩ := S1.fin [.int .i64 1, .int .i64 v1, .bool v2, .int .i64 0, .int .i64 0, .int .i64 0, .int .i64 0, .bool false, .bool false, .int .i64 0, .int .i64 0, .int .i64 0, .int .i64 0, .int .i64 0, .int .i64 0, .int .i64 0] rfl
  simp only [setC] at hk hc hg
  generalize World.setCell _ ⟨n2, 15, none⟩ _ = w5 at *
  have hkc := hk.cell
  refine bodyPost_ret (v := (Ed.v ⟨1, ⟨v1, v2⟩, ⟨0, 0, 0, 0, false, false, ⟨0, 0⟩, ⟨0, 0⟩⟩, 0, ⟨0, 0⟩⟩)) (by simp [Ed.v, results, Try.results17, go_sem, hkc]) rfl ?_
  exact ⟨_, rfl, hc, hg⟩
end Go.Proofs.Ytbiikgkfklhohaa
