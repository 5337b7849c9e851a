/- The edit that is drawn: kind 5. -/
import Derived.Test.YtbiikgkfklhohaaCe
namespace Go.Proofs.Ytbiikgkfklhohaa
open Go.ChangeShapes Go.WideShapes Go.RowKit

set_option maxHeartbeats 4000000 in
set_option maxRecDepth 100000 in
theorem drawEdit_5 (b : Nat) (l : List Nat) (i : Nat) (v : Value) (m : Mn) (w : World) (h : CdAt w b l i) (hm : MnV w v m) (hK : 1 + (nx l i 6).1 = 5) :
    Calls Try.prog 17 #[.pointer (some ⟨b, 0, none⟩), v] w fun e w' => ∃ d : Ed, e = .returned d.v ∧ (∃ j, CdAt w' b l j) ∧ w.grownBy w' (some b) := by
  have hb := h.lt
  obtain ⟨va, vb, rfl, hp, hr⟩ := hm
  obtain ⟨pa, pc, rfl, pc1, pc2, hpc⟩ := hp.shape
  obtain ⟨ra, rc, rfl, rc1, rc2, hrc⟩ := hr.shape
  clear hpc hrc hp hr
  go_enter Try.func17, Try.ntmps17
  go_wp2_with fail
  have hC := (h.alloc (.cells #[.slice pa m.ps.length pc, .slice ra m.rs.length rc] 26)).alloc (.cells #[.int .i64 0, .int .i64 0, .bool false, .int .i64 0, .int .i64 0, .int .i64 0, .int .i64 0, .bool false, .bool false, .int .i64 0, .int .i64 0, .int .i64 0, .int .i64 0, .int .i64 0, .int .i64 0, .int .i64 0] 43)
  have S : CeS w b l w.heap.size (w.heap.size + 1) #[.slice pa m.ps.length pc, .slice ra m.rs.length rc] #[.int .i64 0, .int .i64 0, .bool false, .int .i64 0, .int .i64 0, .int .i64 0, .int .i64 0, .bool false, .bool false, .int .i64 0, .int .i64 0, .int .i64 0, .int .i64 0, .int .i64 0, .int .i64 0, .int .i64 0]
      ((w.alloc (.cells #[.slice pa m.ps.length pc, .slice ra m.rs.length rc] 26)).alloc (.cells #[.int .i64 0, .int .i64 0, .bool false, .int .i64 0, .int .i64 0, .int .i64 0, .int .i64 0, .bool false, .bool false, .int .i64 0, .int .i64 0, .int .i64 0, .int .i64 0, .int .i64 0, .int .i64 0, .int .i64 0] 43)) := by
    refine ⟨⟨_, (h.alloc _).alloc _⟩, (Bk.new w _ _).of (gb_alloc (gb_refl _ none) _) (by simp), ?_, gb_alloc (gb_alloc (gb_refl w _) _) _, ⟨hb, by omega⟩, rfl⟩
    have := Bk.new (w.alloc (.cells #[.slice pa m.ps.length pc, .slice ra m.rs.length rc] 26)) #[.int .i64 0, .int .i64 0, .bool false, .int .i64 0, .int .i64 0, .int .i64 0, .int .i64 0, .bool false, .bool false, .int .i64 0, .int .i64 0, .int .i64 0, .int .i64 0, .int .i64 0, .int .i64 0, .int .i64 0] 43
    simpa using this
  generalize World.alloc (w.alloc _) _ = W at *
  generalize w.heap.size + 1 = n2 at *
  generalize hn1 : w.heap.size = n1 at *
  refine (range_any b l i 1 6 _ hC (by omega) (by omega) (by omega) (by omega)).mono ?_
  rw [show (6 : Int) - 1 + 1 = 6 from rfl, hK]
  rintro e w1 ⟨rfl, hC1, ho⟩
  replace S := S.only ho hC1
  clear hC ho hC1 hK W
  have m2 := S.mc 1
  simp at m2
  have hlt := S.km.lt
  have S1 := CfS.start S #[.int .i64 5, .int .i64 0, .bool false, .int .i64 0, .int .i64 0, .int .i64 0, .int .i64 0, .bool false, .bool false, .int .i64 0, .int .i64 0, .int .i64 0, .int .i64 0, .int .i64 0, .int .i64 0, .int .i64 0]
  go_wp2_with fail
  clear S m2
  generalize w1.alloc _ = W1 at *
  generalize w1.heap.size = n3 at *
  refine (CfS.next S1 (wrap64_le _)).mono ?_
  rintro e w2 ⟨v1, rfl, S2⟩
  clear S1
  have q0 := S2.ke.cell
  have q0f := S2.ke.frozen
  go_wp2_with fail
  clear q0 q0f
  replace S2 := S2.set 13 (.int .i64 v1)
  generalize World.setCell w2 _ _ = w3 at *
  obtain ⟨j0, hC⟩ := S2.a.cd
  refine (range_ex _ _ _ _ _ _ hC (by omega) (by omega) (by omega)).mono ?_
  rintro e w4 ⟨v2, j1, rfl, a2, b2, hC1, ho⟩
  replace S2 := S2.only ho hC1
  clear hC ho hC1 j0 j1
  have q0 := S2.ke.cell
  have q0f := S2.ke.frozen
  go_wp2_with fail
  clear q0 q0f
  replace S2 := S2.set 14 (.int .i64 v2)
  simp only [List.setIfInBounds_toArray, List.set_cons_succ, List.set_cons_zero] at S2
  generalize World.setCell w4 _ _ = w5 at *
  have m4 : w5.cell? ⟨n3, 14, none⟩ = some (.int .i64 v2) := S2.ke.cell 14
  have Sd := S2.drew
  clear S2
  go_region_held3 (fun w' => w'.cell? ⟨n3, 14, none⟩ = some (.int .i64 v2))
    (first | (with_reducible exact e0) | (with_reducible exact m4) | (exact (S3.set 15 _).ke.cell 14) | go_keep)
    ((go_at_call 38; refine (CfS.range Sd (by omega) (by omega) (by omega)).mono ?_; rintro e w6 ⟨v3, a3, b3, rfl, S3⟩; have e0 : w6.cell? ⟨n3, 14, none⟩ = some (.int .i64 v2) := S3.ke.cell 14; have q15 : w6.cell? ⟨n3, 15, none⟩ = some (.int .i64 0) := S3.ke.cell 15; have q0f := S3.ke.frozen))
  clear q15 q0f e0 Sd m4
  simp only [IntWalk.i64_in (v2 + v3) (by omega)]
  have S4 := S3.set 15 (.int .i64 (v2 + v3))
  simp only [List.setIfInBounds_toArray, List.set_cons_succ, List.set_cons_zero] at S4
  generalize World.setCell _ ⟨n3, 15, none⟩ _ = w7 at *
  clear S3
  have q0 := S4.ke.cell
  have q0f := S4.ke.frozen
  have r0 := S4.a.ke.cell
  have r0f := S4.a.ke.frozen
  have hne := S4.lt
  go_wp2_with fail
  clear q0 q0f r0 r0f
  obtain ⟨hk, hc, hg⟩ := S4.fin [.int .i64 5, .int .i64 0, .bool false, .int .i64 0, .int .i64 0, .int .i64 0, .int .i64 0, .bool false, .bool false, .int .i64 0, .int .i64 0, .int .i64 0, .int .i64 0, .int .i64 v1, .int .i64 v2, .int .i64 (v2 + v3)] rfl
  simp only [setC] at hk hc hg
  generalize World.setCell _ ⟨n2, 15, none⟩ _ = w9 at *
  have hkc := hk.cell
  refine bodyPost_ret (v := (Ed.v ⟨5, ⟨0, false⟩, ⟨0, 0, 0, 0, false, false, ⟨0, 0⟩, ⟨0, 0⟩⟩, v1, ⟨v2, v2 + v3⟩⟩)) (by simp [Ed.v, results, Try.results17, go_sem, hkc]) rfl ?_
  exact ⟨_, rfl, hc, hg⟩
end Go.Proofs.Ytbiikgkfklhohaa
