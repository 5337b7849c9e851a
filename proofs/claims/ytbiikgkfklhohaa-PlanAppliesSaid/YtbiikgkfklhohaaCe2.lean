/- The edit that is drawn: kind 2. -/
import Derived.Test.YtbiikgkfklhohaaCe
namespace Go.Proofs.Ytbiikgkfklhohaa
open Go.ChangeShapes Go.WideShapes Go.RowKit

set_option maxHeartbeats 4000000 in
set_option maxRecDepth 100000 in
theorem drawEdit_2 (b : Nat) (l : List Nat) (i : Nat) (v : Value) (m : Mn) (w : World) (h : CdAt w b l i) (hm : MnV w v m) (hK : 1 + (nx l i 6).1 = 2) :
    Calls Try.prog 17 #[.pointer (some ⟨b, 0, none⟩), v] w fun e w' => ∃ d : Ed, e = .returned d.v ∧ (∃ j, CdAt w' b l j) ∧ w.grownBy w' (some b) := by
  have hb := h.lt
  obtain ⟨va, vb, rfl, hp, hr⟩ := hm
  obtain ⟨pa, pc, rfl, pc1, pc2, hpc⟩ := hp.shape
  obtain ⟨ra, rc, rfl, rc1, rc2, hrc⟩ := hr.shape
  clear hpc hrc hp hr
  go_enter Try.func17, Try.ntmps17
  go_wp2_with fail
  have hC := (h.alloc (.cells #[.slice pa m.ps.length pc, .slice ra m.rs.length rc] 26)).alloc (.cells #[.int .i64 0, .int .i64 0, .bool false, .int .i64 0, .int .i64 0, .int .i64 0, .int .i64 0, .bool false, .bool false, .int .i64 0, .int .i64 0, .int .i64 0, .int .i64 0, .int .i64 0, .int .i64 0, .int .i64 0] 43)
  have S : CeS w b l w.heap.size (w.heap.size + 1) #[.slice pa m.ps.length pc, .slice ra m.rs.length rc] #[.int .i64 0, .int .i64 0, .bool false, .int .i64 0, .int .i64 0, .int .i64 0, .int .i64 0, .bool false, .bool false, .int .i64 0, .int .i64 0, .int .i64 0, .int .i64 0, .int .i64 0, .int .i64 0, .int .i64 0]
      ((w.alloc (.cells #[.slice pa m.ps.length pc, .slice ra m.rs.length rc] 26)).alloc (.cells #[.int .i64 0, .int .i64 0, .bool false, .int .i64 0, .int .i64 0, .int .i64 0, .int .i64 0, .bool false, .bool false, .int .i64 0, .int .i64 0, .int .i64 0, .int .i64 0, .int .i64 0, .int .i64 0, .int .i64 0] 43)) := by
    refine ⟨⟨_, (h.alloc _).alloc _⟩, (Bk.new w _ _).of (gb_alloc (gb_refl _ none) _) (by simp), ?_, gb_alloc (gb_alloc (gb_refl w _) _) _, ⟨hb, by omega⟩, rfl⟩
    have := Bk.new (w.alloc (.cells #[.slice pa m.ps.length pc, .slice ra m.rs.length rc] 26)) #[.int .i64 0, .int .i64 0, .bool false, .int .i64 0, .int .i64 0, .int .i64 0, .int .i64 0, .bool false, .bool false, .int .i64 0, .int .i64 0, .int .i64 0, .int .i64 0, .int .i64 0, .int .i64 0, .int .i64 0] 43
    simpa using this
  generalize World.alloc (w.alloc _) _ = W at *
  generalize w.heap.size + 1 = n2 at *
  generalize hn1 : w.heap.size = n1 at *
  refine (range_any b l i 1 6 _ hC (by omega) (by omega) (by omega) (by omega)).mono ?_
  rw [show (6 : Int) - 1 + 1 = 6 from rfl, hK]
  rintro e w1 ⟨rfl, hC1, ho⟩
  replace S := S.only ho hC1
  clear hC ho hC1 hK W
  have m2 := S.mc 0
  simp at m2
  have hlt := S.km.lt
  have S1 := CfS.start S #[.int .i64 2, .int .i64 0, .bool false, .int .i64 0, .int .i64 0, .int .i64 0, .int .i64 0, .bool false, .bool false, .int .i64 0, .int .i64 0, .int .i64 0, .int .i64 0, .int .i64 0, .int .i64 0, .int .i64 0]
  go_wp2_with fail
  clear S m2
  generalize w1.alloc _ = W1 at *
  generalize w1.heap.size = n3 at *
  have m2 : W1.cell? ⟨n1, 0, none⟩ = some (.slice pa m.ps.length pc) := S1.a.mc 0
  have hpl : (m.ps.length : Int) ≤ 9223372036854775807 := by
    have : maxLen = 9223372036854775807 := rfl
    omega
  have Sd := S1.drew
  clear S1
  go_region_held3 (fun w' => w'.cell? ⟨n1, 0, none⟩ = some (.slice pa m.ps.length pc))
    (first | (with_reducible exact e0) | (with_reducible exact m2) | (exact ((((((((((S3.set 3 (.int .i64 x0)).set 4 (.int .i64 x1)).set 5 (.int .i64 x2)).set 6 (.int .i64 x3)).set 7 (.bool x4)).set 8 (.bool x5)).set 9 (.int .i64 x6)).set 10 (.int .i64 x7)).set 11 (.int .i64 x8)).set 12 (.int .i64 x9)).a.mc 0) | go_keep)
    ((first
      | (go_at_call 37; refine (CfS.next (by assumption) (by first | exact (bounds_i64 (wf_wrap _ _)).2 | omega)).mono ?_; rintro e w2 ⟨v1, rfl, S2⟩; have e0 : w2.cell? ⟨n1, 0, none⟩ = some (.slice pa m.ps.length pc) := S2.a.mc 0)
      | (go_at_call 35; refine (CfS.road (by assumption) _ _).mono ?_; rintro e w2 ⟨x0, x1, x2, x3, x4, x5, x6, x7, x8, x9, rfl, S3⟩; have e0 : w2.cell? ⟨n1, 0, none⟩ = some (.slice pa m.ps.length pc) := S3.a.mc 0; have q3 : w2.cell? ⟨n3, 3, none⟩ = some (.int .i64 0) := S3.ke.cell 3; have q4 : w2.cell? ⟨n3, 4, none⟩ = some (.int .i64 0) := S3.ke.cell 4; have q5 : w2.cell? ⟨n3, 5, none⟩ = some (.int .i64 0) := S3.ke.cell 5; have q6 : w2.cell? ⟨n3, 6, none⟩ = some (.int .i64 0) := S3.ke.cell 6; have q7 : w2.cell? ⟨n3, 7, none⟩ = some (.bool false) := S3.ke.cell 7; have q8 : w2.cell? ⟨n3, 8, none⟩ = some (.bool false) := S3.ke.cell 8; have q9 : w2.cell? ⟨n3, 9, none⟩ = some (.int .i64 0) := S3.ke.cell 9; have q10 : w2.cell? ⟨n3, 10, none⟩ = some (.int .i64 0) := S3.ke.cell 10; have q11 : w2.cell? ⟨n3, 11, none⟩ = some (.int .i64 0) := S3.ke.cell 11; have q12 : w2.cell? ⟨n3, 12, none⟩ = some (.int .i64 0) := S3.ke.cell 12; have q0f := S3.ke.frozen)))
  clear q3 q4 q5 q6 q7 q8 q9 q10 q11 q12 q0f e0 S2 Sd m2
  have S4 := ((((((((((S3.set 3 (.int .i64 x0)).set 4 (.int .i64 x1)).set 5 (.int .i64 x2)).set 6 (.int .i64 x3)).set 7 (.bool x4)).set 8 (.bool x5)).set 9 (.int .i64 x6)).set 10 (.int .i64 x7)).set 11 (.int .i64 x8)).set 12 (.int .i64 x9))
  simp only [List.setIfInBounds_toArray, List.set_cons_succ, List.set_cons_zero] at S4
  generalize World.setCell _ ⟨n3, 12, none⟩ _ = w4 at *
  clear S3
  have q0 := S4.ke.cell
  have q0f := S4.ke.frozen
  have r0 := S4.a.ke.cell
  have r0f := S4.a.ke.frozen
  have hne := S4.lt
  go_wp2_with fail
  clear q0 q0f r0 r0f
  obtain ⟨hk, hc, hg⟩ := S4.fin [.int .i64 2, .int .i64 0, .bool false, .int .i64 x0, .int .i64 x1, .int .i64 x2, .int .i64 x3, .bool x4, .bool x5, .int .i64 x6, .int .i64 x7, .int .i64 x8, .int .i64 x9, .int .i64 0, .int .i64 0, .int .i64 0] rfl
  simp only [setC] at hk hc hg
  generalize World.setCell _ ⟨n2, 15, none⟩ _ = w9 at *
  have hkc := hk.cell
  refine bodyPost_ret (v := (Ed.v ⟨2, ⟨0, false⟩, ⟨x0, x1, x2, x3, x4, x5, ⟨x6, x7⟩, ⟨x8, x9⟩⟩, 0, ⟨0, 0⟩⟩)) (by simp [Ed.v, results, Try.results17, go_sem, hkc]) rfl ?_
  exact ⟨_, rfl, hc, hg⟩
end Go.Proofs.Ytbiikgkfklhohaa
