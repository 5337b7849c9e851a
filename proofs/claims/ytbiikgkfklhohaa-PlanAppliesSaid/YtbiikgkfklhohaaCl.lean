/- The copies of a mine by the program: slices.Clone, clone. -/
import Derived.Test.YtbiikgkfklhohaaSp
import Derived.Lib.SliceRun
namespace Go.Proofs.Ytbiikgkfklhohaa
open Go.RowKit
attribute [local go_sem ↓] Go.wp_at_zero Go.wp_at_succ

set_option maxHeartbeats 1000000 in
theorem clonePl_any (v : Value) (n : Nat) (xs : List Value) (w : World) (h : Sl w v 2 n xs) (h1 : ∀ u ∈ xs, u.oneCell' = true) (hn : n ≤ 100000) :
    Calls Try.prog 54 #[v] w fun e w' => ∃ v', e = .returned v' ∧ w'.ownsRow w.heap.size 37 2 v' n xs ∧ w.grownBy w' none := by
  obtain ⟨ip, hip, hip1, hip2, hip3⟩ := info_parts Try.infoPlace
  have q : ∀ (w : World) (a : Option Addr) (n c n' c' : Nat), (binOp .eql 23 (.slice a n c) (.slice none n' c')).run Try.prog w = .ok (.bool a.isNone) w := fun w a n c n' c' => Lib.run_eql_slice_nil w _ _ a n c n' c' Try.underlying23
  have H := Lib.hid h
  have hl := h.1
  rcases h.cases with ⟨rfl, rfl⟩ | ⟨ad, cap, rfl, hnc, hm⟩
  · have e0 : xs = [] := List.eq_nil_of_length_eq_zero (by simpa using hl)
    subst e0
    clear H h
    go_enter Try.func54, Try.ntmps54
    go_wp2
    go_ret
    exact ⟨_, rfl, World.ownsRow_nil _ _ _ _, gb_refl _ _⟩
  · clear h hl
    have HB := Lib.hid (gb_alloc (gb_refl w none) (.cells #[] 37))
    have hown := World.ownsRow_lit (base := w.heap.size) (e := 37) (size := 2) w #[] 0 (Nat.le_refl _) (by simp [maxLen]) (by simp)
    have HO := Lib.hid hown
    clear hown
    unfold maxLen at hm
    go_enter Try.func54, Try.ntmps54
    go_wp2_with (at_builtin; go_loud (refine wpList_app _ rfl _ _ 23 rfl w.heap.size 37 ip _ 2 16 Try.underlying23 hip hip1 hip2 hip3 rfl (by omega) (.slice (some ⟨w.heap.size, 0, none⟩) 0 0) 0 [] rfl HO.out _ n xs rfl (Sl.by_ H.out HB.out) h1 (by simp [maxLen]; omega) (by omega) (by simp) ?_); intro v' w2 hown hg)
    go_ret
    refine ⟨_, rfl, ?_, gb_new HB.out (by simpa [Value.ownBlock] using hg) (Nat.le_refl _)⟩
    simpa using hown

set_option maxHeartbeats 1000000 in
theorem cloneRd_any (v : Value) (n : Nat) (xs : List Value) (w : World) (h : Sl w v 10 n xs) (h1 : ∀ u ∈ xs, u.oneCell' = true) (hn : n ≤ 100000) :
    Calls Try.prog 55 #[v] w fun e w' => ∃ v', e = .returned v' ∧ w'.ownsRow w.heap.size 41 10 v' n xs ∧ w.grownBy w' none := by
  obtain ⟨ip, hip, hip1, hip2, hip3⟩ := info_parts Try.infoRoad
  have q : ∀ (w : World) (a : Option Addr) (n c n' c' : Nat), (binOp .eql 24 (.slice a n c) (.slice none n' c')).run Try.prog w = .ok (.bool a.isNone) w := fun w a n c n' c' => Lib.run_eql_slice_nil w _ _ a n c n' c' Try.underlying24
  have H := Lib.hid h
  have hl := h.1
  rcases h.cases with ⟨rfl, rfl⟩ | ⟨ad, cap, rfl, hnc, hm⟩
  · have e0 : xs = [] := List.eq_nil_of_length_eq_zero (by simpa using hl)
    subst e0
    clear H h
    go_enter Try.func55, Try.ntmps55
    go_wp2
    go_ret
    exact ⟨_, rfl, World.ownsRow_nil _ _ _ _, gb_refl _ _⟩
  · clear h hl
    have HB := Lib.hid (gb_alloc (gb_refl w none) (.cells #[] 41))
    have hown := World.ownsRow_lit (base := w.heap.size) (e := 41) (size := 10) w #[] 0 (Nat.le_refl _) (by simp [maxLen]) (by simp)
    have HO := Lib.hid hown
    clear hown
    unfold maxLen at hm
    go_enter Try.func55, Try.ntmps55
    go_wp2_with (at_builtin; go_loud (refine wpList_app _ rfl _ _ 24 rfl w.heap.size 41 ip _ 10 72 Try.underlying24 hip hip1 hip2 hip3 rfl (by omega) (.slice (some ⟨w.heap.size, 0, none⟩) 0 0) 0 [] rfl HO.out _ n xs rfl (Sl.by_ H.out HB.out) h1 (by simp [maxLen]; omega) (by omega) (by simp) ?_); intro v' w2 hown hg)
    go_ret
    refine ⟨_, rfl, ?_, gb_new HB.out (by simpa [Value.ownBlock] using hg) (Nat.le_refl _)⟩
    simpa using hown

set_option maxHeartbeats 2000000 in
theorem clone_any (v : Value) (m : Mn) (w : World) (h : MnV w v m) (h1 : m.ps.length ≤ 100000) (h2 : m.rs.length ≤ 100000) :
    Calls Try.prog 45 #[v] w fun e w' => ∃ v', e = .returned v' ∧ MnO w' w.heap.size v' m ∧ w.grownBy w' none := by
  obtain ⟨a, b, rfl, hp, hr⟩ := h
  obtain ⟨pa, pc, rfl, pc1, pc2, hpc⟩ := hp.shape
  obtain ⟨ra, rc, rfl, rc1, rc2, hrc⟩ := hr.shape
  have HP := Lib.hid hp
  have HR := Lib.hid hr
  clear hpc hrc hp hr
  go_enter Try.func45, Try.ntmps45
  go_wp2_with fail
  have hS := CpS.start w (.slice pa m.ps.length pc) (.slice ra m.rs.length rc)
  generalize (w.alloc _).alloc _ = W at *
  have d0 : W.cell? ⟨w.heap.size, 0, none⟩ = some (.slice pa m.ps.length pc) := hS.1.cell 0
  have d1 : W.cell? ⟨w.heap.size, 1, none⟩ = some (.slice ra m.rs.length rc) := hS.1.cell 1
  have hSd := hS.drew
  clear hS
  go_region_held3 (fun w' => w'.cell? ⟨w.heap.size, 0, none⟩ = some (.slice pa m.ps.length pc) ∧ w'.cell? ⟨w.heap.size, 1, none⟩ = some (.slice ra m.rs.length rc))
    (first | (exact ⟨e30, e31⟩) | (exact ⟨e20, e21⟩) | go_keep | (exact ⟨(CpS.fin (by assumption) _ _).2.1.cell 0, (CpS.fin (by assumption) _ _).2.1.cell 1⟩))
    ((first
      | (go_at_call 54; refine (clonePl_any _ _ _ _ (Sl.by_ HP.out (CpS.g (by assumption))) (pl_one _) h1).mono ?_; rintro e w2 ⟨pv', rfl, hown2, hg2⟩; obtain ⟨xa, xc, hxe⟩ := own_slc hown2; subst hxe; have hS2 := CpS.by_ (by assumption) hg2; have e20 := hS2.1.cell 0; have e21 := hS2.1.cell 1)
      | (go_at_call 55; refine (cloneRd_any _ _ _ _ (Sl.by_ HR.out (CpS.g (by assumption))) (rd_one _) h2).mono ?_; rintro e w3 ⟨rv', rfl, hown3, hg3⟩; obtain ⟨ya, yc, hye⟩ := own_slc hown3; subst hye; have hS3 := CpS.by_ (by assumption) hg3; have e30 := hS3.1.cell 0; have e31 := hS3.1.cell 1; obtain ⟨z0, z1, kz⟩ := hS3.2.1; have z0c := kz.cell 0; have z1c := kz.cell 1; have z0f := kz.frozen)))
  obtain ⟨f1, _, f3⟩ := hS3.fin (.slice xa m.ps.length xc) (.slice ya m.rs.length yc)
  have hownP := ownsRow_set (own_by (own_mono hown2 hSd.2.2.size) hg3) kz (by decide) [.slice xa m.ps.length xc, .slice ya m.rs.length yc]
  have hownR := ownsRow_set (own_mono hown3 hS2.2.2.size) kz (by decide) [.slice xa m.ps.length xc, .slice ya m.rs.length yc]
  simp only [setC] at f1 f3 hownP hownR
  clear z0c z1c z0f e20 e21 e30 e31 kz d0 d1 hSd hS2 hS3 hown2 hown3
  generalize World.setCell _ _ _ = W9 at *
  have f1c := f1.cell
  go_wp2_with fail
  refine bodyPost_ret (v := .agg #[.slice xa m.ps.length xc, .slice ya m.rs.length yc]) (by simp [results, Try.results45, go_sem, f1c]) rfl ?_
  exact ⟨_, rfl, ⟨_, _, rfl, hownP, hownR⟩, f3⟩
end Go.Proofs.Ytbiikgkfklhohaa
