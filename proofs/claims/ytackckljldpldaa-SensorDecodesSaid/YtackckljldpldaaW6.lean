/- Stage 5, the program's Check and Value. -/
import Derived.Test.YtackckljldpldaaW5
namespace Go.Proofs.Ytackckljldpldaa
open Go.RowKit
attribute [local go_sem ↓] Go.wp_at_zero Go.wp_at_succ

/-- While a sensor is checked: the sensor. -/
structure CkS (w : World) (s : Sn) (W : World) : Prop where
  k0 : Bk W w.heap.size (senL s).toArray 24
  g : w.grownBy W none
theorem CkS.by_ {w : World} {s : Sn} {W W' : World} (h : CkS w s W) (o : W.grownBy W' none) : CkS w s W' := ⟨h.k0.of o (by simp), gb_none h.g o⟩

set_option maxRecDepth 100000 in
set_option maxHeartbeats 4000000 in
theorem pCk_any (s : Sn) (w : World) : Calls Try.prog 44 #[.agg (senL s).toArray] w fun e w' => e = .returned (.int .i64 (ckSn s)) ∧ w.grownBy w' none := by
  have S1 : CkS w s (w.alloc (.cells (senL s).toArray 24)) := ⟨Bk.new w _ _, gb_alloc (gb_refl w none) _⟩
  obtain ⟨ck, hck⟩ : ∃ ck, ckSn s = ck := ⟨_, rfl⟩
  rw [hck]
  have HCK := Lib.hid hck
  have HS1 := Lib.hid S1
  clear hck S1
  unfold senL at HS1 ⊢
  go_enter Try.func44, Try.ntmps44
  go_upto_region 1 with fail
  generalize w.alloc _ = W1 at *
  have k0c := HS1.out.k0.cell
  unfold senL at k0c
  go_wp2_with fail
  refine (win1 (1) 6 s.kind _ _ rfl _).mono ?_
  rintro e W2 ⟨rfl, hg⟩
  have HS2 := Lib.hid (HS1.out.by_ hg)
  clear hg k0c
  by_cases c0 : (1 : Int) ≤ s.kind ∧ s.kind ≤ 6
  · rw [decide_eq_true c0]
    have k0c := HS2.out.k0.cell
    unfold senL at k0c
    go_wp2_with fail
    refine (win1 (0) 255 s.addr _ _ rfl _).mono ?_
    rintro e W3 ⟨rfl, hg⟩
    have HS3 := Lib.hid (HS2.out.by_ hg)
    clear hg k0c
    by_cases d0 : (0 : Int) ≤ s.addr ∧ s.addr ≤ 255
    · rw [decide_eq_true d0]
      by_cases d1 : s.target < 0
      · have d1' : decide (s.target < 0) = true := by simpa using d1
        have k0c := HS3.out.k0.cell
        unfold senL at k0c
        have hck : ck = 1 := by rw [← HCK.out]; unfold ckSn; rw [if_neg (by omega), if_pos (by unfold snOk; omega)]
        subst hck
        go_wp2_with fail
        go_ret
        exact ⟨rfl, HS3.out.g⟩
      · have d1' : decide (s.target < 0) = false := by simpa using d1
        have k0c := HS3.out.k0.cell
        unfold senL at k0c
        go_wp2_with fail
        refine (win2 (-1000000) 1000000 s.offset s.scale _ _ rfl _).mono ?_
        rintro e W4 ⟨rfl, hg⟩
        have HS4 := Lib.hid (HS3.out.by_ hg)
        clear hg k0c
        by_cases d2 : ((-1000000 : Int) ≤ s.offset ∧ s.offset ≤ 1000000) ∧ (-1000000 ≤ s.scale ∧ s.scale ≤ 1000000)
        · rw [decide_eq_true d2]
          have k0c := HS4.out.k0.cell
          unfold senL at k0c
          go_wp2_with fail
          refine (win2 (0) 1000000 s.error s.drift _ _ rfl _).mono ?_
          rintro e W5 ⟨rfl, hg⟩
          have HS5 := Lib.hid (HS4.out.by_ hg)
          clear hg k0c
          by_cases d3 : ((0 : Int) ≤ s.error ∧ s.error ≤ 1000000) ∧ (0 ≤ s.drift ∧ s.drift ≤ 1000000)
          · rw [decide_eq_true d3]
            have k0c := HS5.out.k0.cell
            unfold senL at k0c
            go_wp2_with fail
            refine (win1 (1) 1000000 s.life _ _ rfl _).mono ?_
            rintro e W6 ⟨rfl, hg⟩
            have HS6 := Lib.hid (HS5.out.by_ hg)
            clear hg k0c
            by_cases d4 : (1 : Int) ≤ s.life ∧ s.life ≤ 1000000
            · rw [decide_eq_true d4]
              have hck : ck = 0 := by rw [← HCK.out]; unfold ckSn; rw [if_neg (by omega), if_neg (by unfold snOk; omega)]
              subst hck
              go_wp2_with fail
              go_ret
              exact ⟨rfl, HS6.out.g⟩
            · rw [decide_eq_false d4]
              have hck : ck = 1 := by rw [← HCK.out]; unfold ckSn; rw [if_neg (by omega), if_pos (by unfold snOk; omega)]
              subst hck
              go_wp2_with fail
              go_ret
              exact ⟨rfl, HS6.out.g⟩
          · rw [decide_eq_false d3]
            have hck : ck = 1 := by rw [← HCK.out]; unfold ckSn; rw [if_neg (by omega), if_pos (by unfold snOk; omega)]
            subst hck
            go_wp2_with fail
            go_ret
            exact ⟨rfl, HS5.out.g⟩
        · rw [decide_eq_false d2]
          have hck : ck = 1 := by rw [← HCK.out]; unfold ckSn; rw [if_neg (by omega), if_pos (by unfold snOk; omega)]
          subst hck
          go_wp2_with fail
          go_ret
          exact ⟨rfl, HS4.out.g⟩
    · rw [decide_eq_false d0]
      have hck : ck = 1 := by rw [← HCK.out]; unfold ckSn; rw [if_neg (by omega), if_pos (by unfold snOk; omega)]
      subst hck
      go_wp2_with fail
      go_ret
      exact ⟨rfl, HS3.out.g⟩
  · rw [decide_eq_false c0]
    have hck : ck = 5 := by rw [← HCK.out]; unfold ckSn; rw [if_pos (by omega)]
    subst hck
    go_wp2_with fail
    go_ret
    exact ⟨rfl, HS2.out.g⟩
end Go.Proofs.Ytackckljldpldaa
