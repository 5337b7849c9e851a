/- Stage 6, Above: the program's and the document's. -/
import Derived.Test.YtackckljldpldaaNs
import Derived.Test.YtackckljldpldaaRp
namespace Go.Proofs.Ytackckljldpldaa
open Go.RowKit
attribute [local go_sem ↓] Go.wp_at_zero Go.wp_at_succ

/-- A span as a value. -/
def spV (p : Int × Int) : Value := .agg #[.int .i64 p.1, .int .i64 p.2]
/-- Whether the numbers of a span are at least v. -/
def abv (lo hi v : Int) : Int := if hi < lo then 0 else if v ≤ lo then 1 else if hi < v then -1 else 0

set_option maxHeartbeats 1000000 in
theorem empty_any (lo hi : Int) (w : World) : Calls Try.prog 60 #[.agg #[.int .i64 lo, .int .i64 hi]] w fun e w' => e = .returned (.bool (decide (hi < lo))) ∧ w.grownBy w' none := by
  have k := Bk.new w #[.int .i64 lo, .int .i64 hi] 29
  have g := gb_alloc (gb_refl w none) (.cells #[.int .i64 lo, .int .i64 hi] 29)
  go_enter Try.func60, Try.ntmps60
  have HG := Lib.hid g
  clear g
  go_upto_region 1 with fail
  generalize w.alloc _ = W at *
  have k0 := k.cell 0
  have k1 := k.cell 1
  clear k
  go_wp2_with fail
  go_ret
  exact ⟨by first | rfl | simp, HG.out⟩

set_option maxHeartbeats 4000000 in
theorem pAbove_any (lo hi v : Int) (w : World) : Calls Try.prog 40 #[.agg #[.int .i64 lo, .int .i64 hi], .int .i64 v] w fun e w' => e = .returned (.int .i64 (abv lo hi v)) ∧ w.grownBy w' none := by
  have k := Lib.hid (Bk.new w #[.int .i64 lo, .int .i64 hi] 29)
  have g := Lib.hid (gb_alloc (gb_refl w none) (.cells #[.int .i64 lo, .int .i64 hi] 29))
  obtain ⟨r, hr⟩ : ∃ r, abv lo hi v = r := ⟨_, rfl⟩
  rw [hr]
  have HR := Lib.hid hr
  have HE := Lib.hid (fun w => empty_any lo hi w)
  clear hr
  go_enter Try.func40, Try.ntmps40
  go_upto_region 1 with fail
  generalize w.alloc _ = W at *
  generalize w.heap.size = n at *
  have k0 : W.cell? ⟨n, 0, none⟩ = some (.int .i64 lo) := k.out.cell 0
  have k1 : W.cell? ⟨n, 1, none⟩ = some (.int .i64 hi) := k.out.cell 1
  go_wp2_with fail
  refine (HE.out _).mono ?_
  rintro e W2 ⟨rfl, hg⟩
  have k2 := Lib.hid (k.out.of hg (by simp))
  have g2 := Lib.hid (gb_none g.out hg)
  clear k0 k1 k hg
  have k0 : W2.cell? ⟨n, 0, none⟩ = some (.int .i64 lo) := k2.out.cell 0
  have k1 : W2.cell? ⟨n, 1, none⟩ = some (.int .i64 hi) := k2.out.cell 1
  by_cases c1 : hi < lo
  · rw [decide_eq_true c1]
    have hr : r = 0 := by rw [← HR.out]; unfold abv; rw [if_pos c1]
    subst hr
    go_wp2_with fail
    go_ret
    exact ⟨rfl, g2.out⟩
  · rw [decide_eq_false c1]
    by_cases c2 : v ≤ lo
    · have c2' : decide (v ≤ lo) = true := by simpa using c2
      have hr : r = 1 := by rw [← HR.out]; unfold abv; rw [if_neg c1, if_pos c2]
      subst hr
      go_wp2_with fail
      go_ret
      exact ⟨rfl, g2.out⟩
    · have c2' : decide (v ≤ lo) = false := by simpa using c2
      by_cases c3 : hi < v
      · have c3' : decide (hi < v) = true := by simpa using c3
        have hr : r = -1 := by rw [← HR.out]; unfold abv; rw [if_neg c1, if_neg c2, if_pos c3]
        subst hr
        go_wp2_with fail
        go_ret
        exact ⟨rfl, g2.out⟩
      · have c3' : decide (hi < v) = false := by simpa using c3
        have hr : r = 0 := by rw [← HR.out]; unfold abv; rw [if_neg c1, if_neg c2, if_neg c3]
        subst hr
        go_wp2_with fail
        go_ret
        exact ⟨rfl, g2.out⟩

set_option maxHeartbeats 4000000 in
theorem rAbove_any (lo hi v : Int) (w : World) : Calls Try.prog 41 #[.agg #[.int .i64 lo, .int .i64 hi], .int .i64 v] w fun e w' => e = .returned (.int .i64 (abv lo hi v)) ∧ w.grownBy w' none := by
  have k := Lib.hid (Bk.new w #[.int .i64 lo, .int .i64 hi] 29)
  have g := Lib.hid (gb_alloc (gb_refl w none) (.cells #[.int .i64 lo, .int .i64 hi] 29))
  obtain ⟨r, hr⟩ : ∃ r, abv lo hi v = r := ⟨_, rfl⟩
  rw [hr]
  have HR := Lib.hid hr
  clear hr
  go_enter Try.func41, Try.ntmps41
  go_upto_region 1 with fail
  generalize w.alloc _ = W at *
  generalize w.heap.size = n at *
  have k0 : W.cell? ⟨n, 0, none⟩ = some (.int .i64 lo) := k.out.cell 0
  have k1 : W.cell? ⟨n, 1, none⟩ = some (.int .i64 hi) := k.out.cell 1
  by_cases c1 : hi < lo
  · have c1' : decide (hi < lo) = true := by simpa using c1
    have hr : r = 0 := by rw [← HR.out]; unfold abv; rw [if_pos c1]
    subst hr
    go_wp2_with fail
    go_ret
    exact ⟨rfl, g.out⟩
  · have c1' : decide (hi < lo) = false := by simpa using c1
    by_cases c2 : v ≤ lo
    · have c2' : decide (v ≤ lo) = true := by simpa using c2
      have hr : r = 1 := by rw [← HR.out]; unfold abv; rw [if_neg c1, if_pos c2]
      subst hr
      go_wp2_with fail
      go_ret
      exact ⟨rfl, g.out⟩
    · have c2' : decide (v ≤ lo) = false := by simpa using c2
      by_cases c3 : hi < v
      · have c3' : decide (hi < v) = true := by simpa using c3
        have hr : r = -1 := by rw [← HR.out]; unfold abv; rw [if_neg c1, if_neg c2, if_pos c3]
        subst hr
        go_wp2_with fail
        go_ret
        exact ⟨rfl, g.out⟩
      · have c3' : decide (hi < v) = false := by simpa using c3
        have hr : r = 0 := by rw [← HR.out]; unfold abv; rw [if_neg c1, if_neg c2, if_neg c3]
        subst hr
        go_wp2_with fail
        go_ret
        exact ⟨rfl, g.out⟩
end Go.Proofs.Ytackckljldpldaa
