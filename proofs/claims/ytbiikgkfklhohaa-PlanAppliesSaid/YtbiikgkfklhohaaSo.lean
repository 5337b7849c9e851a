/- slices.Sort of lists of at most two numbers that are sorted. -/
import Derived.Test.YtbiikgkfklhohaaRs
import Derived.Handy
namespace Go.Proofs.Ytbiikgkfklhohaa
open Go.RowKit
attribute [local go_sem ↓] Go.wp_at_zero Go.wp_at_succ

theorem less_any (a b : Int) (w : World) : Calls Try.prog 65 #[.int .i64 a, .int .i64 b] w fun e w' => e = .returned (.bool (decide (a < b))) ∧ w = w' := by
  go_enter Try.func65, Try.ntmps65
  go_wp2
  go_ret
  exact ⟨rfl, rfl⟩

set_option maxHeartbeats 1000000 in
theorem ins_short (a : Option Addr) (n cap : Nat) (w : World) (hn : n ≤ 1) :
    Calls Try.prog 59 #[.slice a n cap, .int .i64 0, .int .i64 n] w fun e w' => e = .returned (.tuple #[]) ∧ w = w' := by
  have h1 : decide ((1 : Int) < (n : Int)) = false := by simp; omega
  go_enter Try.func59, Try.ntmps59
  go_wp2
  refine wp_loop_rounds 1 ?_
  rw [rounds_succ]
  go_wp2
  go_end0
  exact ⟨rfl, rfl⟩

set_option maxHeartbeats 1000000 in
theorem ins_01 (g off cap : Nat) (w : World) (h0 : w.cell? ⟨g, off, none⟩ = some (.int .i64 0)) (h1 : w.cell? ⟨g, off + 1, none⟩ = some (.int .i64 1)) :
    Calls Try.prog 59 #[.slice (some ⟨g, off, none⟩) 2 cap, .int .i64 0, .int .i64 2] w fun e w' => e = .returned (.tuple #[]) ∧ w.grownBy w' none := by
  go_enter Try.func59, Try.ntmps59
  go_wp2
  refine wp_loop_rounds 2 ?_
  rw [rounds_succ]
  go_wp2
  refine wp_loop_rounds 1 ?_
  rw [rounds_succ]
  go_wp2
  go_quiet ((go_at_call 65; exact Calls.quiet_of_same ((less_any _ _ _).mono fun _ _ h => ⟨h.1, h.2.symm⟩)))
  go_wp2
  rw [rounds_succ]
  go_wp2
  go_end0
  exact ⟨rfl, gb_drewN (gb_refl _ _) _⟩

set_option maxRecDepth 100000 in
set_option maxHeartbeats 4000000 in
theorem len_01 (n : Int) (h : n = 0 ∨ n = 1 ∨ n = 2) (w : World) : Calls Try.prog 58 #[.int .u64 n] w fun e w' => (∃ k : Int, e = .returned (.int .i64 k)) ∧ w = w' := by
  rcases h with rfl | rfl | rfl
  all_goals
    go_enter Try.func58, Try.ntmps58
    go_wp2
    go_ret
    exact ⟨⟨_, rfl⟩, rfl⟩

set_option maxHeartbeats 1000000 in
theorem pdq_short (a : Option Addr) (n cap : Nat) (l : Int) (w : World) (hn : n ≤ 1) :
    Calls Try.prog 57 #[.slice a n cap, .int .i64 0, .int .i64 n, .int .i64 l] w fun e w' => e = .returned (.tuple #[]) ∧ w = w' := by
  have h1 : (n : Int) ≤ 12 := by omega
  go_enter Try.func57, Try.ntmps57
  go_wp2
  refine wp_loop_rounds 1 ?_
  rw [rounds_succ]
  go_wp2_with (go_at_call 59; refine (ins_short _ _ _ _ hn).mono ?_; rintro e w' ⟨rfl, rfl⟩)
  refine bodyPost_ret (results_none rfl _ _ _) rfl ?_
  exact ⟨rfl, rfl⟩
set_option maxHeartbeats 1000000 in
theorem pdq_01 (g off cap : Nat) (l : Int) (w : World) (h0 : w.cell? ⟨g, off, none⟩ = some (.int .i64 0)) (h1 : w.cell? ⟨g, off + 1, none⟩ = some (.int .i64 1)) :
    Calls Try.prog 57 #[.slice (some ⟨g, off, none⟩) 2 cap, .int .i64 0, .int .i64 2, .int .i64 l] w fun e w' => e = .returned (.tuple #[]) ∧ w.grownBy w' none := by
  go_enter Try.func57, Try.ntmps57
  go_wp2
  refine wp_loop_rounds 1 ?_
  rw [rounds_succ]
  go_wp2_with (go_at_call 59; refine (ins_01 _ _ _ _ h0 h1).mono ?_; rintro e w' ⟨rfl, hg⟩)
  refine bodyPost_ret (results_none rfl _ _ _) rfl ?_
  exact ⟨rfl, hg⟩

set_option maxHeartbeats 1000000 in
theorem sort_short (a : Option Addr) (n cap : Nat) (w : World) (hn : n ≤ 1) :
    Calls Try.prog 49 #[.slice a n cap] w fun e w' => e = .returned (.tuple #[]) ∧ w = w' := by
  have h1 : (n : Int) ≤ 1 := by omega
  go_enter Try.func49, Try.ntmps49
  go_wp2_with (first
    | (go_at_call 58; refine (len_01 _ (by omega) _).mono ?_; rintro e w' ⟨⟨k, rfl⟩, rfl⟩)
    | (go_at_call 57; refine (pdq_short _ _ _ _ _ hn).mono ?_; rintro e w' ⟨rfl, rfl⟩))
  go_end0
  exact ⟨rfl, rfl⟩
set_option maxHeartbeats 1000000 in
theorem sort_01 (g off cap : Nat) (w : World) (h0 : w.cell? ⟨g, off, none⟩ = some (.int .i64 0)) (h1 : w.cell? ⟨g, off + 1, none⟩ = some (.int .i64 1)) :
    Calls Try.prog 49 #[.slice (some ⟨g, off, none⟩) 2 cap] w fun e w' => e = .returned (.tuple #[]) ∧ w.grownBy w' none := by
  go_enter Try.func49, Try.ntmps49
  go_wp2_with (first
    | (go_at_call 58; refine (len_01 _ (by omega) _).mono ?_; rintro e w' ⟨⟨k, rfl⟩, rfl⟩)
    | (go_at_call 57; refine (pdq_01 _ _ _ _ _ h0 h1).mono ?_; rintro e w' ⟨rfl, hg⟩))
  go_end0
  exact ⟨rfl, hg⟩
end Go.Proofs.Ytbiikgkfklhohaa
