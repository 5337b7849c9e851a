/- The statement SensorRaw: the walk. -/
import Derived.Test.YtackckljldpldaaMs
import Derived.Test.YtackckljldpldaaRp
namespace Go.Proofs.Ytackckljldpldaa
open Go.RowKit
attribute [local go_sem ↓] Go.wp_at_zero Go.wp_at_succ loadAt_s

theorem pRaw_v (s : Sn) (v : Int) (w : World) :
    Calls Try.prog 27 #[snV s, .int .i64 v] w fun e w' => e = .returned (.tuple #[.int .i64 (rawSn s v).1, .bool (rawSn s v).2]) ∧ w.grownBy w' none := pRaw_any s v w
theorem refRaw_v (s : Sn) (v : Int) (w : World) :
    Calls Try.prog 28 #[snV s, .int .i64 v] w fun e w' => e = .returned (.tuple #[.int .i64 (rawSn s v).1, .bool (rawSn s v).2]) ∧ w.grownBy w' none := refRaw_any s v w

set_option maxRecDepth 100000 in
set_option maxHeartbeats 8000000 in
theorem raw_walk (cv : Value) (lc : List Nat) (v by_ : Int) (w : World) (hc : Sl w cv 1 lc.length (bytes lc)) (hb : ∀ x ∈ lc, x < 256) (hv1 : -9223372036854775808 ≤ v) (hv2 : v ≤ 9223372036854775807) :
    Calls Try.prog 5 #[cv, .int .i64 v, .int .i64 by_] w fun e w' => e = .returned (.bool true) ∧ w.grownBy w' none := by
  obtain ⟨a, cap, rfl, _, _, _⟩ := hc.shape
  have HM := Lib.hid (made_sl _ lc by_ _ hc hb)
  clear hc hb
  go_enter Try.func5, Try.ntmps5
  go_wp2_with fail
  refine HM.out.mono ?_
  rintro e W2 ⟨s, rfl, hg⟩
  have S3 : SnAt (W2.alloc (.cells (senL s).toArray 24)) W2.heap.size 0 s := Bk.snAt (Bk.new _ _ _)
  have HS3 := Lib.hid S3
  have G3 := Lib.hid (gb_alloc hg (.cells (senL s).toArray 24))
  clear S3 hg HM
  unfold senL at HS3 G3 ⊢
  go_upto_region 2 with fail
  generalize W2.alloc _ = W3 at *
  generalize W2.heap.size = n7 at *
  go_wp2_with fail
  refine (mod_pos v 400 _ (by omega) hv1 hv2 (by omega)).mono ?_
  rintro e W4 ⟨rfl, rfl⟩
  obtain ⟨k, hk⟩ : ∃ k, v % 400 = k := ⟨_, rfl⟩
  have hk1 : 0 ≤ k ∧ k < 400 := by omega
  rw [hk]
  clear hk
  have HP := Lib.hid (pRaw_v s (k - 100))
  have HR := Lib.hid (refRaw_v s (k - 100))
  obtain ⟨r, hr⟩ : ∃ r, rawSn s (k - 100) = r := ⟨_, rfl⟩
  rw [hr] at HP HR
  clear hr
  obtain ⟨r, b⟩ := r
  dsimp only at HP HR
  have L3 := run_loadS HS3.out
  go_wp2_with fail
  refine (HP.out _).mono ?_
  rintro e W5 ⟨rfl, hg5⟩
  have HS5 := Lib.hid (HS3.out.by_ hg5)
  have G5 := Lib.hid (gb_none G3.out hg5)
  clear L3 HS3 G3 hg5
  have L5 := run_loadS HS5.out
  go_wp2_with fail
  refine (HR.out _).mono ?_
  rintro e W6 ⟨rfl, hg6⟩
  have G6 := Lib.hid (gb_none G5.out hg6)
  clear L5 HS5 G5 hg6
  have h1 : (r == r) = true := by simp
  have h2 : (b == b) = true := by simp
  go_wp2_with fail
  refine (awake_any _).mono ?_
  rintro e W7 ⟨rfl, hg⟩
  go_wp2_with fail
  go_ret
  exact ⟨rfl, gb_none G6.out hg⟩
end Go.Proofs.Ytackckljldpldaa
