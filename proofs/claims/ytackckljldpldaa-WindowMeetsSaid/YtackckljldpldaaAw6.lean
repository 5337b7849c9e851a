/- Stage 6, the sanity check. -/
import Derived.Test.YtackckljldpldaaUl
import Derived.Test.YtackckljldpldaaMe
namespace Go.Proofs.Ytackckljldpldaa
open Go.RowKit
attribute [local go_sem ↓] Go.wp_at_zero Go.wp_at_succ loadAt_s

def sn6 : Sn := ⟨0, 3, 0, 0, 0, 0, 100, 60⟩
theorem aw_at6 : atSn sn6 0 5 40 50 6 = (39, 51) := by kernel_rfl
theorem aw_at66 : atSn sn6 0 5 40 50 66 = nothingSp := by kernel_rfl
theorem aw_meet : meetSp [(1, 5), (4, 9)] = ((4, 5), true) := by kernel_rfl
theorem aw_abv : abv 4 5 6 = -1 := by kernel_rfl
theorem aw_ck : ckSn sn6 = 0 := by kernel_rfl
theorem aw_less0 : lessP sn6 0 5 40 50 51 0 = true := by kernel_rfl
theorem aw_less1 : lessP sn6 0 5 40 50 51 1 = false := by kernel_rfl
theorem aw_until {u : Int} (h : UntR sn6 0 5 40 50 51 60 u) : u = 5 := by
  rcases h with ⟨h, _⟩ | ⟨_, r, hu, _, h1, _⟩
  · rw [aw_less0] at h; cases h
  · by_cases hr : r = 0
    · subst hr; simpa using hu
    · have := h1 0 (by omega)
      rw [show ((0 : Nat) : Int) + 1 = 1 by omega, aw_less1] at this
      cases this
/-- The sensor, the measurement, what is met. -/
structure AwS (w : World) (n1 n2 n3 : Nat) (W : World) : Prop where
  s1 : SnAt W n1 0 sn6
  m2 : MsAt W n2 0 5 40 50
  k3 : Bk W n3 #[.int .i64 4, .int .i64 5] 29
  g : w.grownBy W none
theorem AwS.by_ {w : World} {n1 n2 n3 : Nat} {W W' : World} (h : AwS w n1 n2 n3 W) (o : W.grownBy W' none) : AwS w n1 n2 n3 W' := ⟨h.s1.by_ o, h.m2.by_ o, h.k3.of o (by simp), gb_none h.g o⟩
theorem sl_span2 (W : World) (a b c d : Int) (T : TypeId) (n : Nat) (hn : W.heap.size = n) : Sl (W.alloc (.cells #[.int .i64 a, .int .i64 b, .int .i64 c, .int .i64 d] T)) (.slice (some ⟨n, 0, none⟩) 2 2) 2 [(a, b), (c, d)].length ([(a, b), (c, d)].flatMap spL) := by
  subst hn
  refine ⟨rfl, .inr ⟨_, 0, 2, rfl, Nat.le_refl _, by decide, fun j hj => ?_⟩⟩
  have k := Bk.new W #[.int .i64 a, .int .i64 b, .int .i64 c, .int .i64 d] T
  rcases (show j = 0 ∨ j = 1 ∨ j = 2 ∨ j = 3 by simp at hj; omega) with rfl | rfl | rfl | rfl
  · rw [Nat.zero_add, k.cell 0]; rfl
  · rw [Nat.zero_add, k.cell 1]; rfl
  · rw [Nat.zero_add, k.cell 2]; rfl
  · rw [Nat.zero_add, k.cell 3]; rfl

set_option maxRecDepth 100000 in
set_option maxHeartbeats 8000000 in
theorem awake6_any (w : World) : Calls Try.prog 35 #[] w fun e w' => e = .returned (.bool true) ∧ w.grownBy w' none := by
  have g1 := gb_alloc (gb_refl w none) (.cells (senL sn6).toArray 24)
  have S1 : SnAt (w.alloc (.cells (senL sn6).toArray 24)) w.heap.size 0 sn6 := Bk.snAt (Bk.new _ _ _)
  have H1 := Lib.hid (And.intro S1 g1)
  clear S1 g1
  simp only [senL, sn6] at H1
  go_enter Try.func35, Try.ntmps35
  go_upto_region 2 with fail
  generalize w.alloc _ = W1 at *
  generalize w.heap.size = n1 at *
  have g2 := gb_alloc (gb_refl W1 none) (.cells #[.int .i64 0, .int .i64 5, .int .i64 40, .int .i64 50] 43)
  have k2 := Bk.new W1 #[.int .i64 0, .int .i64 5, .int .i64 40, .int .i64 50] 43
  have H2 := Lib.hid (And.intro (H1.out.1.by_ g2) (And.intro (⟨k2.cell 0, k2.cell 1, k2.cell 2, k2.cell 3⟩ : MsAt _ _ 0 5 40 50) (gb_none H1.out.2 g2)))
  clear g2 k2 H1
  go_upto_region 3 with fail
  generalize W1.alloc _ = W2 at *
  generalize W1.heap.size = n2 at *
  have HM := Lib.hid (pMeet_any _ [(1, 5), (4, 9)] _ (sl_span2 W2 1 5 4 9 29 W2.heap.size rfl))
  rw [aw_meet] at HM
  dsimp only at HM
  have gm := gb_alloc (gb_refl W2 none) (.cells #[.int .i64 1, .int .i64 5, .int .i64 4, .int .i64 9] 29)
  have GM := Lib.hid gm
  clear gm
  go_wp2_with fail
  refine HM.out.mono ?_
  rintro e W3 ⟨rfl, hg⟩
  have g4 := gb_alloc (gb_none GM.out hg) (.cells #[.int .i64 4, .int .i64 5] 29)
  have H4 := Lib.hid (⟨H2.out.1.by_ g4, MsAt.by_ H2.out.2.1 g4, Bk.new W3 _ _, gb_none H2.out.2.2 g4⟩ : AwS w n1 n2 W3.heap.size (W3.alloc (.cells #[.int .i64 4, .int .i64 5] 29)))
  clear g4 hg GM HM H2
  go_upto_region 4 with fail
  generalize W3.alloc _ = W4 at *
  generalize W3.heap.size = n3 at *
  obtain ⟨na, nb, hno⟩ : ∃ a b, nothingSp = (a, b) := ⟨_, _, rfl⟩
  have RN := Lib.hid (fun w => nothing_any w)
  have A6 := Lib.hid (fun w => pAt_any sn6 0 5 40 50 6 w (by omega) (by omega) (by omega) (by omega))
  have A66 := Lib.hid (fun w => pAt_any sn6 0 5 40 50 66 w (by omega) (by omega) (by omega) (by omega))
  have AB := Lib.hid (fun w => pAbove_any 4 5 6 w)
  have UT := Lib.hid (fun w => pUntil_any sn6 0 5 40 50 51 60 w rfl (by omega) (by omega) (by omega) (by omega) (less_mono aw_ck (by omega) (by omega)))
  rw [aw_at6] at A6
  rw [aw_at66, hno] at A66
  rw [hno] at RN
  rw [aw_abv] at AB
  unfold msV spV at A6 A66
  unfold msV at UT
  dsimp only at A6 A66 RN
  clear hno
  have L := run_loadS H4.out.s1
  obtain ⟨m0, m1, m2, m3⟩ := H4.out.m2
  go_wp2_with fail
  refine (A6.out _).mono ?_
  rintro e W5 ⟨rfl, hg⟩
  have H5 := Lib.hid (H4.out.by_ hg)
  clear L m0 m1 m2 m3 hg H4
  have L := run_loadS H5.out.s1
  obtain ⟨m0, m1, m2, m3⟩ := H5.out.m2
  go_wp2_with fail
  refine (A66.out _).mono ?_
  rintro e W6 ⟨rfl, hg⟩
  have H6 := Lib.hid (H5.out.by_ hg)
  clear L m0 m1 m2 m3 hg H5
  go_wp2_with fail
  refine (RN.out _).mono ?_
  rintro e W7 ⟨rfl, hg⟩
  have H7 := Lib.hid (H6.out.by_ hg)
  clear hg H6
  have x0 : W7.cell? ⟨n3, 0, none⟩ = some (.int .i64 4) := H7.out.k3.cell 0
  have x1 : W7.cell? ⟨n3, 1, none⟩ = some (.int .i64 5) := H7.out.k3.cell 1
  have b1 : (na == na) = true := by simp
  have b2 : (nb == nb) = true := by simp
  go_wp2_with fail
  refine (AB.out _).mono ?_
  rintro e W8 ⟨rfl, hg⟩
  have H8 := Lib.hid (H7.out.by_ hg)
  clear x0 x1 hg H7
  have L := run_loadS H8.out.s1
  obtain ⟨m0, m1, m2, m3⟩ := H8.out.m2
  go_wp2_with fail
  refine (UT.out _).mono ?_
  rintro e W9 ⟨⟨u, rfl, hu⟩, hg⟩
  obtain rfl := aw_until hu
  go_wp2_with fail
  go_ret
  exact ⟨rfl, gb_none H8.out.g hg⟩
end Go.Proofs.Ytackckljldpldaa
