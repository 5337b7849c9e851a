/- The sanity check. -/
import Derived.Test.YtbiikgkfklhohaaCu
namespace Go.Proofs.Ytbiikgkfklhohaa
open Go.RowKit
attribute [local go_sem ↓] Go.wp_at_zero Go.wp_at_succ

set_option maxHeartbeats 1000000 in
theorem ints_a (g h cap : Nat) (w : World) (h0 : w.cell? ⟨g, 0, none⟩ = some (.int .i64 1)) (h1 : w.cell? ⟨h, 0, none⟩ = some (.int .i64 1)) :
    Calls Try.prog 24 #[.slice (some ⟨g, 0, none⟩) 1 cap, .slice (some ⟨h, 0, none⟩) 1 1] w fun e w' => e = .returned (.bool true) ∧ w.grownBy w' none := by
  go_enter Try.func24, Try.ntmps24
  go_wp2_with fail
  refine wp_loop_rounds 2 ?_
  rw [rounds_succ]
  go_wp2_with fail
  go_quiet (fail)
  go_wp2_with fail
  rw [rounds_succ]
  go_wp2_with fail
  go_ret
  exact ⟨rfl, gb_drewN (gb_refl _ _) _⟩

theorem own_cap {W : World} {base : Nat} {e : TypeId} {size : Nat} {v : Value} {n : Nat} {xs : List Value} (h : W.ownsRow base e size v n xs) : ∃ a c, v = .slice a n c ∧ n ≤ c := by
  rcases h.2 with ⟨h2, rfl⟩ | ⟨g, cap, cur, h2, _, _, hc, _⟩
  · exact ⟨_, _, h2, Nat.zero_le _⟩
  · exact ⟨_, _, h2, hc⟩

def aEd : Ed := ⟨3, ⟨0, false⟩, rd0, 0, ⟨0, 0⟩⟩
theorem apply_a : applyMn (aMn false) aEd = (aMn true, 0) := by rfl

theorem aw_start (w : World) : Bk ((((w.alloc (.cells #[.int .i64 0, .int .i64 1, .int .i64 1, .int .i64 1, .bool false, .bool false, .int .i64 1, .int .i64 1, .int .i64 0, .int .i64 0] 41)).alloc (.cells #[.int .i64 0, .bool true, .int .i64 0, .bool false] 37)).alloc (.cells #[.int .i64 0, .int .i64 1, .int .i64 1, .int .i64 1, .bool false, .bool false, .int .i64 1, .int .i64 1, .int .i64 0, .int .i64 0] 41)).alloc (.cells #[.slice (some ⟨w.heap.size + 1, 0, none⟩) 2 2, .slice (some ⟨w.heap.size + 1 + 1, 0, none⟩) 1 1] 26)) (w.heap.size + 1 + 1 + 1) #[.slice (some ⟨w.heap.size + 1, 0, none⟩) 2 2, .slice (some ⟨w.heap.size + 1 + 1, 0, none⟩) 1 1] 26 ∧
    MnV ((((w.alloc (.cells #[.int .i64 0, .int .i64 1, .int .i64 1, .int .i64 1, .bool false, .bool false, .int .i64 1, .int .i64 1, .int .i64 0, .int .i64 0] 41)).alloc (.cells #[.int .i64 0, .bool true, .int .i64 0, .bool false] 37)).alloc (.cells #[.int .i64 0, .int .i64 1, .int .i64 1, .int .i64 1, .bool false, .bool false, .int .i64 1, .int .i64 1, .int .i64 0, .int .i64 0] 41)).alloc (.cells #[.slice (some ⟨w.heap.size + 1, 0, none⟩) 2 2, .slice (some ⟨w.heap.size + 1 + 1, 0, none⟩) 1 1] 26)) (.agg #[.slice (some ⟨w.heap.size + 1, 0, none⟩) 2 2, .slice (some ⟨w.heap.size + 1 + 1, 0, none⟩) 1 1]) (aMn false) ∧ w.grownBy ((((w.alloc (.cells #[.int .i64 0, .int .i64 1, .int .i64 1, .int .i64 1, .bool false, .bool false, .int .i64 1, .int .i64 1, .int .i64 0, .int .i64 0] 41)).alloc (.cells #[.int .i64 0, .bool true, .int .i64 0, .bool false] 37)).alloc (.cells #[.int .i64 0, .int .i64 1, .int .i64 1, .int .i64 1, .bool false, .bool false, .int .i64 1, .int .i64 1, .int .i64 0, .int .i64 0] 41)).alloc (.cells #[.slice (some ⟨w.heap.size + 1, 0, none⟩) 2 2, .slice (some ⟨w.heap.size + 1 + 1, 0, none⟩) 1 1] 26)) none := by
  have k2 := Bk.new (w.alloc (.cells #[.int .i64 0, .int .i64 1, .int .i64 1, .int .i64 1, .bool false, .bool false, .int .i64 1, .int .i64 1, .int .i64 0, .int .i64 0] 41)) #[.int .i64 0, .bool true, .int .i64 0, .bool false] 37
  have k3 := Bk.new ((w.alloc (.cells #[.int .i64 0, .int .i64 1, .int .i64 1, .int .i64 1, .bool false, .bool false, .int .i64 1, .int .i64 1, .int .i64 0, .int .i64 0] 41)).alloc (.cells #[.int .i64 0, .bool true, .int .i64 0, .bool false] 37)) #[.int .i64 0, .int .i64 1, .int .i64 1, .int .i64 1, .bool false, .bool false, .int .i64 1, .int .i64 1, .int .i64 0, .int .i64 0] 41
  have k4 := Bk.new (((w.alloc (.cells #[.int .i64 0, .int .i64 1, .int .i64 1, .int .i64 1, .bool false, .bool false, .int .i64 1, .int .i64 1, .int .i64 0, .int .i64 0] 41)).alloc (.cells #[.int .i64 0, .bool true, .int .i64 0, .bool false] 37)).alloc (.cells #[.int .i64 0, .int .i64 1, .int .i64 1, .int .i64 1, .bool false, .bool false, .int .i64 1, .int .i64 1, .int .i64 0, .int .i64 0] 41)) #[.slice (some ⟨w.heap.size + 1, 0, none⟩) 2 2, .slice (some ⟨w.heap.size + 1 + 1, 0, none⟩) 1 1] 26
  have g3 := gb_alloc (gb_refl ((w.alloc (.cells #[.int .i64 0, .int .i64 1, .int .i64 1, .int .i64 1, .bool false, .bool false, .int .i64 1, .int .i64 1, .int .i64 0, .int .i64 0] 41)).alloc (.cells #[.int .i64 0, .bool true, .int .i64 0, .bool false] 37)) none) (.cells #[.int .i64 0, .int .i64 1, .int .i64 1, .int .i64 1, .bool false, .bool false, .int .i64 1, .int .i64 1, .int .i64 0, .int .i64 0] 41)
  have g4 := gb_alloc (gb_refl (((w.alloc (.cells #[.int .i64 0, .int .i64 1, .int .i64 1, .int .i64 1, .bool false, .bool false, .int .i64 1, .int .i64 1, .int .i64 0, .int .i64 0] 41)).alloc (.cells #[.int .i64 0, .bool true, .int .i64 0, .bool false] 37)).alloc (.cells #[.int .i64 0, .int .i64 1, .int .i64 1, .int .i64 1, .bool false, .bool false, .int .i64 1, .int .i64 1, .int .i64 0, .int .i64 0] 41)) none) (.cells #[.slice (some ⟨w.heap.size + 1, 0, none⟩) 2 2, .slice (some ⟨w.heap.size + 1 + 1, 0, none⟩) 1 1] 26)
  have k2' := (k2.of g3 (by simp)).of g4 (by simp)
  have k3' := k3.of g4 (by simp)
  simp only [World.size_alloc] at k2' k3' k4
  refine ⟨k4, ⟨_, _, rfl, ⟨rfl, .inr ⟨_, 0, 2, rfl, Nat.le_refl _, by simp [maxLen], fun j hj => ?_⟩⟩, ⟨rfl, .inr ⟨_, 0, 1, rfl, Nat.le_refl _, by simp [maxLen], fun j hj => ?_⟩⟩⟩, gb_alloc (gb_alloc (gb_alloc (gb_alloc (gb_refl _ _) _) _) _) _⟩
  · rw [Nat.zero_add, k2'.cell]
    have : j = 0 ∨ j = 1 ∨ j = 2 ∨ j = 3 := by simp [aMn] at hj; omega
    rcases this with rfl | rfl | rfl | rfl <;> rfl
  · rw [Nat.zero_add, k3'.cell]
    have : j = 0 ∨ j = 1 ∨ j = 2 ∨ j = 3 ∨ j = 4 ∨ j = 5 ∨ j = 6 ∨ j = 7 ∨ j = 8 ∨ j = 9 := by simp [aMn] at hj; omega
    rcases this with rfl | rfl | rfl | rfl | rfl | rfl | rfl | rfl | rfl | rfl <;> rfl

set_option maxRecDepth 100000 in
set_option maxHeartbeats 4000000 in
theorem awake_any (w : World) : Calls Try.prog 15 #[] w fun e w' => e = .returned (.bool true) ∧ w.grownBy w' none := by
  go_enter Try.func15, Try.ntmps15
  go_wp2_with fail
  obtain ⟨kM, hM, hg⟩ := aw_start w
  generalize (((w.alloc _).alloc _).alloc _).alloc _ = W at *
  generalize w.heap.size + 1 + 1 + 1 = n3 at *
  generalize w.heap.size + 1 + 1 = n2 at *
  generalize w.heap.size + 1 = n1 at *
  have hA := apply_any _ (aMn false) aEd W hM
  rw [apply_a] at hA
  refine hA.mono ?_
  rintro e w2 ⟨v', rfl, ⟨pv, rv, rfl, op, or⟩, g2⟩
  obtain ⟨xa, xc, rfl, hxc⟩ := own_cap (show w2.ownsRow W.heap.size 37 2 pv 2 _ from op)
  obtain ⟨ya, yc, rfl, hyc⟩ := own_cap (show w2.ownsRow W.heap.size 41 10 rv 1 _ from or)
  have hO : MnV w2 (.agg #[.slice xa 2 xc, .slice ya 1 yc]) (aMn true) := ⟨_, _, rfl, own_sl op, own_sl or⟩
  have hM2 := hM.by_ g2
  have kM2 := kM.of g2 (by simp)
  have G2 := gb_none hg g2
  clear hA op or g2 hM kM hg
  have HO := Lib.hid hO
  have HM2 := Lib.hid hM2
  have HG := Lib.hid G2
  have kx := Bk.new w2 #[.slice xa 2 xc, .slice ya 1 yc] 26
  have ga := gb_alloc (gb_refl w2 none) (.cells #[.slice xa 2 xc, .slice ya 1 yc] 26)
  have kc := kM2.cell
  have hz := kM2.lt
  replace kM2 := kM2.of ga (by simp)
  have HGA := Lib.hid ga
  have HK := Lib.hid kM2
  have HX := Lib.hid kx
  clear hO hM2 G2 kM2 kx ga
  go_wp2_with fail
  generalize w2.alloc _ = W3 at *
  generalize w2.heap.size = nx at *
  clear kc
  refine (valid_any _ (aMn false) _ (HM2.out.by_ HGA.out)).mono ?_
  rw [ck_a]
  rintro e w4 ⟨rfl, hb⟩
  have K4 := HK.out.of (gb_b hb) (by simp)
  have X4 := HX.out.of (gb_b hb) (by simp)
  have G4 := gb_none HGA.out (gb_b hb)
  clear hb HK HX HGA
  have kc0 := K4.cell
  go_wp2_with fail
  refine (cutOff_open _ _ _ _ _ (HM2.out.by_ G4) (by omega)).mono ?_
  rintro e w5 ⟨rfl, g5⟩
  have X5 := X4.of g5 (by simp)
  have G5 := gb_none G4 g5
  clear K4 X4 G4 g5 kc0
  have kc0 := X5.cell
  have HG5 := Lib.hid G5
  clear X5 G5
  go_wp2_with fail
  refine (cutOff_closed _ _ _ _ _ (HO.out.by_ HG5.out) hxc).mono ?_
  rintro e w6 ⟨gc, capc, rfl, q6, g6⟩
  have hzc := World.block_lt_of_cell? w6 _ q6
  have q7 : (w6.alloc (.cells #[.int .i64 1] 3)).cell? ⟨gc, 0, none⟩ = some (.int .i64 1) := by
    rw [← q6]
    exact gb_cell (gb_alloc (gb_refl w6 none) _) hzc (by simp) 0
  have q8 : (w6.alloc (.cells #[.int .i64 1] 3)).cell? ⟨w6.heap.size, 0, none⟩ = some (.int .i64 1) := (Bk.new w6 #[.int .i64 1] 3).cell 0
  have Q7 := Lib.hid q7
  have Q8 := Lib.hid q8
  clear kc0 q6 q7 q8
  go_wp2_with (go_at_call 24; refine (ints_a gc _ capc _ Q7.out Q8.out).mono ?_; rintro e w7 ⟨rfl, g7⟩)
  go_ret
  exact ⟨rfl, gb_none (gb_alloc (gb_none (gb_none HG.out HG5.out) g6) _) g7⟩
end Go.Proofs.Ytbiikgkfklhohaa
