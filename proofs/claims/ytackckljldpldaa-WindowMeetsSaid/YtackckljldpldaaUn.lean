/- Stage 6, the program's Until. -/
import Derived.Test.YtackckljldpldaaPa6
import Derived.Test.YtackckljldpldaaSs
namespace Go.Proofs.Ytackckljldpldaa
open Go.RowKit
attribute [local go_sem ↓] Go.wp_at_zero Go.wp_at_succ loadAt_s

/-- Whether a value is surely less than v, k seconds later. -/
def lessP (s : Sn) (ms mt lo hi v k : Int) : Bool := decide (atSn s ms mt lo hi (mt + k) ≠ nothingSp) && decide (abv (atSn s ms mt lo hi (mt + k)).1 (atSn s ms mt lo hi (mt + k)).2 v = -1)
/-- The measurement in a variable. -/
def MsAt (W : World) (g : Nat) (ms mt lo hi : Int) : Prop := W.cell? ⟨g, 0, none⟩ = some (.int .i64 ms) ∧ W.cell? ⟨g, 1, none⟩ = some (.int .i64 mt) ∧ W.cell? ⟨g, 2, none⟩ = some (.int .i64 lo) ∧ W.cell? ⟨g, 3, none⟩ = some (.int .i64 hi)
theorem MsAt.by_ {W W' : World} {g : Nat} {ms mt lo hi : Int} (h : MsAt W g ms mt lo hi) (q : W.grownBy W' none) : MsAt W' g ms mt lo hi := ⟨cell_by h.1 q, cell_by h.2.1 q, cell_by h.2.2.1 q, cell_by h.2.2.2 q⟩
/-- While a time is looked at. -/
structure LeS (w : World) (n6 bv : Nat) (x y v : Int) (W : World) : Prop where
  k6 : Bk W n6 #[.int .i64 x, .int .i64 y] 29
  cv : W.cell? ⟨bv, 0, none⟩ = some (.int .i64 v)
  g : w.grownBy W none
theorem LeS.by_ {w : World} {n6 bv : Nat} {x y v : Int} {W W' : World} (h : LeS w n6 bv x y v W) (o : W.grownBy W' none) : LeS w n6 bv x y v W' := ⟨h.k6.of o (by simp), cell_by h.cv o, gb_none h.g o⟩
theorem LeS.all {w : World} {n6 bv : Nat} {x y v : Int} {W : World} (h : LeS w n6 bv x y v W) : W.cell? ⟨n6, 0, none⟩ = some (.int .i64 x) ∧ W.cell? ⟨n6, 1, none⟩ = some (.int .i64 y) ∧ W.cell? ⟨bv, 0, none⟩ = some (.int .i64 v) ∧ LeS w n6 bv x y v W := ⟨h.k6.cell 0, h.k6.cell 1, h.cv, h⟩

set_option maxRecDepth 100000 in
set_option maxHeartbeats 16000000 in
theorem less_any (bs bm bv : Nat) (s : Sn) (ms mt lo hi v k : Int) (W : World) (hs : SnAt W bs 0 s) (hm : MsAt W bm ms mt lo hi) (hv : W.cell? ⟨bv, 0, none⟩ = some (.int .i64 v))
    (h1 : -4503599627370496 ≤ lo ∧ lo ≤ 4503599627370496) (h2 : -4503599627370496 ≤ hi ∧ hi ≤ 4503599627370496) (h3 : -549755813888 ≤ mt ∧ mt ≤ 549755813888) (h4 : 0 ≤ k ∧ k ≤ 549755813888) :
    Calls Try.prog 61 #[.int .i64 k, .pointer (some ⟨bs, 0, none⟩), .pointer (some ⟨bm, 0, none⟩), .pointer (some ⟨bv, 0, none⟩)] W fun e w' => e = .returned (.bool (lessP s ms mt lo hi v k)) ∧ W.grownBy w' none := by
  obtain ⟨r, hr⟩ : ∃ r, lessP s ms mt lo hi v k = r := ⟨_, rfl⟩
  rw [hr]
  obtain ⟨t, ht⟩ : ∃ t, mt + k = t := ⟨_, rfl⟩
  have hw : wrap64 (mt + k) = t := by rw [ht]; exact IntWalk.wrap64_in t (by omega)
  obtain ⟨p, hp⟩ : ∃ p, atSn s ms mt lo hi t = p := ⟨_, rfl⟩
  have HA := Lib.hid (fun w => pAt_any s ms mt lo hi t w h1 h2 (by omega) (by omega))
  rw [hp] at HA
  obtain ⟨na, nb, hno⟩ : ∃ a b, nothingSp = (a, b) := ⟨_, _, rfl⟩
  have PN := Lib.hid (fun w => pnothing_any w)
  rw [hno] at PN
  dsimp only at PN
  unfold lessP at hr
  rw [ht, hp, hno] at hr
  obtain ⟨x, y⟩ := p
  dsimp only at hr
  have HB := Lib.hid (fun w => pAbove_any x y v w)
  obtain ⟨ab, hab⟩ : ∃ ab, abv x y v = ab := ⟨_, rfl⟩
  rw [hab] at hr HB
  have HR := Lib.hid hr
  unfold msV spV at HA
  dsimp only at HA
  have L0 := run_loadS hs
  obtain ⟨m0, m1, m2, m3⟩ := hm
  have HV := Lib.hid hv
  clear hr ht hp hno hab hs hv h1 h2 h3 h4
  go_enter Try.func61, Try.ntmps61
  go_wp2_with fail
  refine (HA.out _).mono ?_
  rintro e W2 ⟨rfl, hg⟩
  have g3 := gb_alloc hg (.cells #[.int .i64 x, .int .i64 y] 29)
  have HS3 := Lib.hid (⟨Bk.new W2 _ _, cell_by HV.out g3, g3⟩ : LeS W W2.heap.size bv x y v (W2.alloc (.cells #[.int .i64 x, .int .i64 y] 29)))
  clear g3 hg L0 m0 m1 m2 m3 HA HV hw
  go_upto_region 2 with fail
  generalize W2.alloc _ = W3 at *
  generalize W2.heap.size = n6 at *
  have hS0 := LeS.all (HS3.out.by_ (gb_drew (gb_refl W3 none)))
  clear HS3
  by_cases c1 : x = na
  · subst c1
    have c1' : (x == x) = true := by simp
    by_cases c2 : y = nb
    · subst c2
      have c2' : (y == y) = true := by simp
      have hr : r = false := by rw [← HR.out]; simp
      subst hr
      clear HR
      refine wp_region_held_drew (S := (fun w' => w'.cell? ⟨n6, 0, none⟩ = some (.int .i64 x) ∧ w'.cell? ⟨n6, 1, none⟩ = some (.int .i64 y) ∧ w'.cell? ⟨bv, 0, none⟩ = some (.int .i64 v) ∧ LeS W n6 bv x y v w')) (by kernel_rfl) ?_ (fun hHeld => ?_)
      · exact hS0
      refine wpAnyH_take (i := 0) (oi := _) (v := ?_) rfl (by kernel_rfl) (by kernel_rfl) (by kernel_rfl) (fun _ _ _ h => h) (Or.inl ⟨by rfl, ?_⟩) (by assumption) ?_
      rotate_left 1
      · intro w hSw; (try dsimp only at hSw); go_simp; try (with_reducible rfl)
      try simp only [Act.put, List.getElem_toArray, List.getElem_cons_zero, List.setIfInBounds_toArray, List.set_cons_zero, List.set_cons_succ]
      refine wpAnyH_ready (rs := [1]) (by kernel_rfl) (by simp) ?_
      refine AllReadyH.cons (o := _) rfl (fun K hK => ?_) AllReadyH.nil
      go_simp
      refine (PN.out _).mono ?_
      rintro e w6 ⟨rfl, hg6⟩
      have hS6 := LeS.all (LeS.by_ hHeld.2.2.2 hg6)
      clear hg6
      go_wp2_with fail
      refine hK.out _ _ ?_ (fun hHeld2 => ?_)
      · exact hS6
      clear hK K hHeld
      have hHeld := hHeld2
      clear hHeld2
      try simp only [Act.put, List.getElem_toArray, List.getElem_cons_zero, List.getElem_cons_succ, List.setIfInBounds_toArray, List.set_cons_zero, List.set_cons_succ]
      refine wpAnyH_take (i := 2) (oi := _) (v := ?_) rfl (by kernel_rfl) (by kernel_rfl) (by kernel_rfl) (fun _ _ _ h => h) (Or.inl ⟨by rfl, ?_⟩) (by assumption) ?_
      rotate_left 1
      · intro w hSw; (try dsimp only at hSw); go_simp; try (with_reducible rfl)
      try simp only [Act.put, List.getElem_toArray, List.getElem_cons_zero, List.getElem_cons_succ, List.setIfInBounds_toArray, List.set_cons_zero, List.set_cons_succ]
      refine wpAnyH_take (i := 3) (oi := _) (v := ?_) rfl (by kernel_rfl) (by kernel_rfl) (by kernel_rfl) (fun _ _ _ h => h) (Or.inl ⟨by rfl, ?_⟩) (by assumption) ?_
      rotate_left 1
      · intro w hSw; (try dsimp only at hSw); go_simp; try (with_reducible rfl)
      try simp only [Act.put, List.getElem_toArray, List.getElem_cons_zero, List.getElem_cons_succ, List.setIfInBounds_toArray, List.set_cons_zero, List.set_cons_succ]
      refine wpAnyH_take (i := 4) (oi := _) (v := undef) rfl (by kernel_rfl) (by kernel_rfl) (by kernel_rfl) (fun _ _ _ h => h) (Or.inr ⟨by rfl, rfl⟩) (by assumption) ?_
      try simp only [Act.put, List.getElem_toArray, List.getElem_cons_zero, List.getElem_cons_succ, List.setIfInBounds_toArray, List.set_cons_zero, List.set_cons_succ]
      refine wpAnyH_take (i := 5) (oi := _) (v := undef) rfl (by kernel_rfl) (by kernel_rfl) (by kernel_rfl) (fun _ _ _ h => h) (Or.inr ⟨by rfl, rfl⟩) (by assumption) ?_
      try simp only [Act.put, List.getElem_toArray, List.getElem_cons_zero, List.getElem_cons_succ, List.setIfInBounds_toArray, List.set_cons_zero, List.set_cons_succ]
      refine wpAnyH_take (i := 6) (oi := _) (v := undef) rfl (by kernel_rfl) (by kernel_rfl) (by kernel_rfl) (fun _ _ _ h => h) (Or.inr ⟨by rfl, rfl⟩) (by assumption) ?_
      try simp only [Act.put, List.getElem_toArray, List.getElem_cons_zero, List.getElem_cons_succ, List.setIfInBounds_toArray, List.set_cons_zero, List.set_cons_succ]
      refine wpAnyH_take (i := 7) (oi := _) (v := undef) rfl (by kernel_rfl) (by kernel_rfl) (by kernel_rfl) (fun _ _ _ h => h) (Or.inr ⟨by rfl, rfl⟩) (by assumption) ?_
      try simp only [Act.put, List.getElem_toArray, List.getElem_cons_zero, List.getElem_cons_succ, List.setIfInBounds_toArray, List.set_cons_zero, List.set_cons_succ]
      refine wpAnyH_take (i := 8) (oi := _) (v := ?_) rfl (by kernel_rfl) (by kernel_rfl) (by kernel_rfl) (fun _ _ _ h => h) (Or.inl ⟨by rfl, ?_⟩) (by assumption) ?_
      rotate_left 1
      · intro w hSw; (try dsimp only at hSw); go_simp; try (with_reducible rfl)
      try simp only [Act.put, List.getElem_toArray, List.getElem_cons_zero, List.getElem_cons_succ, List.setIfInBounds_toArray, List.set_cons_zero, List.set_cons_succ]
      refine wpAnyH_take (i := 9) (oi := _) (v := ?_) rfl (by kernel_rfl) (by kernel_rfl) (by kernel_rfl) (fun _ _ _ h => h) (Or.inl ⟨by rfl, ?_⟩) (by assumption) ?_
      rotate_left 1
      · intro w hSw; (try dsimp only at hSw); go_simp; try (with_reducible rfl)
      try simp only [Act.put, List.getElem_toArray, List.getElem_cons_zero, List.getElem_cons_succ, List.setIfInBounds_toArray, List.set_cons_zero, List.set_cons_succ]
      refine wpAnyH_done (by kernel_rfl) ?_ _
      go_wp2_with fail
      skip
      go_ret
      exact ⟨by first | rfl | simp, hS6.2.2.2.g⟩
    · have c2' : (y == nb) = false := beq_false_of_ne c2
      have hr : r = decide (ab = -1) := by rw [← HR.out]; simp [c2]
      clear HR
      refine wp_region_held_drew (S := (fun w' => w'.cell? ⟨n6, 0, none⟩ = some (.int .i64 x) ∧ w'.cell? ⟨n6, 1, none⟩ = some (.int .i64 y) ∧ w'.cell? ⟨bv, 0, none⟩ = some (.int .i64 v) ∧ LeS W n6 bv x y v w')) (by kernel_rfl) ?_ (fun hHeld => ?_)
      · exact hS0
      refine wpAnyH_take (i := 0) (oi := _) (v := ?_) rfl (by kernel_rfl) (by kernel_rfl) (by kernel_rfl) (fun _ _ _ h => h) (Or.inl ⟨by rfl, ?_⟩) (by assumption) ?_
      rotate_left 1
      · intro w hSw; (try dsimp only at hSw); go_simp; try (with_reducible rfl)
      try simp only [Act.put, List.getElem_toArray, List.getElem_cons_zero, List.setIfInBounds_toArray, List.set_cons_zero, List.set_cons_succ]
      refine wpAnyH_ready (rs := [1]) (by kernel_rfl) (by simp) ?_
      refine AllReadyH.cons (o := _) rfl (fun K hK => ?_) AllReadyH.nil
      go_simp
      refine (PN.out _).mono ?_
      rintro e w6 ⟨rfl, hg6⟩
      have hS6 := LeS.all (LeS.by_ hHeld.2.2.2 hg6)
      clear hg6
      go_wp2_with fail
      refine hK.out _ _ ?_ (fun hHeld2 => ?_)
      · exact hS6
      clear hK K hHeld
      have hHeld := hHeld2
      clear hHeld2
      try simp only [Act.put, List.getElem_toArray, List.getElem_cons_zero, List.getElem_cons_succ, List.setIfInBounds_toArray, List.set_cons_zero, List.set_cons_succ]
      refine wpAnyH_take (i := 2) (oi := _) (v := ?_) rfl (by kernel_rfl) (by kernel_rfl) (by kernel_rfl) (fun _ _ _ h => h) (Or.inl ⟨by rfl, ?_⟩) (by assumption) ?_
      rotate_left 1
      · intro w hSw; (try dsimp only at hSw); go_simp; try (with_reducible rfl)
      try simp only [Act.put, List.getElem_toArray, List.getElem_cons_zero, List.getElem_cons_succ, List.setIfInBounds_toArray, List.set_cons_zero, List.set_cons_succ]
      refine wpAnyH_take (i := 3) (oi := _) (v := ?_) rfl (by kernel_rfl) (by kernel_rfl) (by kernel_rfl) (fun _ _ _ h => h) (Or.inl ⟨by rfl, ?_⟩) (by assumption) ?_
      rotate_left 1
      · intro w hSw; (try dsimp only at hSw); go_simp; try (with_reducible rfl)
      try simp only [Act.put, List.getElem_toArray, List.getElem_cons_zero, List.getElem_cons_succ, List.setIfInBounds_toArray, List.set_cons_zero, List.set_cons_succ]
      refine wpAnyH_take (i := 4) (oi := _) (v := ?_) rfl (by kernel_rfl) (by kernel_rfl) (by kernel_rfl) (fun _ _ _ h => h) (Or.inl ⟨by rfl, ?_⟩) (by assumption) ?_
      rotate_left 1
      · intro w hSw; (try dsimp only at hSw); go_simp; try (with_reducible rfl)
      try simp only [Act.put, List.getElem_toArray, List.getElem_cons_zero, List.getElem_cons_succ, List.setIfInBounds_toArray, List.set_cons_zero, List.set_cons_succ]
      refine wpAnyH_take (i := 5) (oi := _) (v := ?_) rfl (by kernel_rfl) (by kernel_rfl) (by kernel_rfl) (fun _ _ _ h => h) (Or.inl ⟨by rfl, ?_⟩) (by assumption) ?_
      rotate_left 1
      · intro w hSw; (try dsimp only at hSw); go_simp; try (with_reducible rfl)
      try simp only [Act.put, List.getElem_toArray, List.getElem_cons_zero, List.getElem_cons_succ, List.setIfInBounds_toArray, List.set_cons_zero, List.set_cons_succ]
      refine wpAnyH_ready (rs := [6]) (by kernel_rfl) (by simp) ?_
      refine AllReadyH.cons (o := _) rfl (fun K hK => ?_) AllReadyH.nil
      go_simp
      refine (HB.out _).mono ?_
      rintro e w6 ⟨rfl, hg6⟩
      have hS6 := LeS.all (LeS.by_ hHeld.2.2.2 hg6)
      clear hg6
      go_wp2_with fail
      refine hK.out _ _ ?_ (fun hHeld2 => ?_)
      · exact hS6
      clear hK K hHeld
      have hHeld := hHeld2
      clear hHeld2
      try simp only [Act.put, List.getElem_toArray, List.getElem_cons_zero, List.getElem_cons_succ, List.setIfInBounds_toArray, List.set_cons_zero, List.set_cons_succ]
      refine wpAnyH_take (i := 7) (oi := _) (v := ?_) rfl (by kernel_rfl) (by kernel_rfl) (by kernel_rfl) (fun _ _ _ h => h) (Or.inl ⟨by rfl, ?_⟩) (by assumption) ?_
      rotate_left 1
      · intro w hSw; (try dsimp only at hSw); go_simp; try (with_reducible rfl)
      try simp only [Act.put, List.getElem_toArray, List.getElem_cons_zero, List.getElem_cons_succ, List.setIfInBounds_toArray, List.set_cons_zero, List.set_cons_succ]
      refine wpAnyH_take (i := 8) (oi := _) (v := ?_) rfl (by kernel_rfl) (by kernel_rfl) (by kernel_rfl) (fun _ _ _ h => h) (Or.inl ⟨by rfl, ?_⟩) (by assumption) ?_
      rotate_left 1
      · intro w hSw; (try dsimp only at hSw); go_simp; try (with_reducible rfl)
      try simp only [Act.put, List.getElem_toArray, List.getElem_cons_zero, List.getElem_cons_succ, List.setIfInBounds_toArray, List.set_cons_zero, List.set_cons_succ]
      refine wpAnyH_take (i := 9) (oi := _) (v := ?_) rfl (by kernel_rfl) (by kernel_rfl) (by kernel_rfl) (fun _ _ _ h => h) (Or.inl ⟨by rfl, ?_⟩) (by assumption) ?_
      rotate_left 1
      · intro w hSw; (try dsimp only at hSw); go_simp; try (with_reducible rfl)
      try simp only [Act.put, List.getElem_toArray, List.getElem_cons_zero, List.getElem_cons_succ, List.setIfInBounds_toArray, List.set_cons_zero, List.set_cons_succ]
      refine wpAnyH_done (by kernel_rfl) ?_ _
      go_wp2_with fail
      subst hr
      go_ret
      exact ⟨by first | rfl | simp, hS6.2.2.2.g⟩
  · have c1' : (x == na) = false := beq_false_of_ne c1
    have hr : r = decide (ab = -1) := by rw [← HR.out]; simp [c1]
    clear HR
    refine wp_region_held_drew (S := (fun w' => w'.cell? ⟨n6, 0, none⟩ = some (.int .i64 x) ∧ w'.cell? ⟨n6, 1, none⟩ = some (.int .i64 y) ∧ w'.cell? ⟨bv, 0, none⟩ = some (.int .i64 v) ∧ LeS W n6 bv x y v w')) (by kernel_rfl) ?_ (fun hHeld => ?_)
    · exact hS0
    refine wpAnyH_take (i := 0) (oi := _) (v := ?_) rfl (by kernel_rfl) (by kernel_rfl) (by kernel_rfl) (fun _ _ _ h => h) (Or.inl ⟨by rfl, ?_⟩) (by assumption) ?_
    rotate_left 1
    · intro w hSw; (try dsimp only at hSw); go_simp; try (with_reducible rfl)
    try simp only [Act.put, List.getElem_toArray, List.getElem_cons_zero, List.setIfInBounds_toArray, List.set_cons_zero, List.set_cons_succ]
    refine wpAnyH_ready (rs := [1]) (by kernel_rfl) (by simp) ?_
    refine AllReadyH.cons (o := _) rfl (fun K hK => ?_) AllReadyH.nil
    go_simp
    refine (PN.out _).mono ?_
    rintro e w6 ⟨rfl, hg6⟩
    have hS6 := LeS.all (LeS.by_ hHeld.2.2.2 hg6)
    clear hg6
    go_wp2_with fail
    refine hK.out _ _ ?_ (fun hHeld2 => ?_)
    · exact hS6
    clear hK K hHeld
    have hHeld := hHeld2
    clear hHeld2
    try simp only [Act.put, List.getElem_toArray, List.getElem_cons_zero, List.getElem_cons_succ, List.setIfInBounds_toArray, List.set_cons_zero, List.set_cons_succ]
    refine wpAnyH_take (i := 2) (oi := _) (v := ?_) rfl (by kernel_rfl) (by kernel_rfl) (by kernel_rfl) (fun _ _ _ h => h) (Or.inl ⟨by rfl, ?_⟩) (by assumption) ?_
    rotate_left 1
    · intro w hSw; (try dsimp only at hSw); go_simp; try (with_reducible rfl)
    try simp only [Act.put, List.getElem_toArray, List.getElem_cons_zero, List.getElem_cons_succ, List.setIfInBounds_toArray, List.set_cons_zero, List.set_cons_succ]
    refine wpAnyH_take (i := 3) (oi := _) (v := ?_) rfl (by kernel_rfl) (by kernel_rfl) (by kernel_rfl) (fun _ _ _ h => h) (Or.inl ⟨by rfl, ?_⟩) (by assumption) ?_
    rotate_left 1
    · intro w hSw; (try dsimp only at hSw); go_simp; try (with_reducible rfl)
    try simp only [Act.put, List.getElem_toArray, List.getElem_cons_zero, List.getElem_cons_succ, List.setIfInBounds_toArray, List.set_cons_zero, List.set_cons_succ]
    refine wpAnyH_take (i := 4) (oi := _) (v := ?_) rfl (by kernel_rfl) (by kernel_rfl) (by kernel_rfl) (fun _ _ _ h => h) (Or.inl ⟨by rfl, ?_⟩) (by assumption) ?_
    rotate_left 1
    · intro w hSw; (try dsimp only at hSw); go_simp; try (with_reducible rfl)
    try simp only [Act.put, List.getElem_toArray, List.getElem_cons_zero, List.getElem_cons_succ, List.setIfInBounds_toArray, List.set_cons_zero, List.set_cons_succ]
    refine wpAnyH_take (i := 5) (oi := _) (v := ?_) rfl (by kernel_rfl) (by kernel_rfl) (by kernel_rfl) (fun _ _ _ h => h) (Or.inl ⟨by rfl, ?_⟩) (by assumption) ?_
    rotate_left 1
    · intro w hSw; (try dsimp only at hSw); go_simp; try (with_reducible rfl)
    try simp only [Act.put, List.getElem_toArray, List.getElem_cons_zero, List.getElem_cons_succ, List.setIfInBounds_toArray, List.set_cons_zero, List.set_cons_succ]
    refine wpAnyH_ready (rs := [6]) (by kernel_rfl) (by simp) ?_
    refine AllReadyH.cons (o := _) rfl (fun K hK => ?_) AllReadyH.nil
    go_simp
    refine (HB.out _).mono ?_
    rintro e w6 ⟨rfl, hg6⟩
    have hS6 := LeS.all (LeS.by_ hHeld.2.2.2 hg6)
    clear hg6
    go_wp2_with fail
    refine hK.out _ _ ?_ (fun hHeld2 => ?_)
    · exact hS6
    clear hK K hHeld
    have hHeld := hHeld2
    clear hHeld2
    try simp only [Act.put, List.getElem_toArray, List.getElem_cons_zero, List.getElem_cons_succ, List.setIfInBounds_toArray, List.set_cons_zero, List.set_cons_succ]
    refine wpAnyH_take (i := 7) (oi := _) (v := ?_) rfl (by kernel_rfl) (by kernel_rfl) (by kernel_rfl) (fun _ _ _ h => h) (Or.inl ⟨by rfl, ?_⟩) (by assumption) ?_
    rotate_left 1
    · intro w hSw; (try dsimp only at hSw); go_simp; try (with_reducible rfl)
    try simp only [Act.put, List.getElem_toArray, List.getElem_cons_zero, List.getElem_cons_succ, List.setIfInBounds_toArray, List.set_cons_zero, List.set_cons_succ]
    refine wpAnyH_take (i := 8) (oi := _) (v := ?_) rfl (by kernel_rfl) (by kernel_rfl) (by kernel_rfl) (fun _ _ _ h => h) (Or.inl ⟨by rfl, ?_⟩) (by assumption) ?_
    rotate_left 1
    · intro w hSw; (try dsimp only at hSw); go_simp; try (with_reducible rfl)
    try simp only [Act.put, List.getElem_toArray, List.getElem_cons_zero, List.getElem_cons_succ, List.setIfInBounds_toArray, List.set_cons_zero, List.set_cons_succ]
    refine wpAnyH_take (i := 9) (oi := _) (v := ?_) rfl (by kernel_rfl) (by kernel_rfl) (by kernel_rfl) (fun _ _ _ h => h) (Or.inl ⟨by rfl, ?_⟩) (by assumption) ?_
    rotate_left 1
    · intro w hSw; (try dsimp only at hSw); go_simp; try (with_reducible rfl)
    try simp only [Act.put, List.getElem_toArray, List.getElem_cons_zero, List.getElem_cons_succ, List.setIfInBounds_toArray, List.set_cons_zero, List.set_cons_succ]
    refine wpAnyH_done (by kernel_rfl) ?_ _
    go_wp2_with fail
    subst hr
    go_ret
    exact ⟨by first | rfl | simp, hS6.2.2.2.g⟩
end Go.Proofs.Ytackckljldpldaa
