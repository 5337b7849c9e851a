/- The statement WindowWidens: the walk. -/
import Derived.Test.YtackckljldpldaaUw
namespace Go.Proofs.Ytackckljldpldaa
open Go.RowKit
attribute [local go_sem ↓] Go.wp_at_zero Go.wp_at_succ loadAt_s

theorem at_flow {s : Sn} {ms mt lo hi k : Int} (hck : ckSn s = 0) (hk : s.kind = 3) (hb : ¬ (ms < 0 ∨ (lo, hi) = nothingSp)) (h0 : 0 ≤ k) :
    atSn s ms mt lo hi (mt + k) = if s.life < k then nothingSp else (lo - (s.drift * k + 999) / 1000, hi + (s.drift * k + 999) / 1000) := by
  unfold atSn
  rw [if_neg (by rw [hck]; simpa using hb), show mt + k - mt = k by omega]
  by_cases h : s.life < k
  · rw [if_pos (.inr h), if_pos h]
  · rw [if_neg (by omega), if_neg h]
    unfold drSn
    rw [if_neg (by omega), if_neg (by omega)]
/-- The maths of it. -/
theorem widen_maths {s : Sn} {ms mt lo hi k : Int} (hck : ckSn s = 0) (hk : s.kind = 3) (hb : ¬ (ms < 0 ∨ (lo, hi) = nothingSp)) (h0 : 0 ≤ k) (h1 : k ≤ 255) (hl : -30 ≤ lo ∧ lo ≤ 90) (hh : lo ≤ hi ∧ hi < lo + 40) :
    (atSn s ms mt lo hi (mt + k + 1)).1 ≤ (atSn s ms mt lo hi (mt + k)).1 ∧ (atSn s ms mt lo hi (mt + k)).2 ≤ (atSn s ms mt lo hi (mt + k + 1)).2 ∧
    ∀ V d, lo ≤ V → V ≤ hi → 0 ≤ d → d ≤ (s.drift * k) / 1000 → (atSn s ms mt lo hi (mt + k)).1 ≤ V - d ∧ V + d ≤ (atSn s ms mt lo hi (mt + k)).2 := by
  obtain ⟨_, hok⟩ := ck0 hck
  unfold snOk at hok
  have e1 := at_flow (mt := mt) hck hk hb h0
  have e2 := at_flow (mt := mt) hck hk hb (show (0 : Int) ≤ k + 1 by omega)
  rw [show mt + (k + 1) = mt + k + 1 by omega] at e2
  have hd := hok.2.2.2.2.2.1
  have m0 := Int.mul_nonneg hd.1 h0
  have m1 := Int.mul_le_mul hd.2 h1 h0 (show (0 : Int) ≤ 1000000 by omega)
  have m2 : s.drift * (k + 1) = s.drift * k + s.drift := by rw [Int.mul_add, Int.mul_one]
  rw [e1, e2, m2]
  generalize s.drift * k = p at *
  unfold nothingSp
  by_cases c1 : s.life < k
  · rw [if_pos c1, if_pos (by omega)]
    exact ⟨Int.le_refl _, Int.le_refl _, fun V d h1 h2 h3 h4 => by dsimp only; omega⟩
  · rw [if_neg c1]
    by_cases c2 : s.life < k + 1
    · rw [if_pos c2]
      exact ⟨by dsimp only; omega, by dsimp only; omega, fun V d h1 h2 h3 h4 => by dsimp only; omega⟩
    · rw [if_neg c2]
      exact ⟨by dsimp only; omega, by dsimp only; omega, fun V d h1 h2 h3 h4 => by dsimp only; omega⟩
/-- The sensor and the measurement in blocks. -/
structure WdS (w : World) (n10 n11 : Nat) (s : Sn) (ms mt lo hi : Int) (W : World) : Prop where
  k10 : Bk W n10 (senL s).toArray 24
  k11 : Bk W n11 #[.int .i64 ms, .int .i64 mt, .int .i64 lo, .int .i64 hi] 43
  g : w.grownBy W none
  l0 : w.heap.size ≤ n10
  l1 : n10 < n11
theorem WdS.by_ {w : World} {n10 n11 : Nat} {s : Sn} {ms mt lo hi : Int} {W W' : World} (h : WdS w n10 n11 s ms mt lo hi W) (o : W.grownBy W' none) : WdS w n10 n11 s ms mt lo hi W' := ⟨h.k10.of o (by simp), h.k11.of o (by simp), gb_none h.g o, h.l0, h.l1⟩
theorem WdS.oth {w : World} {n10 n11 n : Nat} {s : Sn} {ms mt lo hi : Int} {W W' : World} (h : WdS w n10 n11 s ms mt lo hi W) (o : W.grownBy W' (some n)) (hn : n11 < n) : WdS w n10 n11 s ms mt lo hi W' := by
  have h0 := h.l0
  have h1 := h.l1
  exact ⟨h.k10.of o (by simp; omega), h.k11.of o (by simp; omega), gb_new h.g o (by omega), h.l0, h.l1⟩
theorem WdS.all {w : World} {n10 n11 : Nat} {s : Sn} {ms mt lo hi : Int} {W : World} (h : WdS w n10 n11 s ms mt lo hi W) : (loadS (.pointer (some ⟨n10, 0, none⟩))).run Try.prog W = .ok (snV s) W ∧ W.cell? ⟨n11, 0, none⟩ = some (.int .i64 ms) ∧ W.cell? ⟨n11, 1, none⟩ = some (.int .i64 mt) ∧ W.cell? ⟨n11, 2, none⟩ = some (.int .i64 lo) ∧ W.cell? ⟨n11, 3, none⟩ = some (.int .i64 hi) ∧ WdS w n10 n11 s ms mt lo hi W :=
  ⟨run_loadS (Bk.snAt h.k10), h.k11.cell 0, h.k11.cell 1, h.k11.cell 2, h.k11.cell 3, h⟩

set_option maxRecDepth 100000 in
set_option maxHeartbeats 32000000 in
theorem widens_walk (cv : Value) (lc : List Nat) (wait drift at_ : Int) (w : World) (hc : Sl w cv 1 lc.length (bytes lc)) (hb : ∀ x ∈ lc, x < 256) (hwt : 0 ≤ wait ∧ wait ≤ 255) (hdt : 0 ≤ drift ∧ drift ≤ 255) (ht1 : -9223372036854775808 ≤ at_) (ht2 : at_ ≤ 9223372036854775807) :
    Calls Try.prog 13 #[cv, .int .u8 wait, .int .u8 drift, .int .i64 at_] w fun e w' => e = .returned (.bool true) ∧ w.grownBy w' none := by
  obtain ⟨a, cap, rfl, _, _, _⟩ := hc.shape
  have HN := Lib.hid (new_sl _ lc w hc hb)
  have hw1 : wrap64 wait = wait := IntWalk.wrap64_in wait (by omega)
  have hw2 : wrap64 drift = drift := IntWalk.wrap64_in drift (by omega)
  have HT := Lib.hid (And.intro hwt (And.intro hdt (And.intro ht1 ht2)))
  clear hc hb hwt hdt ht1 ht2
  go_enter Try.func13, Try.ntmps13
  go_wp2_with fail
  refine HN.out.mono ?_
  rintro e W2 ⟨rfl, ⟨l3, hcd⟩, hg⟩
  have HS := Lib.hid (sensor_any w.heap.size l3 0 3 0 0 W2 hcd)
  have G2 := Lib.hid hg
  clear hcd hg HN
  go_wp2_with fail
  refine HS.out.mono ?_
  rintro e W3 ⟨s, rfl, hk, hl, hx, ⟨j3, hcd3⟩, hg3⟩
  have hck := ck_drawn hk hl hx (by omega) (by omega) (by omega)
  have HM := Lib.hid (measured_any w.heap.size l3 j3 W3 hcd3)
  have G3 := Lib.hid (gb_new G2.out hg3 (Nat.le_refl _))
  have HCK := Lib.hid (And.intro hck (And.intro hk.1 (show 0 ≤ s.drift ∧ s.drift ≤ 699 by omega)))
  clear hk hl hx hck HS hcd3 hg3 G2
  unfold senL
  go_wp2_with fail
  refine HM.out.mono ?_
  rintro e W4 ⟨ms, mt, lo, hi, rfl, hms, hmt, hsp, -, hg⟩
  have G4 := gb_new G3.out hg (Nat.le_refl _)
  have HSP := Lib.hid hsp
  have HMT := Lib.hid hmt
  have g5 := gb_alloc (gb_alloc (gb_refl W4 none) (.cells (senL s).toArray 24)) (.cells #[.int .i64 ms, .int .i64 mt, .int .i64 lo, .int .i64 hi] 43)
  have k7 := Bk.new (W4.alloc (.cells (senL s).toArray 24)) #[.int .i64 ms, .int .i64 mt, .int .i64 lo, .int .i64 hi] 43
  rw [World.size_alloc] at k7
  have HS5 := Lib.hid (⟨(Bk.new W4 _ _).of (gb_alloc (gb_refl _ none) _) (by simp), k7, gb_none G4 g5, G4.size, Nat.lt_succ_self _⟩ : WdS w W4.heap.size (W4.heap.size + 1) s ms mt lo hi ((W4.alloc (.cells (senL s).toArray 24)).alloc (.cells #[.int .i64 ms, .int .i64 mt, .int .i64 lo, .int .i64 hi] 43)))
  clear g5 k7 hg HM G3 G4 hms hmt hsp
  unfold msV
  unfold senL at HS5
  go_upto_region 3 with fail
  generalize (W4.alloc _).alloc _ = W5 at *
  generalize W4.heap.size = n10 at *
  obtain ⟨n11, hn11⟩ : ∃ n, n10 + 1 = n := ⟨_, rfl⟩
  rw [hn11] at HS5 ⊢
  clear hn11
  obtain ⟨na, nb, hno⟩ : ∃ a b, nothingSp = (a, b) := ⟨_, _, rfl⟩
  have HNO := Lib.hid hno
  have RN := Lib.hid (fun w => nothing_any w)
  rw [hno] at RN
  dsimp only at RN
  clear hno
  have hS0 := WdS.all (HS5.out.by_ (gb_drew (gb_refl W5 none)))
  clear HS5
  by_cases c1 : ms < 0
  · have c1' : decide (ms < 0) = true := by simpa using c1
    refine wp_region_held_drew (S := (fun w' => (loadS (.pointer (some ⟨n10, 0, none⟩))).run Try.prog w' = .ok (snV s) w' ∧ w'.cell? ⟨n11, 0, none⟩ = some (.int .i64 ms) ∧ w'.cell? ⟨n11, 1, none⟩ = some (.int .i64 mt) ∧ w'.cell? ⟨n11, 2, none⟩ = some (.int .i64 lo) ∧ w'.cell? ⟨n11, 3, none⟩ = some (.int .i64 hi) ∧ WdS w n10 n11 s ms mt lo hi w')) (by kernel_rfl) ?_ (fun hHeld => ?_)
    · exact hS0
    refine wpAnyH_take (i := 0) (oi := _) (v := ?_) rfl (by kernel_rfl) (by kernel_rfl) (by kernel_rfl) (fun _ _ _ h => h) (Or.inl ⟨by rfl, ?_⟩) (by assumption) ?_
    rotate_left 1
    · intro w hSw; (try dsimp only at hSw); go_simp; try (with_reducible rfl)
    try simp only [Act.put, List.getElem_toArray, List.getElem_cons_zero, List.setIfInBounds_toArray, List.set_cons_zero, List.set_cons_succ]
    refine wpAnyH_take (i := 1) (oi := _) (v := ?_) rfl (by kernel_rfl) (by kernel_rfl) (by kernel_rfl) (fun _ _ _ h => h) (Or.inl ⟨by rfl, ?_⟩) (by assumption) ?_
    rotate_left 1
    · intro w hSw; (try dsimp only at hSw); go_simp; try (with_reducible rfl)
    try simp only [Act.put, List.getElem_toArray, List.getElem_cons_zero, List.getElem_cons_succ, List.setIfInBounds_toArray, List.set_cons_zero, List.set_cons_succ]
    refine wpAnyH_take (i := 2) (oi := _) (v := ?_) rfl (by kernel_rfl) (by kernel_rfl) (by kernel_rfl) (fun _ _ _ h => h) (Or.inl ⟨by rfl, ?_⟩) (by assumption) ?_
    rotate_left 1
    · intro w hSw; (try dsimp only at hSw); go_simp; try (with_reducible rfl)
    try simp only [Act.put, List.getElem_toArray, List.getElem_cons_zero, List.getElem_cons_succ, List.setIfInBounds_toArray, List.set_cons_zero, List.set_cons_succ]
    refine wpAnyH_take (i := 3) (oi := _) (v := ?_) rfl (by kernel_rfl) (by kernel_rfl) (by kernel_rfl) (fun _ _ _ h => h) (Or.inl ⟨by rfl, ?_⟩) (by assumption) ?_
    rotate_left 1
    · intro w hSw; (try dsimp only at hSw); go_simp; try (with_reducible rfl)
    try simp only [Act.put, List.getElem_toArray, List.getElem_cons_zero, List.getElem_cons_succ, List.setIfInBounds_toArray, List.set_cons_zero, List.set_cons_succ]
    refine wpAnyH_take (i := 4) (oi := _) (v := undef) rfl (by kernel_rfl) (by kernel_rfl) (by kernel_rfl) (fun _ _ _ h => h) (Or.inr ⟨by rfl, rfl⟩) (by assumption) ?_
    try simp only [Act.put, List.getElem_toArray, List.getElem_cons_zero, List.getElem_cons_succ, List.setIfInBounds_toArray, List.set_cons_zero, List.set_cons_succ]
    refine wpAnyH_take (i := 5) (oi := _) (v := undef) rfl (by kernel_rfl) (by kernel_rfl) (by kernel_rfl) (fun _ _ _ h => h) (Or.inr ⟨by rfl, rfl⟩) (by assumption) ?_
    try simp only [Act.put, List.getElem_toArray, List.getElem_cons_zero, List.getElem_cons_succ, List.setIfInBounds_toArray, List.set_cons_zero, List.set_cons_succ]
    refine wpAnyH_take (i := 6) (oi := _) (v := undef) rfl (by kernel_rfl) (by kernel_rfl) (by kernel_rfl) (fun _ _ _ h => h) (Or.inr ⟨by rfl, rfl⟩) (by assumption) ?_
    try simp only [Act.put, List.getElem_toArray, List.getElem_cons_zero, List.getElem_cons_succ, List.setIfInBounds_toArray, List.set_cons_zero, List.set_cons_succ]
    refine wpAnyH_take (i := 7) (oi := _) (v := undef) rfl (by kernel_rfl) (by kernel_rfl) (by kernel_rfl) (fun _ _ _ h => h) (Or.inr ⟨by rfl, rfl⟩) (by assumption) ?_
    try simp only [Act.put, List.getElem_toArray, List.getElem_cons_zero, List.getElem_cons_succ, List.setIfInBounds_toArray, List.set_cons_zero, List.set_cons_succ]
    refine wpAnyH_take (i := 8) (oi := _) (v := ?_) rfl (by kernel_rfl) (by kernel_rfl) (by kernel_rfl) (fun _ _ _ h => h) (Or.inl ⟨by rfl, ?_⟩) (by assumption) ?_
    rotate_left 1
    · intro w hSw; (try dsimp only at hSw); go_simp; try (with_reducible rfl)
    try simp only [Act.put, List.getElem_toArray, List.getElem_cons_zero, List.getElem_cons_succ, List.setIfInBounds_toArray, List.set_cons_zero, List.set_cons_succ]
    refine wpAnyH_done (by kernel_rfl) ?_ _
    go_wp2_with fail
    refine (awake6_any _).mono ?_
    rintro e W8 ⟨rfl, hg⟩
    go_wp2_with fail
    go_ret
    exact ⟨rfl, gb_none (hS0).2.2.2.2.2.g hg⟩
  · have c1' : decide (ms < 0) = false := by simpa using c1
    by_cases c2 : (lo, hi) = nothingSp
    · have c3 := c2
      rw [HNO.out] at c3
      injection c3 with c4 c5
      subst c4 c5
      have b1 : (lo == lo) = true := by simp
      have b2 : (hi == hi) = true := by simp
      clear HNO c2
      refine wp_region_held_drew (S := (fun w' => (loadS (.pointer (some ⟨n10, 0, none⟩))).run Try.prog w' = .ok (snV s) w' ∧ w'.cell? ⟨n11, 0, none⟩ = some (.int .i64 ms) ∧ w'.cell? ⟨n11, 1, none⟩ = some (.int .i64 mt) ∧ w'.cell? ⟨n11, 2, none⟩ = some (.int .i64 lo) ∧ w'.cell? ⟨n11, 3, none⟩ = some (.int .i64 hi) ∧ WdS w n10 n11 s ms mt lo hi w')) (by kernel_rfl) ?_ (fun hHeld => ?_)
      · exact hS0
      refine wpAnyH_take (i := 0) (oi := _) (v := ?_) rfl (by kernel_rfl) (by kernel_rfl) (by kernel_rfl) (fun _ _ _ h => h) (Or.inl ⟨by rfl, ?_⟩) (by assumption) ?_
      rotate_left 1
      · intro w hSw; (try dsimp only at hSw); go_simp; try (with_reducible rfl)
      try simp only [Act.put, List.getElem_toArray, List.getElem_cons_zero, List.setIfInBounds_toArray, List.set_cons_zero, List.set_cons_succ]
      refine wpAnyH_take (i := 1) (oi := _) (v := ?_) rfl (by kernel_rfl) (by kernel_rfl) (by kernel_rfl) (fun _ _ _ h => h) (Or.inl ⟨by rfl, ?_⟩) (by assumption) ?_
      rotate_left 1
      · intro w hSw; (try dsimp only at hSw); go_simp; try (with_reducible rfl)
      try simp only [Act.put, List.getElem_toArray, List.getElem_cons_zero, List.getElem_cons_succ, List.setIfInBounds_toArray, List.set_cons_zero, List.set_cons_succ]
      refine wpAnyH_take (i := 2) (oi := _) (v := ?_) rfl (by kernel_rfl) (by kernel_rfl) (by kernel_rfl) (fun _ _ _ h => h) (Or.inl ⟨by rfl, ?_⟩) (by assumption) ?_
      rotate_left 1
      · intro w hSw; (try dsimp only at hSw); go_simp; try (with_reducible rfl)
      try simp only [Act.put, List.getElem_toArray, List.getElem_cons_zero, List.getElem_cons_succ, List.setIfInBounds_toArray, List.set_cons_zero, List.set_cons_succ]
      refine wpAnyH_take (i := 3) (oi := _) (v := ?_) rfl (by kernel_rfl) (by kernel_rfl) (by kernel_rfl) (fun _ _ _ h => h) (Or.inl ⟨by rfl, ?_⟩) (by assumption) ?_
      rotate_left 1
      · intro w hSw; (try dsimp only at hSw); go_simp; try (with_reducible rfl)
      try simp only [Act.put, List.getElem_toArray, List.getElem_cons_zero, List.getElem_cons_succ, List.setIfInBounds_toArray, List.set_cons_zero, List.set_cons_succ]
      refine wpAnyH_take (i := 4) (oi := _) (v := ?_) rfl (by kernel_rfl) (by kernel_rfl) (by kernel_rfl) (fun _ _ _ h => h) (Or.inl ⟨by rfl, ?_⟩) (by assumption) ?_
      rotate_left 1
      · intro w hSw; (try dsimp only at hSw); go_simp; try (with_reducible rfl)
      try simp only [Act.put, List.getElem_toArray, List.getElem_cons_zero, List.getElem_cons_succ, List.setIfInBounds_toArray, List.set_cons_zero, List.set_cons_succ]
      refine wpAnyH_take (i := 5) (oi := _) (v := ?_) rfl (by kernel_rfl) (by kernel_rfl) (by kernel_rfl) (fun _ _ _ h => h) (Or.inl ⟨by rfl, ?_⟩) (by assumption) ?_
      rotate_left 1
      · intro w hSw; (try dsimp only at hSw); go_simp; try (with_reducible rfl)
      try simp only [Act.put, List.getElem_toArray, List.getElem_cons_zero, List.getElem_cons_succ, List.setIfInBounds_toArray, List.set_cons_zero, List.set_cons_succ]
      refine wpAnyH_ready (rs := [6]) (by kernel_rfl) (by simp) ?_
      refine AllReadyH.cons (o := _) rfl (fun K hK => ?_) AllReadyH.nil
      go_simp
      refine (RN.out _).mono ?_
      rintro e w6 ⟨rfl, hg6⟩
      have hS6 := WdS.all (WdS.by_ hHeld.2.2.2.2.2 hg6)
      clear hg6
      go_wp2_with fail
      refine hK.out _ _ ?_ (fun hHeld2 => ?_)
      · exact hS6
      clear hK K hHeld
      have hHeld := hHeld2
      clear hHeld2
      try simp only [Act.put, List.getElem_toArray, List.getElem_cons_zero, List.getElem_cons_succ, List.setIfInBounds_toArray, List.set_cons_zero, List.set_cons_succ]
      refine wpAnyH_take (i := 7) (oi := _) (v := ?_) rfl (by kernel_rfl) (by kernel_rfl) (by kernel_rfl) (fun _ _ _ h => h) (Or.inl ⟨by rfl, ?_⟩) (by assumption) ?_
      rotate_left 1
      · intro w hSw; (try dsimp only at hSw); go_simp; try (with_reducible rfl)
      try simp only [Act.put, List.getElem_toArray, List.getElem_cons_zero, List.getElem_cons_succ, List.setIfInBounds_toArray, List.set_cons_zero, List.set_cons_succ]
      refine wpAnyH_take (i := 8) (oi := _) (v := ?_) rfl (by kernel_rfl) (by kernel_rfl) (by kernel_rfl) (fun _ _ _ h => h) (Or.inl ⟨by rfl, ?_⟩) (by assumption) ?_
      rotate_left 1
      · intro w hSw; (try dsimp only at hSw); go_simp; try (with_reducible rfl)
      try simp only [Act.put, List.getElem_toArray, List.getElem_cons_zero, List.getElem_cons_succ, List.setIfInBounds_toArray, List.set_cons_zero, List.set_cons_succ]
      refine wpAnyH_done (by kernel_rfl) ?_ _
      go_wp2_with fail
      refine (awake6_any _).mono ?_
      rintro e W8 ⟨rfl, hg⟩
      go_wp2_with fail
      go_ret
      exact ⟨rfl, gb_none (hS6).2.2.2.2.2.g hg⟩
    · have hlh : (-30 ≤ lo ∧ lo ≤ 90) ∧ lo ≤ hi ∧ hi < lo + 40 := by
        rcases HSP.out with h | h
        · exact (c2 h).elim
        · exact h
      have b1 : (lo == na) = false := by
        refine beq_false_of_ne ?_
        have := HNO.out
        unfold nothingSp at this
        injection this with h1 h2
        omega
      have HMA := Lib.hid (widen_maths (mt := mt) HCK.out.1 HCK.out.2.1 (fun h => by rcases h with h | h; exact c1 h; exact c2 h) HT.out.1.1 HT.out.1.2 hlh.1 hlh.2)
      have HLH := Lib.hid hlh
      clear hlh c2 HNO
      refine wp_region_held_drew (S := (fun w' => (loadS (.pointer (some ⟨n10, 0, none⟩))).run Try.prog w' = .ok (snV s) w' ∧ w'.cell? ⟨n11, 0, none⟩ = some (.int .i64 ms) ∧ w'.cell? ⟨n11, 1, none⟩ = some (.int .i64 mt) ∧ w'.cell? ⟨n11, 2, none⟩ = some (.int .i64 lo) ∧ w'.cell? ⟨n11, 3, none⟩ = some (.int .i64 hi) ∧ WdS w n10 n11 s ms mt lo hi w')) (by kernel_rfl) ?_ (fun hHeld => ?_)
      · exact hS0
      refine wpAnyH_take (i := 0) (oi := _) (v := ?_) rfl (by kernel_rfl) (by kernel_rfl) (by kernel_rfl) (fun _ _ _ h => h) (Or.inl ⟨by rfl, ?_⟩) (by assumption) ?_
      rotate_left 1
      · intro w hSw; (try dsimp only at hSw); go_simp; try (with_reducible rfl)
      try simp only [Act.put, List.getElem_toArray, List.getElem_cons_zero, List.setIfInBounds_toArray, List.set_cons_zero, List.set_cons_succ]
      refine wpAnyH_take (i := 1) (oi := _) (v := ?_) rfl (by kernel_rfl) (by kernel_rfl) (by kernel_rfl) (fun _ _ _ h => h) (Or.inl ⟨by rfl, ?_⟩) (by assumption) ?_
      rotate_left 1
      · intro w hSw; (try dsimp only at hSw); go_simp; try (with_reducible rfl)
      try simp only [Act.put, List.getElem_toArray, List.getElem_cons_zero, List.getElem_cons_succ, List.setIfInBounds_toArray, List.set_cons_zero, List.set_cons_succ]
      refine wpAnyH_take (i := 2) (oi := _) (v := ?_) rfl (by kernel_rfl) (by kernel_rfl) (by kernel_rfl) (fun _ _ _ h => h) (Or.inl ⟨by rfl, ?_⟩) (by assumption) ?_
      rotate_left 1
      · intro w hSw; (try dsimp only at hSw); go_simp; try (with_reducible rfl)
      try simp only [Act.put, List.getElem_toArray, List.getElem_cons_zero, List.getElem_cons_succ, List.setIfInBounds_toArray, List.set_cons_zero, List.set_cons_succ]
      refine wpAnyH_take (i := 3) (oi := _) (v := ?_) rfl (by kernel_rfl) (by kernel_rfl) (by kernel_rfl) (fun _ _ _ h => h) (Or.inl ⟨by rfl, ?_⟩) (by assumption) ?_
      rotate_left 1
      · intro w hSw; (try dsimp only at hSw); go_simp; try (with_reducible rfl)
      try simp only [Act.put, List.getElem_toArray, List.getElem_cons_zero, List.getElem_cons_succ, List.setIfInBounds_toArray, List.set_cons_zero, List.set_cons_succ]
      refine wpAnyH_take (i := 4) (oi := _) (v := ?_) rfl (by kernel_rfl) (by kernel_rfl) (by kernel_rfl) (fun _ _ _ h => h) (Or.inl ⟨by rfl, ?_⟩) (by assumption) ?_
      rotate_left 1
      · intro w hSw; (try dsimp only at hSw); go_simp; try (with_reducible rfl)
      try simp only [Act.put, List.getElem_toArray, List.getElem_cons_zero, List.getElem_cons_succ, List.setIfInBounds_toArray, List.set_cons_zero, List.set_cons_succ]
      refine wpAnyH_take (i := 5) (oi := _) (v := ?_) rfl (by kernel_rfl) (by kernel_rfl) (by kernel_rfl) (fun _ _ _ h => h) (Or.inl ⟨by rfl, ?_⟩) (by assumption) ?_
      rotate_left 1
      · intro w hSw; (try dsimp only at hSw); go_simp; try (with_reducible rfl)
      try simp only [Act.put, List.getElem_toArray, List.getElem_cons_zero, List.getElem_cons_succ, List.setIfInBounds_toArray, List.set_cons_zero, List.set_cons_succ]
      refine wpAnyH_ready (rs := [6]) (by kernel_rfl) (by simp) ?_
      refine AllReadyH.cons (o := _) rfl (fun K hK => ?_) AllReadyH.nil
      go_simp
      refine (RN.out _).mono ?_
      rintro e w6 ⟨rfl, hg6⟩
      have hS6 := WdS.all (WdS.by_ hHeld.2.2.2.2.2 hg6)
      clear hg6
      go_wp2_with fail
      refine hK.out _ _ ?_ (fun hHeld2 => ?_)
      · exact hS6
      clear hK K hHeld
      have hHeld := hHeld2
      clear hHeld2
      try simp only [Act.put, List.getElem_toArray, List.getElem_cons_zero, List.getElem_cons_succ, List.setIfInBounds_toArray, List.set_cons_zero, List.set_cons_succ]
      refine wpAnyH_take (i := 7) (oi := _) (v := ?_) rfl (by kernel_rfl) (by kernel_rfl) (by kernel_rfl) (fun _ _ _ h => h) (Or.inl ⟨by rfl, ?_⟩) (by assumption) ?_
      rotate_left 1
      · intro w hSw; (try dsimp only at hSw); go_simp; try (with_reducible rfl)
      try simp only [Act.put, List.getElem_toArray, List.getElem_cons_zero, List.getElem_cons_succ, List.setIfInBounds_toArray, List.set_cons_zero, List.set_cons_succ]
      refine wpAnyH_take (i := 8) (oi := _) (v := ?_) rfl (by kernel_rfl) (by kernel_rfl) (by kernel_rfl) (fun _ _ _ h => h) (Or.inl ⟨by rfl, ?_⟩) (by assumption) ?_
      rotate_left 1
      · intro w hSw; (try dsimp only at hSw); go_simp; try (with_reducible rfl)
      try simp only [Act.put, List.getElem_toArray, List.getElem_cons_zero, List.getElem_cons_succ, List.setIfInBounds_toArray, List.set_cons_zero, List.set_cons_succ]
      refine wpAnyH_done (by kernel_rfl) ?_ _
      clear hS0 hHeld b1
      go_wp2_with fail
      obtain ⟨t, ht⟩ : ∃ t, mt + wait = t := ⟨_, rfl⟩
      obtain ⟨t1, ht1⟩ : ∃ t1, t + 1 = t1 := ⟨_, rfl⟩
      have hmt := HMT.out
      have hwt := HT.out.1
      have hlh := HLH.out
      have v1 : wrap64 (mt + wait) = t := by rw [ht]; exact IntWalk.wrap64_in t (by omega)
      have u1 : IntKind.i64.wrap (t + 1) = t1 := by rw [ht1]; exact IntWalk.i64_in t1 (by omega)
      have PA := Lib.hid (fun w => pAt_any s ms mt lo hi t w (by omega) (by omega) (by omega) (by omega))
      have PB := Lib.hid (fun w => pAt_any s ms mt lo hi t1 w (by omega) (by omega) (by omega) (by omega))
      have hma := HMA.out
      rw [ht, ht1] at hma
      obtain ⟨x, hx⟩ : ∃ x, atSn s ms mt lo hi t = x := ⟨_, rfl⟩
      obtain ⟨y, hy⟩ : ∃ y, atSn s ms mt lo hi t1 = y := ⟨_, rfl⟩
      rw [hx, hy] at hma
      rw [hx] at PA
      rw [hy] at PB
      obtain ⟨x1, x2⟩ := x
      obtain ⟨y1, y2⟩ := y
      unfold msV spV at PA PB
      dsimp only at PA PB hma
      have HMB := Lib.hid hma
      clear hma hx hy ht ht1 hmt hwt hlh HMA
      have c0 := hS6.2.2.1
      go_upto_region 6 with fail
      clear c0
      try rw [v1]
      go_cut [13, 14] from 17 to 46 (fun q13 q14 wx => ∃ n13 n14 : Nat, q13 = .pointer (some ⟨n13, 0, none⟩) ∧ q14 = .pointer (some ⟨n14, 0, none⟩) ∧ Bk wx n13 #[.int .i64 x1, .int .i64 x2] 29 ∧ Bk wx n14 #[.int .i64 y1, .int .i64 y2] 29 ∧ WdS w n10 n11 s ms mt lo hi wx)
      case first =>
        have hS0 := WdS.all (hS6.2.2.2.2.2.by_ (gb_drew (gb_refl w6 none)))
        clear hS6 HMB HLH HSP HMT HT HCK
        refine wp_region_held_drew (S := (fun w' => (loadS (.pointer (some ⟨n10, 0, none⟩))).run Try.prog w' = .ok (snV s) w' ∧ w'.cell? ⟨n11, 0, none⟩ = some (.int .i64 ms) ∧ w'.cell? ⟨n11, 1, none⟩ = some (.int .i64 mt) ∧ w'.cell? ⟨n11, 2, none⟩ = some (.int .i64 lo) ∧ w'.cell? ⟨n11, 3, none⟩ = some (.int .i64 hi) ∧ WdS w n10 n11 s ms mt lo hi w')) (by kernel_rfl) ?_ (fun hHeld => ?_)
        · exact hS0
        clear hS0
        generalize w6.drew = g0 at *
        refine wpAnyH_take (i := 0) (oi := _) (v := ?_) rfl (by kernel_rfl) (by kernel_rfl) (by kernel_rfl) (fun _ _ _ h => h) (Or.inl ⟨by rfl, ?_⟩) (by assumption) ?_
        rotate_left 1
        · intro w hSw; (try dsimp only at hSw); go_simp; try (with_reducible rfl)
        try simp only [Act.put, List.getElem_toArray, List.getElem_cons_zero, List.setIfInBounds_toArray, List.set_cons_zero, List.set_cons_succ]
        refine wpAnyH_take (i := 1) (oi := _) (v := ?_) rfl (by kernel_rfl) (by kernel_rfl) (by kernel_rfl) (fun _ _ _ h => h) (Or.inl ⟨by rfl, ?_⟩) (by assumption) ?_
        rotate_left 1
        · intro w hSw; (try dsimp only at hSw); go_simp; try (with_reducible rfl)
        try simp only [Act.put, List.getElem_toArray, List.getElem_cons_zero, List.getElem_cons_succ, List.setIfInBounds_toArray, List.set_cons_zero, List.set_cons_succ]
        refine wpAnyH_take (i := 2) (oi := _) (v := ?_) rfl (by kernel_rfl) (by kernel_rfl) (by kernel_rfl) (fun _ _ _ h => h) (Or.inl ⟨by rfl, ?_⟩) (by assumption) ?_
        rotate_left 1
        · intro w hSw; (try dsimp only at hSw); go_simp; try (with_reducible rfl)
        try simp only [Act.put, List.getElem_toArray, List.getElem_cons_zero, List.getElem_cons_succ, List.setIfInBounds_toArray, List.set_cons_zero, List.set_cons_succ]
        refine wpAnyH_take (i := 4) (oi := _) (v := ?_) rfl (by kernel_rfl) (by kernel_rfl) (by kernel_rfl) (fun _ _ _ h => h) (Or.inl ⟨by rfl, ?_⟩) (by assumption) ?_
        rotate_left 1
        · intro w hSw; (try dsimp only at hSw); go_simp; try (with_reducible rfl)
        try simp only [Act.put, List.getElem_toArray, List.getElem_cons_zero, List.getElem_cons_succ, List.setIfInBounds_toArray, List.set_cons_zero, List.set_cons_succ]
        refine wpAnyH_take (i := 5) (oi := _) (v := ?_) rfl (by kernel_rfl) (by kernel_rfl) (by kernel_rfl) (fun _ _ _ h => h) (Or.inl ⟨by rfl, ?_⟩) (by assumption) ?_
        rotate_left 1
        · intro w hSw; (try dsimp only at hSw); go_simp; try (with_reducible rfl)
        try simp only [Act.put, List.getElem_toArray, List.getElem_cons_zero, List.getElem_cons_succ, List.setIfInBounds_toArray, List.set_cons_zero, List.set_cons_succ]
        refine wpAnyH_take (i := 6) (oi := _) (v := ?_) rfl (by kernel_rfl) (by kernel_rfl) (by kernel_rfl) (fun _ _ _ h => h) (Or.inl ⟨by rfl, ?_⟩) (by assumption) ?_
        rotate_left 1
        · intro w hSw; (try dsimp only at hSw); go_simp; try (with_reducible rfl)
        try simp only [Act.put, List.getElem_toArray, List.getElem_cons_zero, List.getElem_cons_succ, List.setIfInBounds_toArray, List.set_cons_zero, List.set_cons_succ]
        refine wpAnyH_take (i := 7) (oi := _) (v := ?_) rfl (by kernel_rfl) (by kernel_rfl) (by kernel_rfl) (fun _ _ _ h => h) (Or.inl ⟨by rfl, ?_⟩) (by assumption) ?_
        rotate_left 1
        · intro w hSw; (try dsimp only at hSw); go_simp; try (with_reducible rfl)
        try simp only [Act.put, List.getElem_toArray, List.getElem_cons_zero, List.getElem_cons_succ, List.setIfInBounds_toArray, List.set_cons_zero, List.set_cons_succ]
        refine wpAnyH_ready (rs := [3, 9, 10]) (by kernel_rfl) (by simp) ?_
        refine AllReadyH.cons (o := _) rfl (fun K hK => ?_) ?_
        · go_simp
          refine (PA.out _).mono ?_
          rintro e g1 ⟨rfl, hg6⟩
          have hS6 := WdS.all (WdS.by_ hHeld.2.2.2.2.2 hg6)
          clear hg6
          go_wp2_with fail
          refine hK.out _ _ ?_ (fun hHeld2 => ?_)
          · exact hS6
          clear hK K hHeld
          have hHeld := hHeld2
          clear hHeld2 hS6
          try simp only [Act.put, List.getElem_toArray, List.getElem_cons_zero, List.getElem_cons_succ, List.setIfInBounds_toArray, List.set_cons_zero, List.set_cons_succ]
          refine wpAnyH_ready (rs := [8, 9, 10]) (by kernel_rfl) (by simp) ?_
          refine AllReadyH.cons (o := _) rfl (fun K hK => ?_) ?_
          · go_simp
            refine (PB.out _).mono ?_
            rintro e g2 ⟨rfl, hg6⟩
            have hS6 := WdS.all (WdS.by_ hHeld.2.2.2.2.2 hg6)
            clear hg6
            go_wp2_with fail
            refine hK.out _ _ ?_ (fun hHeld2 => ?_)
            · exact hS6
            clear hK K hHeld
            have hHeld := hHeld2
            clear hHeld2 hS6
            try simp only [Act.put, List.getElem_toArray, List.getElem_cons_zero, List.getElem_cons_succ, List.setIfInBounds_toArray, List.set_cons_zero, List.set_cons_succ]
            refine wpAnyH_ready (rs := [9, 10]) (by kernel_rfl) (by simp) ?_
            refine AllReadyH.cons (o := _) rfl (fun K hK => ?_) ?_
            · go_simp
              have gA := gb_alloc (gb_refl g2 none) (.cells #[.int .i64 0, .int .i64 0] 29)
              have hS6 := WdS.all (WdS.by_ hHeld.2.2.2.2.2 gA)
              have h13 : n11 < g2.heap.size := hHeld.2.2.2.2.2.k11.lt
              have K13 := Lib.hid (Bk.new g2 #[.int .i64 0, .int .i64 0] 29)
              clear gA
              refine hK.out _ _ ?_ (fun hHeld2 => ?_)
              · exact hS6
              clear hK K hHeld
              have hHeld := hHeld2
              clear hHeld2 hS6
              try simp only [Act.put, List.getElem_toArray, List.getElem_cons_zero, List.getElem_cons_succ, List.setIfInBounds_toArray, List.set_cons_zero, List.set_cons_succ]
              generalize g2.alloc _ = g3 at *
              generalize g2.heap.size = n13 at *
              refine wpAnyH_ready (rs := [10]) (by kernel_rfl) (by simp) ?_
              refine AllReadyH.cons (o := _) rfl (fun K hK => ?_) ?_
              · go_simp
                have gA := gb_alloc (gb_refl g3 none) (.cells #[.int .i64 0, .int .i64 0] 29)
                have hS6 := WdS.all (WdS.by_ hHeld.2.2.2.2.2 gA)
                have h14 : n11 < g3.heap.size := hHeld.2.2.2.2.2.k11.lt
                have hne : n13 ≠ g3.heap.size := Nat.ne_of_lt K13.out.lt
                have K13 := Lib.hid (K13.out.of gA (by simp))
                have K14 := Lib.hid (Bk.new g3 #[.int .i64 0, .int .i64 0] 29)
                clear gA
                refine hK.out _ _ ?_ (fun hHeld2 => ?_)
                · exact hS6
                clear hK K hHeld
                have hHeld := hHeld2
                clear hHeld2 hS6
                try simp only [Act.put, List.getElem_toArray, List.getElem_cons_zero, List.getElem_cons_succ, List.setIfInBounds_toArray, List.set_cons_zero, List.set_cons_succ]
                generalize g3.alloc _ = g4 at *
                generalize g3.heap.size = n14 at *
                refine wpAnyH_ready (rs := [11]) (by kernel_rfl) (by simp) ?_
                refine AllReadyH.cons (o := _) rfl (fun K hK => ?_) ?_
                · have kc := K13.out.cell
                  have kf := K13.out.frozen
                  go_simp
                  have gS := setC_gb n13 [.int .i64 x1, .int .i64 x2] g4 0
                  have hS6 := WdS.all (WdS.oth hHeld.2.2.2.2.2 gS h13)
                  have KO := K14.out.of gS (by simp; omega)
                  have KM := K13.out.all [.int .i64 x1, .int .i64 x2] rfl
                  simp only [setC] at hS6 KO KM
                  have K13 := Lib.hid KM
                  have K14 := Lib.hid KO
                  clear gS KO KM kc kf
                  refine hK.out _ _ ?_ (fun hHeld2 => ?_)
                  · exact hS6
                  clear hK K hHeld
                  have hHeld := hHeld2
                  clear hHeld2 hS6
                  try simp only [Act.put, List.getElem_toArray, List.getElem_cons_zero, List.getElem_cons_succ, List.setIfInBounds_toArray, List.set_cons_zero, List.set_cons_succ]
                  generalize World.setCell _ ⟨n13, 1, none⟩ _ = g5 at *
                  refine wpAnyH_ready (rs := [12]) (by kernel_rfl) (by simp) ?_
                  refine AllReadyH.cons (o := _) rfl (fun K hK => ?_) ?_
                  · have kc := K14.out.cell
                    have kf := K14.out.frozen
                    go_simp
                    have gS := setC_gb n14 [.int .i64 y1, .int .i64 y2] g5 0
                    have hS6 := WdS.all (WdS.oth hHeld.2.2.2.2.2 gS h14)
                    have KO := K13.out.of gS (by simp; omega)
                    have KM := K14.out.all [.int .i64 y1, .int .i64 y2] rfl
                    simp only [setC] at hS6 KO KM
                    have K14 := Lib.hid KM
                    have K13 := Lib.hid KO
                    clear gS KO KM kc kf
                    refine hK.out _ _ ?_ (fun hHeld2 => ?_)
                    · exact hS6
                    clear hK K hHeld
                    have hHeld := hHeld2
                    clear hHeld2 hS6
                    try simp only [Act.put, List.getElem_toArray, List.getElem_cons_zero, List.getElem_cons_succ, List.setIfInBounds_toArray, List.set_cons_zero, List.set_cons_succ]
                    generalize World.setCell _ ⟨n14, 1, none⟩ _ = g6 at *
                    refine wpAnyH_done (by kernel_rfl) ?_ _
                    go_wp2_with fail
                    go_meet
                    exact ⟨n13, n14, rfl, rfl, K13.out, K14.out, hHeld.2.2.2.2.2⟩
                  exact AllReadyH.nil
                exact AllReadyH.nil
              exact AllReadyH.nil
            refine AllReadyH.cons (o := _) rfl (fun K hK => ?_) ?_
            · go_simp
              have gA := gb_alloc (gb_refl g2 none) (.cells #[.int .i64 0, .int .i64 0] 29)
              have hS6 := WdS.all (WdS.by_ hHeld.2.2.2.2.2 gA)
              have h14 : n11 < g2.heap.size := hHeld.2.2.2.2.2.k11.lt
              have K14 := Lib.hid (Bk.new g2 #[.int .i64 0, .int .i64 0] 29)
              clear gA
              refine hK.out _ _ ?_ (fun hHeld2 => ?_)
              · exact hS6
              clear hK K hHeld
              have hHeld := hHeld2
              clear hHeld2 hS6
              try simp only [Act.put, List.getElem_toArray, List.getElem_cons_zero, List.getElem_cons_succ, List.setIfInBounds_toArray, List.set_cons_zero, List.set_cons_succ]
              generalize g2.alloc _ = g7 at *
              generalize g2.heap.size = n14 at *
              refine wpAnyH_ready (rs := [9]) (by kernel_rfl) (by simp) ?_
              refine AllReadyH.cons (o := _) rfl (fun K hK => ?_) ?_
              · go_simp
                have gA := gb_alloc (gb_refl g7 none) (.cells #[.int .i64 0, .int .i64 0] 29)
                have hS6 := WdS.all (WdS.by_ hHeld.2.2.2.2.2 gA)
                have h13 : n11 < g7.heap.size := hHeld.2.2.2.2.2.k11.lt
                have hne : n14 ≠ g7.heap.size := Nat.ne_of_lt K14.out.lt
                have K14 := Lib.hid (K14.out.of gA (by simp))
                have K13 := Lib.hid (Bk.new g7 #[.int .i64 0, .int .i64 0] 29)
                clear gA
                refine hK.out _ _ ?_ (fun hHeld2 => ?_)
                · exact hS6
                clear hK K hHeld
                have hHeld := hHeld2
                clear hHeld2 hS6
                try simp only [Act.put, List.getElem_toArray, List.getElem_cons_zero, List.getElem_cons_succ, List.setIfInBounds_toArray, List.set_cons_zero, List.set_cons_succ]
                generalize g7.alloc _ = g8 at *
                generalize g7.heap.size = n13 at *
                refine wpAnyH_ready (rs := [11]) (by kernel_rfl) (by simp) ?_
                refine AllReadyH.cons (o := _) rfl (fun K hK => ?_) ?_
                · have kc := K13.out.cell
                  have kf := K13.out.frozen
                  go_simp
                  have gS := setC_gb n13 [.int .i64 x1, .int .i64 x2] g8 0
                  have hS6 := WdS.all (WdS.oth hHeld.2.2.2.2.2 gS h13)
                  have KO := K14.out.of gS (by simp; omega)
                  have KM := K13.out.all [.int .i64 x1, .int .i64 x2] rfl
                  simp only [setC] at hS6 KO KM
                  have K13 := Lib.hid KM
                  have K14 := Lib.hid KO
                  clear gS KO KM kc kf
                  refine hK.out _ _ ?_ (fun hHeld2 => ?_)
                  · exact hS6
                  clear hK K hHeld
                  have hHeld := hHeld2
                  clear hHeld2 hS6
                  try simp only [Act.put, List.getElem_toArray, List.getElem_cons_zero, List.getElem_cons_succ, List.setIfInBounds_toArray, List.set_cons_zero, List.set_cons_succ]
                  generalize World.setCell _ ⟨n13, 1, none⟩ _ = g9 at *
                  refine wpAnyH_ready (rs := [12]) (by kernel_rfl) (by simp) ?_
                  refine AllReadyH.cons (o := _) rfl (fun K hK => ?_) ?_
                  · have kc := K14.out.cell
                    have kf := K14.out.frozen
                    go_simp
                    have gS := setC_gb n14 [.int .i64 y1, .int .i64 y2] g9 0
                    have hS6 := WdS.all (WdS.oth hHeld.2.2.2.2.2 gS h14)
                    have KO := K13.out.of gS (by simp; omega)
                    have KM := K14.out.all [.int .i64 y1, .int .i64 y2] rfl
                    simp only [setC] at hS6 KO KM
                    have K14 := Lib.hid KM
                    have K13 := Lib.hid KO
                    clear gS KO KM kc kf
                    refine hK.out _ _ ?_ (fun hHeld2 => ?_)
                    · exact hS6
                    clear hK K hHeld
                    have hHeld := hHeld2
                    clear hHeld2 hS6
                    try simp only [Act.put, List.getElem_toArray, List.getElem_cons_zero, List.getElem_cons_succ, List.setIfInBounds_toArray, List.set_cons_zero, List.set_cons_succ]
                    generalize World.setCell _ ⟨n14, 1, none⟩ _ = g10 at *
                    refine wpAnyH_done (by kernel_rfl) ?_ _
                    go_wp2_with fail
                    go_meet
                    exact ⟨n13, n14, rfl, rfl, K13.out, K14.out, hHeld.2.2.2.2.2⟩
                  exact AllReadyH.nil
                exact AllReadyH.nil
              exact AllReadyH.nil
            exact AllReadyH.nil
          refine AllReadyH.cons (o := _) rfl (fun K hK => ?_) ?_
          · go_simp
            have gA := gb_alloc (gb_refl g1 none) (.cells #[.int .i64 0, .int .i64 0] 29)
            have hS6 := WdS.all (WdS.by_ hHeld.2.2.2.2.2 gA)
            have h13 : n11 < g1.heap.size := hHeld.2.2.2.2.2.k11.lt
            have K13 := Lib.hid (Bk.new g1 #[.int .i64 0, .int .i64 0] 29)
            clear gA
            refine hK.out _ _ ?_ (fun hHeld2 => ?_)
            · exact hS6
            clear hK K hHeld
            have hHeld := hHeld2
            clear hHeld2 hS6
            try simp only [Act.put, List.getElem_toArray, List.getElem_cons_zero, List.getElem_cons_succ, List.setIfInBounds_toArray, List.set_cons_zero, List.set_cons_succ]
            generalize g1.alloc _ = g11 at *
            generalize g1.heap.size = n13 at *
            refine wpAnyH_ready (rs := [8, 10]) (by kernel_rfl) (by simp) ?_
            refine AllReadyH.cons (o := _) rfl (fun K hK => ?_) ?_
            · go_simp
              refine (PB.out _).mono ?_
              rintro e g12 ⟨rfl, hg6⟩
              have hS6 := WdS.all (WdS.by_ hHeld.2.2.2.2.2 hg6)
              have K13 := Lib.hid (K13.out.of hg6 (by simp))
              clear hg6
              go_wp2_with fail
              refine hK.out _ _ ?_ (fun hHeld2 => ?_)
              · exact hS6
              clear hK K hHeld
              have hHeld := hHeld2
              clear hHeld2 hS6
              try simp only [Act.put, List.getElem_toArray, List.getElem_cons_zero, List.getElem_cons_succ, List.setIfInBounds_toArray, List.set_cons_zero, List.set_cons_succ]
              refine wpAnyH_ready (rs := [10]) (by kernel_rfl) (by simp) ?_
              refine AllReadyH.cons (o := _) rfl (fun K hK => ?_) ?_
              · go_simp
                have gA := gb_alloc (gb_refl g12 none) (.cells #[.int .i64 0, .int .i64 0] 29)
                have hS6 := WdS.all (WdS.by_ hHeld.2.2.2.2.2 gA)
                have h14 : n11 < g12.heap.size := hHeld.2.2.2.2.2.k11.lt
                have hne : n13 ≠ g12.heap.size := Nat.ne_of_lt K13.out.lt
                have K13 := Lib.hid (K13.out.of gA (by simp))
                have K14 := Lib.hid (Bk.new g12 #[.int .i64 0, .int .i64 0] 29)
                clear gA
                refine hK.out _ _ ?_ (fun hHeld2 => ?_)
                · exact hS6
                clear hK K hHeld
                have hHeld := hHeld2
                clear hHeld2 hS6
                try simp only [Act.put, List.getElem_toArray, List.getElem_cons_zero, List.getElem_cons_succ, List.setIfInBounds_toArray, List.set_cons_zero, List.set_cons_succ]
                generalize g12.alloc _ = g13 at *
                generalize g12.heap.size = n14 at *
                refine wpAnyH_ready (rs := [11]) (by kernel_rfl) (by simp) ?_
                refine AllReadyH.cons (o := _) rfl (fun K hK => ?_) ?_
                · have kc := K13.out.cell
                  have kf := K13.out.frozen
                  go_simp
                  have gS := setC_gb n13 [.int .i64 x1, .int .i64 x2] g13 0
                  have hS6 := WdS.all (WdS.oth hHeld.2.2.2.2.2 gS h13)
                  have KO := K14.out.of gS (by simp; omega)
                  have KM := K13.out.all [.int .i64 x1, .int .i64 x2] rfl
                  simp only [setC] at hS6 KO KM
                  have K13 := Lib.hid KM
                  have K14 := Lib.hid KO
                  clear gS KO KM kc kf
                  refine hK.out _ _ ?_ (fun hHeld2 => ?_)
                  · exact hS6
                  clear hK K hHeld
                  have hHeld := hHeld2
                  clear hHeld2 hS6
                  try simp only [Act.put, List.getElem_toArray, List.getElem_cons_zero, List.getElem_cons_succ, List.setIfInBounds_toArray, List.set_cons_zero, List.set_cons_succ]
                  generalize World.setCell _ ⟨n13, 1, none⟩ _ = g14 at *
                  refine wpAnyH_ready (rs := [12]) (by kernel_rfl) (by simp) ?_
                  refine AllReadyH.cons (o := _) rfl (fun K hK => ?_) ?_
                  · have kc := K14.out.cell
                    have kf := K14.out.frozen
                    go_simp
                    have gS := setC_gb n14 [.int .i64 y1, .int .i64 y2] g14 0
                    have hS6 := WdS.all (WdS.oth hHeld.2.2.2.2.2 gS h14)
                    have KO := K13.out.of gS (by simp; omega)
                    have KM := K14.out.all [.int .i64 y1, .int .i64 y2] rfl
                    simp only [setC] at hS6 KO KM
                    have K14 := Lib.hid KM
                    have K13 := Lib.hid KO
                    clear gS KO KM kc kf
                    refine hK.out _ _ ?_ (fun hHeld2 => ?_)
                    · exact hS6
                    clear hK K hHeld
                    have hHeld := hHeld2
                    clear hHeld2 hS6
                    try simp only [Act.put, List.getElem_toArray, List.getElem_cons_zero, List.getElem_cons_succ, List.setIfInBounds_toArray, List.set_cons_zero, List.set_cons_succ]
                    generalize World.setCell _ ⟨n14, 1, none⟩ _ = g15 at *
                    refine wpAnyH_done (by kernel_rfl) ?_ _
                    go_wp2_with fail
                    go_meet
                    exact ⟨n13, n14, rfl, rfl, K13.out, K14.out, hHeld.2.2.2.2.2⟩
                  exact AllReadyH.nil
                exact AllReadyH.nil
              exact AllReadyH.nil
            refine AllReadyH.cons (o := _) rfl (fun K hK => ?_) ?_
            · go_simp
              have gA := gb_alloc (gb_refl g11 none) (.cells #[.int .i64 0, .int .i64 0] 29)
              have hS6 := WdS.all (WdS.by_ hHeld.2.2.2.2.2 gA)
              have h14 : n11 < g11.heap.size := hHeld.2.2.2.2.2.k11.lt
              have hne : n13 ≠ g11.heap.size := Nat.ne_of_lt K13.out.lt
              have K13 := Lib.hid (K13.out.of gA (by simp))
              have K14 := Lib.hid (Bk.new g11 #[.int .i64 0, .int .i64 0] 29)
              clear gA
              refine hK.out _ _ ?_ (fun hHeld2 => ?_)
              · exact hS6
              clear hK K hHeld
              have hHeld := hHeld2
              clear hHeld2 hS6
              try simp only [Act.put, List.getElem_toArray, List.getElem_cons_zero, List.getElem_cons_succ, List.setIfInBounds_toArray, List.set_cons_zero, List.set_cons_succ]
              generalize g11.alloc _ = g16 at *
              generalize g11.heap.size = n14 at *
              refine wpAnyH_ready (rs := [8]) (by kernel_rfl) (by simp) ?_
              refine AllReadyH.cons (o := _) rfl (fun K hK => ?_) ?_
              · go_simp
                refine (PB.out _).mono ?_
                rintro e g17 ⟨rfl, hg6⟩
                have hS6 := WdS.all (WdS.by_ hHeld.2.2.2.2.2 hg6)
                have K13 := Lib.hid (K13.out.of hg6 (by simp))
                have K14 := Lib.hid (K14.out.of hg6 (by simp))
                clear hg6
                go_wp2_with fail
                refine hK.out _ _ ?_ (fun hHeld2 => ?_)
                · exact hS6
                clear hK K hHeld
                have hHeld := hHeld2
                clear hHeld2 hS6
                try simp only [Act.put, List.getElem_toArray, List.getElem_cons_zero, List.getElem_cons_succ, List.setIfInBounds_toArray, List.set_cons_zero, List.set_cons_succ]
                refine wpAnyH_ready (rs := [11]) (by kernel_rfl) (by simp) ?_
                refine AllReadyH.cons (o := _) rfl (fun K hK => ?_) ?_
                · have kc := K13.out.cell
                  have kf := K13.out.frozen
                  go_simp
                  have gS := setC_gb n13 [.int .i64 x1, .int .i64 x2] g17 0
                  have hS6 := WdS.all (WdS.oth hHeld.2.2.2.2.2 gS h13)
                  have KO := K14.out.of gS (by simp; omega)
                  have KM := K13.out.all [.int .i64 x1, .int .i64 x2] rfl
                  simp only [setC] at hS6 KO KM
                  have K13 := Lib.hid KM
                  have K14 := Lib.hid KO
                  clear gS KO KM kc kf
                  refine hK.out _ _ ?_ (fun hHeld2 => ?_)
                  · exact hS6
                  clear hK K hHeld
                  have hHeld := hHeld2
                  clear hHeld2 hS6
                  try simp only [Act.put, List.getElem_toArray, List.getElem_cons_zero, List.getElem_cons_succ, List.setIfInBounds_toArray, List.set_cons_zero, List.set_cons_succ]
                  generalize World.setCell _ ⟨n13, 1, none⟩ _ = g18 at *
                  refine wpAnyH_ready (rs := [12]) (by kernel_rfl) (by simp) ?_
                  refine AllReadyH.cons (o := _) rfl (fun K hK => ?_) ?_
                  · have kc := K14.out.cell
                    have kf := K14.out.frozen
                    go_simp
                    have gS := setC_gb n14 [.int .i64 y1, .int .i64 y2] g18 0
                    have hS6 := WdS.all (WdS.oth hHeld.2.2.2.2.2 gS h14)
                    have KO := K13.out.of gS (by simp; omega)
                    have KM := K14.out.all [.int .i64 y1, .int .i64 y2] rfl
                    simp only [setC] at hS6 KO KM
                    have K14 := Lib.hid KM
                    have K13 := Lib.hid KO
                    clear gS KO KM kc kf
                    refine hK.out _ _ ?_ (fun hHeld2 => ?_)
                    · exact hS6
                    clear hK K hHeld
                    have hHeld := hHeld2
                    clear hHeld2 hS6
                    try simp only [Act.put, List.getElem_toArray, List.getElem_cons_zero, List.getElem_cons_succ, List.setIfInBounds_toArray, List.set_cons_zero, List.set_cons_succ]
                    generalize World.setCell _ ⟨n14, 1, none⟩ _ = g19 at *
                    refine wpAnyH_done (by kernel_rfl) ?_ _
                    go_wp2_with fail
                    go_meet
                    exact ⟨n13, n14, rfl, rfl, K13.out, K14.out, hHeld.2.2.2.2.2⟩
                  exact AllReadyH.nil
                exact AllReadyH.nil
              exact AllReadyH.nil
            exact AllReadyH.nil
          refine AllReadyH.cons (o := _) rfl (fun K hK => ?_) ?_
          · go_simp
            have gA := gb_alloc (gb_refl g1 none) (.cells #[.int .i64 0, .int .i64 0] 29)
            have hS6 := WdS.all (WdS.by_ hHeld.2.2.2.2.2 gA)
            have h14 : n11 < g1.heap.size := hHeld.2.2.2.2.2.k11.lt
            have K14 := Lib.hid (Bk.new g1 #[.int .i64 0, .int .i64 0] 29)
            clear gA
            refine hK.out _ _ ?_ (fun hHeld2 => ?_)
            · exact hS6
            clear hK K hHeld
            have hHeld := hHeld2
            clear hHeld2 hS6
            try simp only [Act.put, List.getElem_toArray, List.getElem_cons_zero, List.getElem_cons_succ, List.setIfInBounds_toArray, List.set_cons_zero, List.set_cons_succ]
            generalize g1.alloc _ = g20 at *
            generalize g1.heap.size = n14 at *
            refine wpAnyH_ready (rs := [8, 9]) (by kernel_rfl) (by simp) ?_
            refine AllReadyH.cons (o := _) rfl (fun K hK => ?_) ?_
            · go_simp
              refine (PB.out _).mono ?_
              rintro e g21 ⟨rfl, hg6⟩
              have hS6 := WdS.all (WdS.by_ hHeld.2.2.2.2.2 hg6)
              have K14 := Lib.hid (K14.out.of hg6 (by simp))
              clear hg6
              go_wp2_with fail
              refine hK.out _ _ ?_ (fun hHeld2 => ?_)
              · exact hS6
              clear hK K hHeld
              have hHeld := hHeld2
              clear hHeld2 hS6
              try simp only [Act.put, List.getElem_toArray, List.getElem_cons_zero, List.getElem_cons_succ, List.setIfInBounds_toArray, List.set_cons_zero, List.set_cons_succ]
              refine wpAnyH_ready (rs := [9]) (by kernel_rfl) (by simp) ?_
              refine AllReadyH.cons (o := _) rfl (fun K hK => ?_) ?_
              · go_simp
                have gA := gb_alloc (gb_refl g21 none) (.cells #[.int .i64 0, .int .i64 0] 29)
                have hS6 := WdS.all (WdS.by_ hHeld.2.2.2.2.2 gA)
                have h13 : n11 < g21.heap.size := hHeld.2.2.2.2.2.k11.lt
                have hne : n14 ≠ g21.heap.size := Nat.ne_of_lt K14.out.lt
                have K14 := Lib.hid (K14.out.of gA (by simp))
                have K13 := Lib.hid (Bk.new g21 #[.int .i64 0, .int .i64 0] 29)
                clear gA
                refine hK.out _ _ ?_ (fun hHeld2 => ?_)
                · exact hS6
                clear hK K hHeld
                have hHeld := hHeld2
                clear hHeld2 hS6
                try simp only [Act.put, List.getElem_toArray, List.getElem_cons_zero, List.getElem_cons_succ, List.setIfInBounds_toArray, List.set_cons_zero, List.set_cons_succ]
                generalize g21.alloc _ = g22 at *
                generalize g21.heap.size = n13 at *
                refine wpAnyH_ready (rs := [11]) (by kernel_rfl) (by simp) ?_
                refine AllReadyH.cons (o := _) rfl (fun K hK => ?_) ?_
                · have kc := K13.out.cell
                  have kf := K13.out.frozen
                  go_simp
                  have gS := setC_gb n13 [.int .i64 x1, .int .i64 x2] g22 0
                  have hS6 := WdS.all (WdS.oth hHeld.2.2.2.2.2 gS h13)
                  have KO := K14.out.of gS (by simp; omega)
                  have KM := K13.out.all [.int .i64 x1, .int .i64 x2] rfl
                  simp only [setC] at hS6 KO KM
                  have K13 := Lib.hid KM
                  have K14 := Lib.hid KO
                  clear gS KO KM kc kf
                  refine hK.out _ _ ?_ (fun hHeld2 => ?_)
                  · exact hS6
                  clear hK K hHeld
                  have hHeld := hHeld2
                  clear hHeld2 hS6
                  try simp only [Act.put, List.getElem_toArray, List.getElem_cons_zero, List.getElem_cons_succ, List.setIfInBounds_toArray, List.set_cons_zero, List.set_cons_succ]
                  generalize World.setCell _ ⟨n13, 1, none⟩ _ = g23 at *
                  refine wpAnyH_ready (rs := [12]) (by kernel_rfl) (by simp) ?_
                  refine AllReadyH.cons (o := _) rfl (fun K hK => ?_) ?_
                  · have kc := K14.out.cell
                    have kf := K14.out.frozen
                    go_simp
                    have gS := setC_gb n14 [.int .i64 y1, .int .i64 y2] g23 0
                    have hS6 := WdS.all (WdS.oth hHeld.2.2.2.2.2 gS h14)
                    have KO := K13.out.of gS (by simp; omega)
                    have KM := K14.out.all [.int .i64 y1, .int .i64 y2] rfl
                    simp only [setC] at hS6 KO KM
                    have K14 := Lib.hid KM
                    have K13 := Lib.hid KO
                    clear gS KO KM kc kf
                    refine hK.out _ _ ?_ (fun hHeld2 => ?_)
                    · exact hS6
                    clear hK K hHeld
                    have hHeld := hHeld2
                    clear hHeld2 hS6
                    try simp only [Act.put, List.getElem_toArray, List.getElem_cons_zero, List.getElem_cons_succ, List.setIfInBounds_toArray, List.set_cons_zero, List.set_cons_succ]
                    generalize World.setCell _ ⟨n14, 1, none⟩ _ = g24 at *
                    refine wpAnyH_done (by kernel_rfl) ?_ _
                    go_wp2_with fail
                    go_meet
                    exact ⟨n13, n14, rfl, rfl, K13.out, K14.out, hHeld.2.2.2.2.2⟩
                  exact AllReadyH.nil
                exact AllReadyH.nil
              exact AllReadyH.nil
            refine AllReadyH.cons (o := _) rfl (fun K hK => ?_) ?_
            · go_simp
              have gA := gb_alloc (gb_refl g20 none) (.cells #[.int .i64 0, .int .i64 0] 29)
              have hS6 := WdS.all (WdS.by_ hHeld.2.2.2.2.2 gA)
              have h13 : n11 < g20.heap.size := hHeld.2.2.2.2.2.k11.lt
              have hne : n14 ≠ g20.heap.size := Nat.ne_of_lt K14.out.lt
              have K14 := Lib.hid (K14.out.of gA (by simp))
              have K13 := Lib.hid (Bk.new g20 #[.int .i64 0, .int .i64 0] 29)
              clear gA
              refine hK.out _ _ ?_ (fun hHeld2 => ?_)
              · exact hS6
              clear hK K hHeld
              have hHeld := hHeld2
              clear hHeld2 hS6
              try simp only [Act.put, List.getElem_toArray, List.getElem_cons_zero, List.getElem_cons_succ, List.setIfInBounds_toArray, List.set_cons_zero, List.set_cons_succ]
              generalize g20.alloc _ = g25 at *
              generalize g20.heap.size = n13 at *
              refine wpAnyH_ready (rs := [8]) (by kernel_rfl) (by simp) ?_
              refine AllReadyH.cons (o := _) rfl (fun K hK => ?_) ?_
              · go_simp
                refine (PB.out _).mono ?_
                rintro e g26 ⟨rfl, hg6⟩
                have hS6 := WdS.all (WdS.by_ hHeld.2.2.2.2.2 hg6)
                have K13 := Lib.hid (K13.out.of hg6 (by simp))
                have K14 := Lib.hid (K14.out.of hg6 (by simp))
                clear hg6
                go_wp2_with fail
                refine hK.out _ _ ?_ (fun hHeld2 => ?_)
                · exact hS6
                clear hK K hHeld
                have hHeld := hHeld2
                clear hHeld2 hS6
                try simp only [Act.put, List.getElem_toArray, List.getElem_cons_zero, List.getElem_cons_succ, List.setIfInBounds_toArray, List.set_cons_zero, List.set_cons_succ]
                refine wpAnyH_ready (rs := [11]) (by kernel_rfl) (by simp) ?_
                refine AllReadyH.cons (o := _) rfl (fun K hK => ?_) ?_
                · have kc := K13.out.cell
                  have kf := K13.out.frozen
                  go_simp
                  have gS := setC_gb n13 [.int .i64 x1, .int .i64 x2] g26 0
                  have hS6 := WdS.all (WdS.oth hHeld.2.2.2.2.2 gS h13)
                  have KO := K14.out.of gS (by simp; omega)
                  have KM := K13.out.all [.int .i64 x1, .int .i64 x2] rfl
                  simp only [setC] at hS6 KO KM
                  have K13 := Lib.hid KM
                  have K14 := Lib.hid KO
                  clear gS KO KM kc kf
                  refine hK.out _ _ ?_ (fun hHeld2 => ?_)
                  · exact hS6
                  clear hK K hHeld
                  have hHeld := hHeld2
                  clear hHeld2 hS6
                  try simp only [Act.put, List.getElem_toArray, List.getElem_cons_zero, List.getElem_cons_succ, List.setIfInBounds_toArray, List.set_cons_zero, List.set_cons_succ]
                  generalize World.setCell _ ⟨n13, 1, none⟩ _ = g27 at *
                  refine wpAnyH_ready (rs := [12]) (by kernel_rfl) (by simp) ?_
                  refine AllReadyH.cons (o := _) rfl (fun K hK => ?_) ?_
                  · have kc := K14.out.cell
                    have kf := K14.out.frozen
                    go_simp
                    have gS := setC_gb n14 [.int .i64 y1, .int .i64 y2] g27 0
                    have hS6 := WdS.all (WdS.oth hHeld.2.2.2.2.2 gS h14)
                    have KO := K13.out.of gS (by simp; omega)
                    have KM := K14.out.all [.int .i64 y1, .int .i64 y2] rfl
                    simp only [setC] at hS6 KO KM
                    have K14 := Lib.hid KM
                    have K13 := Lib.hid KO
                    clear gS KO KM kc kf
                    refine hK.out _ _ ?_ (fun hHeld2 => ?_)
                    · exact hS6
                    clear hK K hHeld
                    have hHeld := hHeld2
                    clear hHeld2 hS6
                    try simp only [Act.put, List.getElem_toArray, List.getElem_cons_zero, List.getElem_cons_succ, List.setIfInBounds_toArray, List.set_cons_zero, List.set_cons_succ]
                    generalize World.setCell _ ⟨n14, 1, none⟩ _ = g28 at *
                    refine wpAnyH_done (by kernel_rfl) ?_ _
                    go_wp2_with fail
                    go_meet
                    exact ⟨n13, n14, rfl, rfl, K13.out, K14.out, hHeld.2.2.2.2.2⟩
                  exact AllReadyH.nil
                exact AllReadyH.nil
              exact AllReadyH.nil
            exact AllReadyH.nil
          exact AllReadyH.nil
        refine AllReadyH.cons (o := _) rfl (fun K hK => ?_) ?_
        · go_simp
          have gA := gb_alloc (gb_refl g0 none) (.cells #[.int .i64 0, .int .i64 0] 29)
          have hS6 := WdS.all (WdS.by_ hHeld.2.2.2.2.2 gA)
          have h13 : n11 < g0.heap.size := hHeld.2.2.2.2.2.k11.lt
          have K13 := Lib.hid (Bk.new g0 #[.int .i64 0, .int .i64 0] 29)
          clear gA
          refine hK.out _ _ ?_ (fun hHeld2 => ?_)
          · exact hS6
          clear hK K hHeld
          have hHeld := hHeld2
          clear hHeld2 hS6
          try simp only [Act.put, List.getElem_toArray, List.getElem_cons_zero, List.getElem_cons_succ, List.setIfInBounds_toArray, List.set_cons_zero, List.set_cons_succ]
          generalize g0.alloc _ = g29 at *
          generalize g0.heap.size = n13 at *
          refine wpAnyH_ready (rs := [3, 10]) (by kernel_rfl) (by simp) ?_
          refine AllReadyH.cons (o := _) rfl (fun K hK => ?_) ?_
          · go_simp
            refine (PA.out _).mono ?_
            rintro e g30 ⟨rfl, hg6⟩
            have hS6 := WdS.all (WdS.by_ hHeld.2.2.2.2.2 hg6)
            have K13 := Lib.hid (K13.out.of hg6 (by simp))
            clear hg6
            go_wp2_with fail
            refine hK.out _ _ ?_ (fun hHeld2 => ?_)
            · exact hS6
            clear hK K hHeld
            have hHeld := hHeld2
            clear hHeld2 hS6
            try simp only [Act.put, List.getElem_toArray, List.getElem_cons_zero, List.getElem_cons_succ, List.setIfInBounds_toArray, List.set_cons_zero, List.set_cons_succ]
            refine wpAnyH_ready (rs := [8, 10]) (by kernel_rfl) (by simp) ?_
            refine AllReadyH.cons (o := _) rfl (fun K hK => ?_) ?_
            · go_simp
              refine (PB.out _).mono ?_
              rintro e g31 ⟨rfl, hg6⟩
              have hS6 := WdS.all (WdS.by_ hHeld.2.2.2.2.2 hg6)
              have K13 := Lib.hid (K13.out.of hg6 (by simp))
              clear hg6
              go_wp2_with fail
              refine hK.out _ _ ?_ (fun hHeld2 => ?_)
              · exact hS6
              clear hK K hHeld
              have hHeld := hHeld2
              clear hHeld2 hS6
              try simp only [Act.put, List.getElem_toArray, List.getElem_cons_zero, List.getElem_cons_succ, List.setIfInBounds_toArray, List.set_cons_zero, List.set_cons_succ]
              refine wpAnyH_ready (rs := [10]) (by kernel_rfl) (by simp) ?_
              refine AllReadyH.cons (o := _) rfl (fun K hK => ?_) ?_
              · go_simp
                have gA := gb_alloc (gb_refl g31 none) (.cells #[.int .i64 0, .int .i64 0] 29)
                have hS6 := WdS.all (WdS.by_ hHeld.2.2.2.2.2 gA)
                have h14 : n11 < g31.heap.size := hHeld.2.2.2.2.2.k11.lt
                have hne : n13 ≠ g31.heap.size := Nat.ne_of_lt K13.out.lt
                have K13 := Lib.hid (K13.out.of gA (by simp))
                have K14 := Lib.hid (Bk.new g31 #[.int .i64 0, .int .i64 0] 29)
                clear gA
                refine hK.out _ _ ?_ (fun hHeld2 => ?_)
                · exact hS6
                clear hK K hHeld
                have hHeld := hHeld2
                clear hHeld2 hS6
                try simp only [Act.put, List.getElem_toArray, List.getElem_cons_zero, List.getElem_cons_succ, List.setIfInBounds_toArray, List.set_cons_zero, List.set_cons_succ]
                generalize g31.alloc _ = g32 at *
                generalize g31.heap.size = n14 at *
                refine wpAnyH_ready (rs := [11]) (by kernel_rfl) (by simp) ?_
                refine AllReadyH.cons (o := _) rfl (fun K hK => ?_) ?_
                · have kc := K13.out.cell
                  have kf := K13.out.frozen
                  go_simp
                  have gS := setC_gb n13 [.int .i64 x1, .int .i64 x2] g32 0
                  have hS6 := WdS.all (WdS.oth hHeld.2.2.2.2.2 gS h13)
                  have KO := K14.out.of gS (by simp; omega)
                  have KM := K13.out.all [.int .i64 x1, .int .i64 x2] rfl
                  simp only [setC] at hS6 KO KM
                  have K13 := Lib.hid KM
                  have K14 := Lib.hid KO
                  clear gS KO KM kc kf
                  refine hK.out _ _ ?_ (fun hHeld2 => ?_)
                  · exact hS6
                  clear hK K hHeld
                  have hHeld := hHeld2
                  clear hHeld2 hS6
                  try simp only [Act.put, List.getElem_toArray, List.getElem_cons_zero, List.getElem_cons_succ, List.setIfInBounds_toArray, List.set_cons_zero, List.set_cons_succ]
                  generalize World.setCell _ ⟨n13, 1, none⟩ _ = g33 at *
                  refine wpAnyH_ready (rs := [12]) (by kernel_rfl) (by simp) ?_
                  refine AllReadyH.cons (o := _) rfl (fun K hK => ?_) ?_
                  · have kc := K14.out.cell
                    have kf := K14.out.frozen
                    go_simp
                    have gS := setC_gb n14 [.int .i64 y1, .int .i64 y2] g33 0
                    have hS6 := WdS.all (WdS.oth hHeld.2.2.2.2.2 gS h14)
                    have KO := K13.out.of gS (by simp; omega)
                    have KM := K14.out.all [.int .i64 y1, .int .i64 y2] rfl
                    simp only [setC] at hS6 KO KM
                    have K14 := Lib.hid KM
                    have K13 := Lib.hid KO
                    clear gS KO KM kc kf
                    refine hK.out _ _ ?_ (fun hHeld2 => ?_)
                    · exact hS6
                    clear hK K hHeld
                    have hHeld := hHeld2
                    clear hHeld2 hS6
                    try simp only [Act.put, List.getElem_toArray, List.getElem_cons_zero, List.getElem_cons_succ, List.setIfInBounds_toArray, List.set_cons_zero, List.set_cons_succ]
                    generalize World.setCell _ ⟨n14, 1, none⟩ _ = g34 at *
                    refine wpAnyH_done (by kernel_rfl) ?_ _
                    go_wp2_with fail
                    go_meet
                    exact ⟨n13, n14, rfl, rfl, K13.out, K14.out, hHeld.2.2.2.2.2⟩
                  exact AllReadyH.nil
                exact AllReadyH.nil
              exact AllReadyH.nil
            refine AllReadyH.cons (o := _) rfl (fun K hK => ?_) ?_
            · go_simp
              have gA := gb_alloc (gb_refl g30 none) (.cells #[.int .i64 0, .int .i64 0] 29)
              have hS6 := WdS.all (WdS.by_ hHeld.2.2.2.2.2 gA)
              have h14 : n11 < g30.heap.size := hHeld.2.2.2.2.2.k11.lt
              have hne : n13 ≠ g30.heap.size := Nat.ne_of_lt K13.out.lt
              have K13 := Lib.hid (K13.out.of gA (by simp))
              have K14 := Lib.hid (Bk.new g30 #[.int .i64 0, .int .i64 0] 29)
              clear gA
              refine hK.out _ _ ?_ (fun hHeld2 => ?_)
              · exact hS6
              clear hK K hHeld
              have hHeld := hHeld2
              clear hHeld2 hS6
              try simp only [Act.put, List.getElem_toArray, List.getElem_cons_zero, List.getElem_cons_succ, List.setIfInBounds_toArray, List.set_cons_zero, List.set_cons_succ]
              generalize g30.alloc _ = g35 at *
              generalize g30.heap.size = n14 at *
              refine wpAnyH_ready (rs := [8]) (by kernel_rfl) (by simp) ?_
              refine AllReadyH.cons (o := _) rfl (fun K hK => ?_) ?_
              · go_simp
                refine (PB.out _).mono ?_
                rintro e g36 ⟨rfl, hg6⟩
                have hS6 := WdS.all (WdS.by_ hHeld.2.2.2.2.2 hg6)
                have K13 := Lib.hid (K13.out.of hg6 (by simp))
                have K14 := Lib.hid (K14.out.of hg6 (by simp))
                clear hg6
                go_wp2_with fail
                refine hK.out _ _ ?_ (fun hHeld2 => ?_)
                · exact hS6
                clear hK K hHeld
                have hHeld := hHeld2
                clear hHeld2 hS6
                try simp only [Act.put, List.getElem_toArray, List.getElem_cons_zero, List.getElem_cons_succ, List.setIfInBounds_toArray, List.set_cons_zero, List.set_cons_succ]
                refine wpAnyH_ready (rs := [11]) (by kernel_rfl) (by simp) ?_
                refine AllReadyH.cons (o := _) rfl (fun K hK => ?_) ?_
                · have kc := K13.out.cell
                  have kf := K13.out.frozen
                  go_simp
                  have gS := setC_gb n13 [.int .i64 x1, .int .i64 x2] g36 0
                  have hS6 := WdS.all (WdS.oth hHeld.2.2.2.2.2 gS h13)
                  have KO := K14.out.of gS (by simp; omega)
                  have KM := K13.out.all [.int .i64 x1, .int .i64 x2] rfl
                  simp only [setC] at hS6 KO KM
                  have K13 := Lib.hid KM
                  have K14 := Lib.hid KO
                  clear gS KO KM kc kf
                  refine hK.out _ _ ?_ (fun hHeld2 => ?_)
                  · exact hS6
                  clear hK K hHeld
                  have hHeld := hHeld2
                  clear hHeld2 hS6
                  try simp only [Act.put, List.getElem_toArray, List.getElem_cons_zero, List.getElem_cons_succ, List.setIfInBounds_toArray, List.set_cons_zero, List.set_cons_succ]
                  generalize World.setCell _ ⟨n13, 1, none⟩ _ = g37 at *
                  refine wpAnyH_ready (rs := [12]) (by kernel_rfl) (by simp) ?_
                  refine AllReadyH.cons (o := _) rfl (fun K hK => ?_) ?_
                  · have kc := K14.out.cell
                    have kf := K14.out.frozen
                    go_simp
                    have gS := setC_gb n14 [.int .i64 y1, .int .i64 y2] g37 0
                    have hS6 := WdS.all (WdS.oth hHeld.2.2.2.2.2 gS h14)
                    have KO := K13.out.of gS (by simp; omega)
                    have KM := K14.out.all [.int .i64 y1, .int .i64 y2] rfl
                    simp only [setC] at hS6 KO KM
                    have K14 := Lib.hid KM
                    have K13 := Lib.hid KO
                    clear gS KO KM kc kf
                    refine hK.out _ _ ?_ (fun hHeld2 => ?_)
                    · exact hS6
                    clear hK K hHeld
                    have hHeld := hHeld2
                    clear hHeld2 hS6
                    try simp only [Act.put, List.getElem_toArray, List.getElem_cons_zero, List.getElem_cons_succ, List.setIfInBounds_toArray, List.set_cons_zero, List.set_cons_succ]
                    generalize World.setCell _ ⟨n14, 1, none⟩ _ = g38 at *
                    refine wpAnyH_done (by kernel_rfl) ?_ _
                    go_wp2_with fail
                    go_meet
                    exact ⟨n13, n14, rfl, rfl, K13.out, K14.out, hHeld.2.2.2.2.2⟩
                  exact AllReadyH.nil
                exact AllReadyH.nil
              exact AllReadyH.nil
            exact AllReadyH.nil
          refine AllReadyH.cons (o := _) rfl (fun K hK => ?_) ?_
          · go_simp
            have gA := gb_alloc (gb_refl g29 none) (.cells #[.int .i64 0, .int .i64 0] 29)
            have hS6 := WdS.all (WdS.by_ hHeld.2.2.2.2.2 gA)
            have h14 : n11 < g29.heap.size := hHeld.2.2.2.2.2.k11.lt
            have hne : n13 ≠ g29.heap.size := Nat.ne_of_lt K13.out.lt
            have K13 := Lib.hid (K13.out.of gA (by simp))
            have K14 := Lib.hid (Bk.new g29 #[.int .i64 0, .int .i64 0] 29)
            clear gA
            refine hK.out _ _ ?_ (fun hHeld2 => ?_)
            · exact hS6
            clear hK K hHeld
            have hHeld := hHeld2
            clear hHeld2 hS6
            try simp only [Act.put, List.getElem_toArray, List.getElem_cons_zero, List.getElem_cons_succ, List.setIfInBounds_toArray, List.set_cons_zero, List.set_cons_succ]
            generalize g29.alloc _ = g39 at *
            generalize g29.heap.size = n14 at *
            refine wpAnyH_ready (rs := [3]) (by kernel_rfl) (by simp) ?_
            refine AllReadyH.cons (o := _) rfl (fun K hK => ?_) ?_
            · go_simp
              refine (PA.out _).mono ?_
              rintro e g40 ⟨rfl, hg6⟩
              have hS6 := WdS.all (WdS.by_ hHeld.2.2.2.2.2 hg6)
              have K13 := Lib.hid (K13.out.of hg6 (by simp))
              have K14 := Lib.hid (K14.out.of hg6 (by simp))
              clear hg6
              go_wp2_with fail
              refine hK.out _ _ ?_ (fun hHeld2 => ?_)
              · exact hS6
              clear hK K hHeld
              have hHeld := hHeld2
              clear hHeld2 hS6
              try simp only [Act.put, List.getElem_toArray, List.getElem_cons_zero, List.getElem_cons_succ, List.setIfInBounds_toArray, List.set_cons_zero, List.set_cons_succ]
              refine wpAnyH_ready (rs := [8]) (by kernel_rfl) (by simp) ?_
              refine AllReadyH.cons (o := _) rfl (fun K hK => ?_) ?_
              · go_simp
                refine (PB.out _).mono ?_
                rintro e g41 ⟨rfl, hg6⟩
                have hS6 := WdS.all (WdS.by_ hHeld.2.2.2.2.2 hg6)
                have K13 := Lib.hid (K13.out.of hg6 (by simp))
                have K14 := Lib.hid (K14.out.of hg6 (by simp))
                clear hg6
                go_wp2_with fail
                refine hK.out _ _ ?_ (fun hHeld2 => ?_)
                · exact hS6
                clear hK K hHeld
                have hHeld := hHeld2
                clear hHeld2 hS6
                try simp only [Act.put, List.getElem_toArray, List.getElem_cons_zero, List.getElem_cons_succ, List.setIfInBounds_toArray, List.set_cons_zero, List.set_cons_succ]
                refine wpAnyH_ready (rs := [11]) (by kernel_rfl) (by simp) ?_
                refine AllReadyH.cons (o := _) rfl (fun K hK => ?_) ?_
                · have kc := K13.out.cell
                  have kf := K13.out.frozen
                  go_simp
                  have gS := setC_gb n13 [.int .i64 x1, .int .i64 x2] g41 0
                  have hS6 := WdS.all (WdS.oth hHeld.2.2.2.2.2 gS h13)
                  have KO := K14.out.of gS (by simp; omega)
                  have KM := K13.out.all [.int .i64 x1, .int .i64 x2] rfl
                  simp only [setC] at hS6 KO KM
                  have K13 := Lib.hid KM
                  have K14 := Lib.hid KO
                  clear gS KO KM kc kf
                  refine hK.out _ _ ?_ (fun hHeld2 => ?_)
                  · exact hS6
                  clear hK K hHeld
                  have hHeld := hHeld2
                  clear hHeld2 hS6
                  try simp only [Act.put, List.getElem_toArray, List.getElem_cons_zero, List.getElem_cons_succ, List.setIfInBounds_toArray, List.set_cons_zero, List.set_cons_succ]
                  generalize World.setCell _ ⟨n13, 1, none⟩ _ = g42 at *
                  refine wpAnyH_ready (rs := [12]) (by kernel_rfl) (by simp) ?_
                  refine AllReadyH.cons (o := _) rfl (fun K hK => ?_) ?_
                  · have kc := K14.out.cell
                    have kf := K14.out.frozen
                    go_simp
                    have gS := setC_gb n14 [.int .i64 y1, .int .i64 y2] g42 0
                    have hS6 := WdS.all (WdS.oth hHeld.2.2.2.2.2 gS h14)
                    have KO := K13.out.of gS (by simp; omega)
                    have KM := K14.out.all [.int .i64 y1, .int .i64 y2] rfl
                    simp only [setC] at hS6 KO KM
                    have K14 := Lib.hid KM
                    have K13 := Lib.hid KO
                    clear gS KO KM kc kf
                    refine hK.out _ _ ?_ (fun hHeld2 => ?_)
                    · exact hS6
                    clear hK K hHeld
                    have hHeld := hHeld2
                    clear hHeld2 hS6
                    try simp only [Act.put, List.getElem_toArray, List.getElem_cons_zero, List.getElem_cons_succ, List.setIfInBounds_toArray, List.set_cons_zero, List.set_cons_succ]
                    generalize World.setCell _ ⟨n14, 1, none⟩ _ = g43 at *
                    refine wpAnyH_done (by kernel_rfl) ?_ _
                    go_wp2_with fail
                    go_meet
                    exact ⟨n13, n14, rfl, rfl, K13.out, K14.out, hHeld.2.2.2.2.2⟩
                  exact AllReadyH.nil
                exact AllReadyH.nil
              exact AllReadyH.nil
            exact AllReadyH.nil
          exact AllReadyH.nil
        refine AllReadyH.cons (o := _) rfl (fun K hK => ?_) ?_
        · go_simp
          have gA := gb_alloc (gb_refl g0 none) (.cells #[.int .i64 0, .int .i64 0] 29)
          have hS6 := WdS.all (WdS.by_ hHeld.2.2.2.2.2 gA)
          have h14 : n11 < g0.heap.size := hHeld.2.2.2.2.2.k11.lt
          have K14 := Lib.hid (Bk.new g0 #[.int .i64 0, .int .i64 0] 29)
          clear gA
          refine hK.out _ _ ?_ (fun hHeld2 => ?_)
          · exact hS6
          clear hK K hHeld
          have hHeld := hHeld2
          clear hHeld2 hS6
          try simp only [Act.put, List.getElem_toArray, List.getElem_cons_zero, List.getElem_cons_succ, List.setIfInBounds_toArray, List.set_cons_zero, List.set_cons_succ]
          generalize g0.alloc _ = g44 at *
          generalize g0.heap.size = n14 at *
          refine wpAnyH_ready (rs := [3, 9]) (by kernel_rfl) (by simp) ?_
          refine AllReadyH.cons (o := _) rfl (fun K hK => ?_) ?_
          · go_simp
            refine (PA.out _).mono ?_
            rintro e g45 ⟨rfl, hg6⟩
            have hS6 := WdS.all (WdS.by_ hHeld.2.2.2.2.2 hg6)
            have K14 := Lib.hid (K14.out.of hg6 (by simp))
            clear hg6
            go_wp2_with fail
            refine hK.out _ _ ?_ (fun hHeld2 => ?_)
            · exact hS6
            clear hK K hHeld
            have hHeld := hHeld2
            clear hHeld2 hS6
            try simp only [Act.put, List.getElem_toArray, List.getElem_cons_zero, List.getElem_cons_succ, List.setIfInBounds_toArray, List.set_cons_zero, List.set_cons_succ]
            refine wpAnyH_ready (rs := [8, 9]) (by kernel_rfl) (by simp) ?_
            refine AllReadyH.cons (o := _) rfl (fun K hK => ?_) ?_
            · go_simp
              refine (PB.out _).mono ?_
              rintro e g46 ⟨rfl, hg6⟩
              have hS6 := WdS.all (WdS.by_ hHeld.2.2.2.2.2 hg6)
              have K14 := Lib.hid (K14.out.of hg6 (by simp))
              clear hg6
              go_wp2_with fail
              refine hK.out _ _ ?_ (fun hHeld2 => ?_)
              · exact hS6
              clear hK K hHeld
              have hHeld := hHeld2
              clear hHeld2 hS6
              try simp only [Act.put, List.getElem_toArray, List.getElem_cons_zero, List.getElem_cons_succ, List.setIfInBounds_toArray, List.set_cons_zero, List.set_cons_succ]
              refine wpAnyH_ready (rs := [9]) (by kernel_rfl) (by simp) ?_
              refine AllReadyH.cons (o := _) rfl (fun K hK => ?_) ?_
              · go_simp
                have gA := gb_alloc (gb_refl g46 none) (.cells #[.int .i64 0, .int .i64 0] 29)
                have hS6 := WdS.all (WdS.by_ hHeld.2.2.2.2.2 gA)
                have h13 : n11 < g46.heap.size := hHeld.2.2.2.2.2.k11.lt
                have hne : n14 ≠ g46.heap.size := Nat.ne_of_lt K14.out.lt
                have K14 := Lib.hid (K14.out.of gA (by simp))
                have K13 := Lib.hid (Bk.new g46 #[.int .i64 0, .int .i64 0] 29)
                clear gA
                refine hK.out _ _ ?_ (fun hHeld2 => ?_)
                · exact hS6
                clear hK K hHeld
                have hHeld := hHeld2
                clear hHeld2 hS6
                try simp only [Act.put, List.getElem_toArray, List.getElem_cons_zero, List.getElem_cons_succ, List.setIfInBounds_toArray, List.set_cons_zero, List.set_cons_succ]
                generalize g46.alloc _ = g47 at *
                generalize g46.heap.size = n13 at *
                refine wpAnyH_ready (rs := [11]) (by kernel_rfl) (by simp) ?_
                refine AllReadyH.cons (o := _) rfl (fun K hK => ?_) ?_
                · have kc := K13.out.cell
                  have kf := K13.out.frozen
                  go_simp
                  have gS := setC_gb n13 [.int .i64 x1, .int .i64 x2] g47 0
                  have hS6 := WdS.all (WdS.oth hHeld.2.2.2.2.2 gS h13)
                  have KO := K14.out.of gS (by simp; omega)
                  have KM := K13.out.all [.int .i64 x1, .int .i64 x2] rfl
                  simp only [setC] at hS6 KO KM
                  have K13 := Lib.hid KM
                  have K14 := Lib.hid KO
                  clear gS KO KM kc kf
                  refine hK.out _ _ ?_ (fun hHeld2 => ?_)
                  · exact hS6
                  clear hK K hHeld
                  have hHeld := hHeld2
                  clear hHeld2 hS6
                  try simp only [Act.put, List.getElem_toArray, List.getElem_cons_zero, List.getElem_cons_succ, List.setIfInBounds_toArray, List.set_cons_zero, List.set_cons_succ]
                  generalize World.setCell _ ⟨n13, 1, none⟩ _ = g48 at *
                  refine wpAnyH_ready (rs := [12]) (by kernel_rfl) (by simp) ?_
                  refine AllReadyH.cons (o := _) rfl (fun K hK => ?_) ?_
                  · have kc := K14.out.cell
                    have kf := K14.out.frozen
                    go_simp
                    have gS := setC_gb n14 [.int .i64 y1, .int .i64 y2] g48 0
                    have hS6 := WdS.all (WdS.oth hHeld.2.2.2.2.2 gS h14)
                    have KO := K13.out.of gS (by simp; omega)
                    have KM := K14.out.all [.int .i64 y1, .int .i64 y2] rfl
                    simp only [setC] at hS6 KO KM
                    have K14 := Lib.hid KM
                    have K13 := Lib.hid KO
                    clear gS KO KM kc kf
                    refine hK.out _ _ ?_ (fun hHeld2 => ?_)
                    · exact hS6
                    clear hK K hHeld
                    have hHeld := hHeld2
                    clear hHeld2 hS6
                    try simp only [Act.put, List.getElem_toArray, List.getElem_cons_zero, List.getElem_cons_succ, List.setIfInBounds_toArray, List.set_cons_zero, List.set_cons_succ]
                    generalize World.setCell _ ⟨n14, 1, none⟩ _ = g49 at *
                    refine wpAnyH_done (by kernel_rfl) ?_ _
                    go_wp2_with fail
                    go_meet
                    exact ⟨n13, n14, rfl, rfl, K13.out, K14.out, hHeld.2.2.2.2.2⟩
                  exact AllReadyH.nil
                exact AllReadyH.nil
              exact AllReadyH.nil
            refine AllReadyH.cons (o := _) rfl (fun K hK => ?_) ?_
            · go_simp
              have gA := gb_alloc (gb_refl g45 none) (.cells #[.int .i64 0, .int .i64 0] 29)
              have hS6 := WdS.all (WdS.by_ hHeld.2.2.2.2.2 gA)
              have h13 : n11 < g45.heap.size := hHeld.2.2.2.2.2.k11.lt
              have hne : n14 ≠ g45.heap.size := Nat.ne_of_lt K14.out.lt
              have K14 := Lib.hid (K14.out.of gA (by simp))
              have K13 := Lib.hid (Bk.new g45 #[.int .i64 0, .int .i64 0] 29)
              clear gA
              refine hK.out _ _ ?_ (fun hHeld2 => ?_)
              · exact hS6
              clear hK K hHeld
              have hHeld := hHeld2
              clear hHeld2 hS6
              try simp only [Act.put, List.getElem_toArray, List.getElem_cons_zero, List.getElem_cons_succ, List.setIfInBounds_toArray, List.set_cons_zero, List.set_cons_succ]
              generalize g45.alloc _ = g50 at *
              generalize g45.heap.size = n13 at *
              refine wpAnyH_ready (rs := [8]) (by kernel_rfl) (by simp) ?_
              refine AllReadyH.cons (o := _) rfl (fun K hK => ?_) ?_
              · go_simp
                refine (PB.out _).mono ?_
                rintro e g51 ⟨rfl, hg6⟩
                have hS6 := WdS.all (WdS.by_ hHeld.2.2.2.2.2 hg6)
                have K13 := Lib.hid (K13.out.of hg6 (by simp))
                have K14 := Lib.hid (K14.out.of hg6 (by simp))
                clear hg6
                go_wp2_with fail
                refine hK.out _ _ ?_ (fun hHeld2 => ?_)
                · exact hS6
                clear hK K hHeld
                have hHeld := hHeld2
                clear hHeld2 hS6
                try simp only [Act.put, List.getElem_toArray, List.getElem_cons_zero, List.getElem_cons_succ, List.setIfInBounds_toArray, List.set_cons_zero, List.set_cons_succ]
                refine wpAnyH_ready (rs := [11]) (by kernel_rfl) (by simp) ?_
                refine AllReadyH.cons (o := _) rfl (fun K hK => ?_) ?_
                · have kc := K13.out.cell
                  have kf := K13.out.frozen
                  go_simp
                  have gS := setC_gb n13 [.int .i64 x1, .int .i64 x2] g51 0
                  have hS6 := WdS.all (WdS.oth hHeld.2.2.2.2.2 gS h13)
                  have KO := K14.out.of gS (by simp; omega)
                  have KM := K13.out.all [.int .i64 x1, .int .i64 x2] rfl
                  simp only [setC] at hS6 KO KM
                  have K13 := Lib.hid KM
                  have K14 := Lib.hid KO
                  clear gS KO KM kc kf
                  refine hK.out _ _ ?_ (fun hHeld2 => ?_)
                  · exact hS6
                  clear hK K hHeld
                  have hHeld := hHeld2
                  clear hHeld2 hS6
                  try simp only [Act.put, List.getElem_toArray, List.getElem_cons_zero, List.getElem_cons_succ, List.setIfInBounds_toArray, List.set_cons_zero, List.set_cons_succ]
                  generalize World.setCell _ ⟨n13, 1, none⟩ _ = g52 at *
                  refine wpAnyH_ready (rs := [12]) (by kernel_rfl) (by simp) ?_
                  refine AllReadyH.cons (o := _) rfl (fun K hK => ?_) ?_
                  · have kc := K14.out.cell
                    have kf := K14.out.frozen
                    go_simp
                    have gS := setC_gb n14 [.int .i64 y1, .int .i64 y2] g52 0
                    have hS6 := WdS.all (WdS.oth hHeld.2.2.2.2.2 gS h14)
                    have KO := K13.out.of gS (by simp; omega)
                    have KM := K14.out.all [.int .i64 y1, .int .i64 y2] rfl
                    simp only [setC] at hS6 KO KM
                    have K14 := Lib.hid KM
                    have K13 := Lib.hid KO
                    clear gS KO KM kc kf
                    refine hK.out _ _ ?_ (fun hHeld2 => ?_)
                    · exact hS6
                    clear hK K hHeld
                    have hHeld := hHeld2
                    clear hHeld2 hS6
                    try simp only [Act.put, List.getElem_toArray, List.getElem_cons_zero, List.getElem_cons_succ, List.setIfInBounds_toArray, List.set_cons_zero, List.set_cons_succ]
                    generalize World.setCell _ ⟨n14, 1, none⟩ _ = g53 at *
                    refine wpAnyH_done (by kernel_rfl) ?_ _
                    go_wp2_with fail
                    go_meet
                    exact ⟨n13, n14, rfl, rfl, K13.out, K14.out, hHeld.2.2.2.2.2⟩
                  exact AllReadyH.nil
                exact AllReadyH.nil
              exact AllReadyH.nil
            exact AllReadyH.nil
          refine AllReadyH.cons (o := _) rfl (fun K hK => ?_) ?_
          · go_simp
            have gA := gb_alloc (gb_refl g44 none) (.cells #[.int .i64 0, .int .i64 0] 29)
            have hS6 := WdS.all (WdS.by_ hHeld.2.2.2.2.2 gA)
            have h13 : n11 < g44.heap.size := hHeld.2.2.2.2.2.k11.lt
            have hne : n14 ≠ g44.heap.size := Nat.ne_of_lt K14.out.lt
            have K14 := Lib.hid (K14.out.of gA (by simp))
            have K13 := Lib.hid (Bk.new g44 #[.int .i64 0, .int .i64 0] 29)
            clear gA
            refine hK.out _ _ ?_ (fun hHeld2 => ?_)
            · exact hS6
            clear hK K hHeld
            have hHeld := hHeld2
            clear hHeld2 hS6
            try simp only [Act.put, List.getElem_toArray, List.getElem_cons_zero, List.getElem_cons_succ, List.setIfInBounds_toArray, List.set_cons_zero, List.set_cons_succ]
            generalize g44.alloc _ = g54 at *
            generalize g44.heap.size = n13 at *
            refine wpAnyH_ready (rs := [3]) (by kernel_rfl) (by simp) ?_
            refine AllReadyH.cons (o := _) rfl (fun K hK => ?_) ?_
            · go_simp
              refine (PA.out _).mono ?_
              rintro e g55 ⟨rfl, hg6⟩
              have hS6 := WdS.all (WdS.by_ hHeld.2.2.2.2.2 hg6)
              have K13 := Lib.hid (K13.out.of hg6 (by simp))
              have K14 := Lib.hid (K14.out.of hg6 (by simp))
              clear hg6
              go_wp2_with fail
              refine hK.out _ _ ?_ (fun hHeld2 => ?_)
              · exact hS6
              clear hK K hHeld
              have hHeld := hHeld2
              clear hHeld2 hS6
              try simp only [Act.put, List.getElem_toArray, List.getElem_cons_zero, List.getElem_cons_succ, List.setIfInBounds_toArray, List.set_cons_zero, List.set_cons_succ]
              refine wpAnyH_ready (rs := [8]) (by kernel_rfl) (by simp) ?_
              refine AllReadyH.cons (o := _) rfl (fun K hK => ?_) ?_
              · go_simp
                refine (PB.out _).mono ?_
                rintro e g56 ⟨rfl, hg6⟩
                have hS6 := WdS.all (WdS.by_ hHeld.2.2.2.2.2 hg6)
                have K13 := Lib.hid (K13.out.of hg6 (by simp))
                have K14 := Lib.hid (K14.out.of hg6 (by simp))
                clear hg6
                go_wp2_with fail
                refine hK.out _ _ ?_ (fun hHeld2 => ?_)
                · exact hS6
                clear hK K hHeld
                have hHeld := hHeld2
                clear hHeld2 hS6
                try simp only [Act.put, List.getElem_toArray, List.getElem_cons_zero, List.getElem_cons_succ, List.setIfInBounds_toArray, List.set_cons_zero, List.set_cons_succ]
                refine wpAnyH_ready (rs := [11]) (by kernel_rfl) (by simp) ?_
                refine AllReadyH.cons (o := _) rfl (fun K hK => ?_) ?_
                · have kc := K13.out.cell
                  have kf := K13.out.frozen
                  go_simp
                  have gS := setC_gb n13 [.int .i64 x1, .int .i64 x2] g56 0
                  have hS6 := WdS.all (WdS.oth hHeld.2.2.2.2.2 gS h13)
                  have KO := K14.out.of gS (by simp; omega)
                  have KM := K13.out.all [.int .i64 x1, .int .i64 x2] rfl
                  simp only [setC] at hS6 KO KM
                  have K13 := Lib.hid KM
                  have K14 := Lib.hid KO
                  clear gS KO KM kc kf
                  refine hK.out _ _ ?_ (fun hHeld2 => ?_)
                  · exact hS6
                  clear hK K hHeld
                  have hHeld := hHeld2
                  clear hHeld2 hS6
                  try simp only [Act.put, List.getElem_toArray, List.getElem_cons_zero, List.getElem_cons_succ, List.setIfInBounds_toArray, List.set_cons_zero, List.set_cons_succ]
                  generalize World.setCell _ ⟨n13, 1, none⟩ _ = g57 at *
                  refine wpAnyH_ready (rs := [12]) (by kernel_rfl) (by simp) ?_
                  refine AllReadyH.cons (o := _) rfl (fun K hK => ?_) ?_
                  · have kc := K14.out.cell
                    have kf := K14.out.frozen
                    go_simp
                    have gS := setC_gb n14 [.int .i64 y1, .int .i64 y2] g57 0
                    have hS6 := WdS.all (WdS.oth hHeld.2.2.2.2.2 gS h14)
                    have KO := K13.out.of gS (by simp; omega)
                    have KM := K14.out.all [.int .i64 y1, .int .i64 y2] rfl
                    simp only [setC] at hS6 KO KM
                    have K14 := Lib.hid KM
                    have K13 := Lib.hid KO
                    clear gS KO KM kc kf
                    refine hK.out _ _ ?_ (fun hHeld2 => ?_)
                    · exact hS6
                    clear hK K hHeld
                    have hHeld := hHeld2
                    clear hHeld2 hS6
                    try simp only [Act.put, List.getElem_toArray, List.getElem_cons_zero, List.getElem_cons_succ, List.setIfInBounds_toArray, List.set_cons_zero, List.set_cons_succ]
                    generalize World.setCell _ ⟨n14, 1, none⟩ _ = g58 at *
                    refine wpAnyH_done (by kernel_rfl) ?_ _
                    go_wp2_with fail
                    go_meet
                    exact ⟨n13, n14, rfl, rfl, K13.out, K14.out, hHeld.2.2.2.2.2⟩
                  exact AllReadyH.nil
                exact AllReadyH.nil
              exact AllReadyH.nil
            exact AllReadyH.nil
          exact AllReadyH.nil
        exact AllReadyH.nil
      case rest =>
        obtain ⟨n13, n14, rfl, rfl, k13, k14, hs⟩ := hcut
        have y0 : wc.cell? ⟨n14, 0, none⟩ = some (.int .i64 y1) := k14.cell 0
        have yy : wc.cell? ⟨n14, 1, none⟩ = some (.int .i64 y2) := k14.cell 1
        have x0 : wc.cell? ⟨n13, 0, none⟩ = some (.int .i64 x1) := k13.cell 0
        have xx : wc.cell? ⟨n13, 1, none⟩ = some (.int .i64 x2) := k13.cell 1
        have HK13 := Lib.hid k13
        have HWS := Lib.hid hs
        have b1 : decide (x1 < y1) = false := by have := HMB.out.1; simpa using this
        have b2 : decide (y2 < x2) = false := by have := HMB.out.2.1; simpa using this
        clear k13 k14 hs hS6
        go_upto_region 9 with fail
        clear y0 yy x0 xx b1 b2
        obtain ⟨d0, hd0⟩ : ∃ d0, hi - lo = d0 := ⟨_, rfl⟩
        obtain ⟨d1, hd1⟩ : ∃ d1, d0 + 1 = d1 := ⟨_, rfl⟩
        obtain ⟨md, hmd⟩ : ∃ md, at_ % d1 = md := ⟨_, rfl⟩
        have hlh := HLH.out
        have hmdb : 0 ≤ md ∧ md < d1 := by rw [← hmd]; exact ⟨Int.emod_nonneg _ (by omega), Int.emod_lt_of_pos _ (by omega)⟩
        obtain ⟨V, hV⟩ : ∃ V, lo + md = V := ⟨_, rfl⟩
        have u2 : IntKind.i64.wrap (hi - lo) = d0 := by rw [hd0]; exact IntWalk.i64_in d0 (by omega)
        have u3 : IntKind.i64.wrap (d0 + 1) = d1 := by rw [hd1]; exact IntWalk.i64_in d1 (by omega)
        have u4 : IntKind.i64.wrap (lo + md) = V := by rw [hV]; exact IntWalk.i64_in V (by omega)
        have MA := Lib.hid (fun w => mod_pos at_ d1 w (by omega) HT.out.2.2.1 HT.out.2.2.2 (by omega))
        rw [hmd] at MA
        have HVB := Lib.hid (show lo ≤ V ∧ V ≤ hi by omega)
        clear hd0 hd1 hmd hlh hmdb hV
        have hS0 : wc.drew.cell? ⟨n11, 2, none⟩ = some (.int .i64 lo) ∧ wc.drew.cell? ⟨n11, 3, none⟩ = some (.int .i64 hi) := ⟨HWS.out.k11.cell 2, HWS.out.k11.cell 3⟩
        refine wp_region_held_drew (S := (fun w' => w'.cell? ⟨n11, 2, none⟩ = some (.int .i64 lo) ∧ w'.cell? ⟨n11, 3, none⟩ = some (.int .i64 hi))) (by kernel_rfl) ?_ (fun hHeld => ?_)
        · exact hS0
        refine wpAnyH_take (i := 0) (oi := _) (v := ?_) rfl (by kernel_rfl) (by kernel_rfl) (by kernel_rfl) (fun _ _ _ h => h) (Or.inl ⟨by rfl, ?_⟩) (by assumption) ?_
        rotate_left 1
        · intro w hSw; (try dsimp only at hSw); go_simp; try (with_reducible rfl)
        try simp only [Act.put, List.getElem_toArray, List.getElem_cons_zero, List.setIfInBounds_toArray, List.set_cons_zero, List.set_cons_succ]
        refine wpAnyH_take (i := 1) (oi := _) (v := ?_) rfl (by kernel_rfl) (by kernel_rfl) (by kernel_rfl) (fun _ _ _ h => h) (Or.inl ⟨by rfl, ?_⟩) (by assumption) ?_
        rotate_left 1
        · intro w hSw; (try dsimp only at hSw); go_simp; try (with_reducible rfl)
        try simp only [Act.put, List.getElem_toArray, List.getElem_cons_zero, List.getElem_cons_succ, List.setIfInBounds_toArray, List.set_cons_zero, List.set_cons_succ]
        refine wpAnyH_take (i := 2) (oi := _) (v := ?_) rfl (by kernel_rfl) (by kernel_rfl) (by kernel_rfl) (fun _ _ _ h => h) (Or.inl ⟨by rfl, ?_⟩) (by assumption) ?_
        rotate_left 1
        · intro w hSw; (try dsimp only at hSw); go_simp; try (with_reducible rfl)
        try simp only [Act.put, List.getElem_toArray, List.getElem_cons_zero, List.getElem_cons_succ, List.setIfInBounds_toArray, List.set_cons_zero, List.set_cons_succ]
        refine wpAnyH_take (i := 3) (oi := _) (v := ?_) rfl (by kernel_rfl) (by kernel_rfl) (by kernel_rfl) (fun _ _ _ h => h) (Or.inl ⟨by rfl, ?_⟩) (by assumption) ?_
        rotate_left 1
        · intro w hSw; (try dsimp only at hSw); go_simp; try (with_reducible rfl)
        try simp only [Act.put, List.getElem_toArray, List.getElem_cons_zero, List.getElem_cons_succ, List.setIfInBounds_toArray, List.set_cons_zero, List.set_cons_succ]
        refine wpAnyH_take (i := 4) (oi := _) (v := ?_) rfl (by kernel_rfl) (by kernel_rfl) (by kernel_rfl) (fun _ _ _ h => h) (Or.inl ⟨by rfl, ?_⟩) (by assumption) ?_
        rotate_left 1
        · intro w hSw; (try dsimp only at hSw); go_simp; try (with_reducible rfl)
        try simp only [Act.put, List.getElem_toArray, List.getElem_cons_zero, List.getElem_cons_succ, List.setIfInBounds_toArray, List.set_cons_zero, List.set_cons_succ]
        refine wpAnyH_take (i := 5) (oi := _) (v := ?_) rfl (by kernel_rfl) (by kernel_rfl) (by kernel_rfl) (fun _ _ _ h => h) (Or.inl ⟨by rfl, ?_⟩) (by assumption) ?_
        rotate_left 1
        · intro w hSw; (try dsimp only at hSw); go_simp; try (with_reducible rfl)
        try simp only [Act.put, List.getElem_toArray, List.getElem_cons_zero, List.getElem_cons_succ, List.setIfInBounds_toArray, List.set_cons_zero, List.set_cons_succ]
        refine wpAnyH_take (i := 6) (oi := _) (v := ?_) rfl (by kernel_rfl) (by kernel_rfl) (by kernel_rfl) (fun _ _ _ h => h) (Or.inl ⟨by rfl, ?_⟩) (by assumption) ?_
        rotate_left 1
        · intro w hSw; (try dsimp only at hSw); go_simp; try (with_reducible rfl)
        try simp only [Act.put, List.getElem_toArray, List.getElem_cons_zero, List.getElem_cons_succ, List.setIfInBounds_toArray, List.set_cons_zero, List.set_cons_succ]
        refine wpAnyH_take (i := 7) (oi := _) (v := ?_) rfl (by kernel_rfl) (by kernel_rfl) (by kernel_rfl) (fun _ _ _ h => h) (Or.inl ⟨by rfl, ?_⟩) (by assumption) ?_
        rotate_left 1
        · intro w hSw; (try dsimp only at hSw); go_simp; try (with_reducible rfl)
        try simp only [Act.put, List.getElem_toArray, List.getElem_cons_zero, List.getElem_cons_succ, List.setIfInBounds_toArray, List.set_cons_zero, List.set_cons_succ]
        refine wpAnyH_take (i := 8) (oi := _) (v := ?_) rfl (by kernel_rfl) (by kernel_rfl) (by kernel_rfl) (fun _ _ _ h => h) (Or.inl ⟨by rfl, ?_⟩) (by assumption) ?_
        rotate_left 1
        · intro w hSw; (try dsimp only at hSw); go_simp; try (with_reducible rfl)
        try simp only [Act.put, List.getElem_toArray, List.getElem_cons_zero, List.getElem_cons_succ, List.setIfInBounds_toArray, List.set_cons_zero, List.set_cons_succ]
        refine wpAnyH_take (i := 9) (oi := _) (v := ?_) rfl (by kernel_rfl) (by kernel_rfl) (by kernel_rfl) (fun _ _ _ h => h) (Or.inl ⟨by rfl, ?_⟩) (by assumption) ?_
        rotate_left 1
        · intro w hSw; (try dsimp only at hSw); go_simp; try (with_reducible rfl)
        try simp only [Act.put, List.getElem_toArray, List.getElem_cons_zero, List.getElem_cons_succ, List.setIfInBounds_toArray, List.set_cons_zero, List.set_cons_succ]
        refine wpAnyH_take (i := 10) (oi := _) (v := ?_) rfl (by kernel_rfl) (by kernel_rfl) (by kernel_rfl) (fun _ _ _ h => h) (Or.inl ⟨by rfl, ?_⟩) (by assumption) ?_
        rotate_left 1
        · intro w hSw; (try dsimp only at hSw); go_simp; try (with_reducible rfl)
        try simp only [Act.put, List.getElem_toArray, List.getElem_cons_zero, List.getElem_cons_succ, List.setIfInBounds_toArray, List.set_cons_zero, List.set_cons_succ]
        refine wpAnyH_take (i := 11) (oi := _) (v := ?_) rfl (by kernel_rfl) (by kernel_rfl) (by kernel_rfl) (fun _ _ _ h => h) (Or.inl ⟨by rfl, ?_⟩) (by assumption) ?_
        rotate_left 1
        · intro w hSw; (try dsimp only at hSw); go_simp; try (with_reducible rfl)
        try simp only [Act.put, List.getElem_toArray, List.getElem_cons_zero, List.getElem_cons_succ, List.setIfInBounds_toArray, List.set_cons_zero, List.set_cons_succ]
        refine wpAnyH_ready (rs := [12]) (by kernel_rfl) (by simp) ?_
        refine AllReadyH.cons (o := _) rfl (fun K hK => ?_) AllReadyH.nil
        go_simp
        refine (MA.out _).mono ?_
        rintro e w6 ⟨rfl, rfl⟩
        have hS6 := hHeld
        go_wp2_with fail
        refine hK.out _ _ ?_ (fun hHeld2 => ?_)
        · exact hS6
        clear hK K hHeld
        have hHeld := hHeld2
        clear hHeld2
        try simp only [Act.put, List.getElem_toArray, List.getElem_cons_zero, List.getElem_cons_succ, List.setIfInBounds_toArray, List.set_cons_zero, List.set_cons_succ]
        refine wpAnyH_take (i := 13) (oi := _) (v := ?_) rfl (by kernel_rfl) (by kernel_rfl) (by kernel_rfl) (fun _ _ _ h => h) (Or.inl ⟨by rfl, ?_⟩) (by assumption) ?_
        rotate_left 1
        · intro w hSw; (try dsimp only at hSw); go_simp; try (with_reducible rfl)
        try simp only [Act.put, List.getElem_toArray, List.getElem_cons_zero, List.getElem_cons_succ, List.setIfInBounds_toArray, List.set_cons_zero, List.set_cons_succ]
        refine wpAnyH_take (i := 14) (oi := _) (v := ?_) rfl (by kernel_rfl) (by kernel_rfl) (by kernel_rfl) (fun _ _ _ h => h) (Or.inl ⟨by rfl, ?_⟩) (by assumption) ?_
        rotate_left 1
        · intro w hSw; (try dsimp only at hSw); go_simp; try (with_reducible rfl)
        try simp only [Act.put, List.getElem_toArray, List.getElem_cons_zero, List.getElem_cons_succ, List.setIfInBounds_toArray, List.set_cons_zero, List.set_cons_succ]
        refine wpAnyH_done (by kernel_rfl) ?_ _
        clear hS0 hS6 hHeld u2 u3 u4 MA
        have HK9 := Lib.hid (HK13.out.of (gb_drew (gb_refl wc none)) (by simp))
        have HS9 := Lib.hid (HWS.out.by_ (gb_drew (gb_refl wc none)))
        clear HK13 HWS
        generalize wc.drew = W9 at *
        obtain ⟨p, hp⟩ : ∃ p, s.drift * wait = p := ⟨_, rfl⟩
        have hdr := HCK.out.2.2
        have hwt := HT.out.1
        have hpb : 0 ≤ p ∧ p ≤ 200000 := by
          rw [← hp]
          refine ⟨Int.mul_nonneg hdr.1 hwt.1, ?_⟩
          have := Int.mul_le_mul hdr.2 hwt.2 hwt.1 (show (0 : Int) ≤ 699 by omega)
          omega
        obtain ⟨b, hb⟩ : ∃ b, p / 1000 = b := ⟨_, rfl⟩
        have hq : p.tdiv 1000 = b := by rw [← hb]; exact Int.tdiv_eq_ediv_of_nonneg hpb.1
        obtain ⟨b1, hb1⟩ : ∃ b1, b + 1 = b1 := ⟨_, rfl⟩
        obtain ⟨dm, hdm⟩ : ∃ dm, drift % b1 = dm := ⟨_, rfl⟩
        have hdt := HT.out.2.1
        have hdmb : 0 ≤ dm ∧ dm < b1 := by rw [← hdm]; exact ⟨Int.emod_nonneg _ (by omega), Int.emod_lt_of_pos _ (by omega)⟩
        have hvb := HVB.out
        have hlh := HLH.out
        have hfin := HMB.out.2.2 V dm hvb.1 hvb.2 hdmb.1 (by rw [hp, hb]; omega)
        obtain ⟨vm, hvm⟩ : ∃ vm, V - dm = vm := ⟨_, rfl⟩
        obtain ⟨vp, hvp⟩ : ∃ vp, V + dm = vp := ⟨_, rfl⟩
        rw [hvm, hvp] at hfin
        have v2 : wrap64 (s.drift * wait) = p := by rw [hp]; exact IntWalk.wrap64_in p (by omega)
        have v3 : wrap64 b = b := IntWalk.wrap64_in b (by omega)
        have v4 : wrap64 (b + 1) = b1 := by rw [hb1]; exact IntWalk.wrap64_in b1 (by omega)
        have v5 : wrap64 (V - dm) = vm := by rw [hvm]; exact IntWalk.wrap64_in vm (by omega)
        have v6 : wrap64 (V + dm) = vp := by rw [hvp]; exact IntWalk.wrap64_in vp (by omega)
        have MD := Lib.hid (fun w => mod_pos drift b1 w (by omega) (by omega) (by omega) (by omega))
        rw [hdm] at MD
        have q1 : decide (x1 ≤ vm) = true := by simpa using hfin.1
        have q2 : decide (vp ≤ x2) = true := by simpa using hfin.2
        clear hp hdr hwt hpb hb hb1 hdm hdt hdmb hvb hlh hfin hvm hvp HMB
        have c6 : W9.cell? ⟨n10, 6, none⟩ = some (.int .i64 s.drift) := HS9.out.k10.cell 6
        go_wp2_with fail
        try rw [v3, v4]
        refine (MD.out _).mono ?_
        rintro e w' ⟨rfl, hw'⟩
        subst hw'
        clear c6 MD
        have x0 : W9.cell? ⟨n13, 0, none⟩ = some (.int .i64 x1) := HK9.out.cell 0
        have xx : W9.cell? ⟨n13, 1, none⟩ = some (.int .i64 x2) := HK9.out.cell 1
        go_wp2_with fail
        refine (awake6_any _).mono ?_
        rintro e W12 ⟨rfl, hg⟩
        go_wp2_with fail
        go_ret
        exact ⟨rfl, gb_none HS9.out.g hg⟩
end Go.Proofs.Ytackckljldpldaa
