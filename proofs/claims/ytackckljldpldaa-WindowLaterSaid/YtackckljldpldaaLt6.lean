/- The statement WindowLater: the walk. -/
import Derived.Test.YtackckljldpldaaMd
import Derived.Test.YtackckljldpldaaRa6
import Derived.Test.YtackckljldpldaaVl
namespace Go.Proofs.Ytackckljldpldaa
open Go.RowKit
attribute [local go_sem ↓] Go.wp_at_zero Go.wp_at_succ loadAt_s

/-- The given sensor, the codes, the measurement. -/
structure WlS (w : World) (b : Nat) (l : List Nat) (n10 : Nat) (r : Sn) (ms mt lo hi : Int) (W : World) : Prop where
  r5 : SnAt W w.heap.size 0 r
  cd : ∃ j, CdAt W b l j
  k10 : Bk W n10 #[.int .i64 ms, .int .i64 mt, .int .i64 lo, .int .i64 hi] 43
  g : w.grownBy W none
  lb : w.heap.size < b
  ln : b < n10
theorem snAt_of {W W' : World} {g o b : Nat} {s : Sn} (h : SnAt W g o s) (q : W.grownBy W' (some b)) (hb : b ≠ g) : SnAt W' g o s := by
  have k : ∀ {x : Nat} {v : Value}, W.cell? ⟨g, x, none⟩ = some v → W'.cell? ⟨g, x, none⟩ = some v := fun {x v} e => by
    rw [← e]; exact gb_cell q (World.block_lt_of_cell? _ _ e) (by simpa using hb) _
  obtain ⟨h0, h1, h2, h3, h4, h5, h6, h7⟩ := h
  exact ⟨k h0, k h1, k h2, k h3, k h4, k h5, k h6, k h7⟩
theorem WlS.draw {w : World} {b : Nat} {l : List Nat} {n10 : Nat} {r : Sn} {ms mt lo hi : Int} {W W' : World} (h : WlS w b l n10 r ms mt lo hi W) {j : Nat} (c : CdAt W' b l j) (o : W.grownBy W' (some b)) : WlS w b l n10 r ms mt lo hi W' := by
  have h1 := h.lb
  have h2 := h.ln
  exact ⟨snAt_of h.r5 o (by omega), ⟨j, c⟩, h.k10.of o (by simp; omega), gb_new h.g o (by omega), h.lb, h.ln⟩
theorem WlS.by_ {w : World} {b : Nat} {l : List Nat} {n10 : Nat} {r : Sn} {ms mt lo hi : Int} {W W' : World} (h : WlS w b l n10 r ms mt lo hi W) (o : W.grownBy W' none) : WlS w b l n10 r ms mt lo hi W' := by
  obtain ⟨j, c⟩ := h.cd
  exact ⟨h.r5.by_ o, ⟨j, c.keep o (fun g e => by cases e)⟩, h.k10.of o (by simp), gb_none h.g o, h.lb, h.ln⟩
theorem WlS.put {w : World} {b : Nat} {l : List Nat} {n10 : Nat} {r : Sn} {ms mt lo hi ms' mt' lo' hi' : Int} {W W' : World} (h : WlS w b l n10 r ms mt lo hi W) (o : W.grownBy W' (some n10)) (k : Bk W' n10 #[.int .i64 ms', .int .i64 mt', .int .i64 lo', .int .i64 hi'] 43) : WlS w b l n10 r ms' mt' lo' hi' W' := by
  have h1 := h.lb
  have h2 := h.ln
  obtain ⟨j, c⟩ := h.cd
  exact ⟨snAt_of h.r5 o (by omega), ⟨j, c.keep o (fun g e => by injection e with e; omega)⟩, k, gb_new h.g o (by omega), h.lb, h.ln⟩
theorem WlS.all {w : World} {b : Nat} {l : List Nat} {n10 : Nat} {r : Sn} {ms mt lo hi : Int} {W : World} (h : WlS w b l n10 r ms mt lo hi W) : (loadS (.pointer (some ⟨w.heap.size, 0, none⟩))).run Try.prog W = .ok (.agg #[.int .i64 r.addr, .int .i64 r.kind, .int .i64 r.target, .int .i64 r.offset, .int .i64 r.scale, .int .i64 r.error, .int .i64 r.drift, .int .i64 r.life]) W ∧ W.cell? ⟨n10, 1, none⟩ = some (.int .i64 mt) ∧ WlS w b l n10 r ms mt lo hi W := ⟨run_loadS_lit h.r5, h.k10.cell 1, h⟩
/-- .. and the list of the two sensors. -/
structure W2S (w : World) (b : Nat) (l : List Nat) (n10 nb : Nat) (s r : Sn) (ms mt lo hi : Int) (W : World) : Prop where
  wl : WlS w b l n10 r ms mt lo hi W
  a0 : SnAt W nb 0 s
  a8 : SnAt W nb 8 r
theorem W2S.by_ {w : World} {b : Nat} {l : List Nat} {n10 nb : Nat} {s r : Sn} {ms mt lo hi : Int} {W W' : World} (h : W2S w b l n10 nb s r ms mt lo hi W) (o : W.grownBy W' none) : W2S w b l n10 nb s r ms mt lo hi W' := ⟨h.wl.by_ o, h.a0.by_ o, h.a8.by_ o⟩
/-- .. and one of them in a variable. -/
structure W3S (w : World) (b : Nat) (l : List Nat) (n10 nb : Nat) (s r : Sn) (ms mt lo hi : Int) (n13 : Nat) (x : Sn) (W : World) : Prop where
  w2 : W2S w b l n10 nb s r ms mt lo hi W
  ax : SnAt W n13 0 x
theorem W3S.by_ {w : World} {b : Nat} {l : List Nat} {n10 nb : Nat} {s r : Sn} {ms mt lo hi : Int} {n13 : Nat} {x : Sn} {W W' : World} (h : W3S w b l n10 nb s r ms mt lo hi n13 x W) (o : W.grownBy W' none) : W3S w b l n10 nb s r ms mt lo hi n13 x W' := ⟨h.w2.by_ o, h.ax.by_ o⟩
theorem W3S.all {w : World} {b : Nat} {l : List Nat} {n10 nb : Nat} {s r : Sn} {ms mt lo hi : Int} {n13 : Nat} {x : Sn} {W : World} (h : W3S w b l n10 nb s r ms mt lo hi n13 x W) : (loadS (.pointer (some ⟨n13, 0, none⟩))).run Try.prog W = .ok (snV x) W ∧ W.cell? ⟨n10, 0, none⟩ = some (.int .i64 ms) ∧ W.cell? ⟨n10, 1, none⟩ = some (.int .i64 mt) ∧ W.cell? ⟨n10, 2, none⟩ = some (.int .i64 lo) ∧ W.cell? ⟨n10, 3, none⟩ = some (.int .i64 hi) ∧ W.cell? ⟨n13, 7, none⟩ = some (.int .i64 x.life) ∧ W3S w b l n10 nb s r ms mt lo hi n13 x W :=
  ⟨run_loadS h.ax, h.w2.wl.k10.cell 0, h.w2.wl.k10.cell 1, h.w2.wl.k10.cell 2, h.w2.wl.k10.cell 3, h.ax.2.2.2.2.2.2.2, h⟩
theorem tmod_bd (z : Int) : -2000000 < z.tmod 2000000 ∧ z.tmod 2000000 < 2000000 := by
  have h1 := Int.tmod_lt_of_pos z (show (0 : Int) < 2000000 by omega)
  have h2 := Int.lt_tmod_of_pos z (show (0 : Int) < 2000000 by omega)
  omega

set_option maxRecDepth 100000 in
set_option maxHeartbeats 32000000 in
theorem later_walk (cv : Value) (lc : List Nat) (r : Sn) (time big : Int) (w : World) (hc : Sl w cv 1 lc.length (bytes lc)) (hb : ∀ x ∈ lc, x < 256) (ht1 : -9223372036854775808 ≤ time) (ht2 : time ≤ 9223372036854775807) (hbig : 0 ≤ big ∧ big ≤ 4294967295) :
    Calls Try.prog 9 #[cv, .agg (senL r).toArray, .int .i64 time, .int .u32 big] w fun e w' => e = .returned (.bool true) ∧ w.grownBy w' none := by
  obtain ⟨a, cap, rfl, _, _, _⟩ := hc.shape
  have g1 := gb_alloc (gb_refl w none) (.cells (senL r).toArray 24)
  have HN := Lib.hid (new_sl _ lc _ (hc.by_ g1) hb)
  have K1 := Lib.hid (And.intro (Bk.snAt (Bk.new w (senL r).toArray 24)) g1)
  have hlt : w.heap.size < (w.alloc (.cells (senL r).toArray 24)).heap.size := by rw [World.size_alloc]; omega
  obtain ⟨q, hq⟩ : ∃ q, big.tmod 2147483648 = q := ⟨_, rfl⟩
  have hqb : 0 ≤ q ∧ q < 2147483648 := by
    rw [← hq]
    exact ⟨Int.tmod_nonneg _ hbig.1, Int.tmod_lt_of_pos _ (by omega)⟩
  have hwq : wrap64 q = q := IntWalk.wrap64_in q (by omega)
  obtain ⟨q2, hq2⟩ : ∃ q2, time % 2147483648 = q2 := ⟨_, rfl⟩
  have hq2b : 0 ≤ q2 ∧ q2 < 2147483648 := by omega
  obtain ⟨q1, hq1⟩ : ∃ q1, time % 260 = q1 := ⟨_, rfl⟩
  have hq1b : 0 ≤ q1 ∧ q1 < 260 := by omega
  have M1 := Lib.hid (fun w => mod_pos time 260 w (by omega) ht1 ht2 (by omega))
  have M2 := Lib.hid (fun w => mod_pos time 2147483648 w (by omega) ht1 ht2 (by omega))
  rw [hq1] at M1
  rw [hq2] at M2
  clear g1 hc hb ht1 ht2 hq1 hq2 hbig
  unfold senL at *
  go_enter Try.func9, Try.ntmps9
  go_upto_region 1 with fail
  generalize w.alloc _ = W1 at *
  go_wp2_with fail
  refine HN.out.mono ?_
  rintro e W2 ⟨rfl, ⟨l3, hcd⟩, hg⟩
  have HM := Lib.hid (measured_any W1.heap.size l3 0 W2 hcd)
  have K2 := Lib.hid (And.intro (K1.out.1.by_ hg) (gb_none K1.out.2 hg))
  clear hcd hg HN K1
  generalize W1.heap.size = b at *
  go_wp2_with fail
  refine HM.out.mono ?_
  rintro e W3 ⟨ms, mt, lo, hi, rfl, _, hmt, hsp, ⟨j3, c3⟩, hg⟩
  have g4 := gb_alloc (gb_refl W3 none) (.cells #[.int .i64 ms, .int .i64 mt, .int .i64 lo, .int .i64 hi] 43)
  have HS4 := Lib.hid (⟨(snAt_of K2.out.1 hg (by omega)).by_ g4, ⟨j3, c3.keep g4 (fun g e => by cases e)⟩, Bk.new W3 _ _, gb_none (gb_new K2.out.2 hg (by omega)) g4, hlt, c3.lt⟩ : WlS w b l3 W3.heap.size r ms mt lo hi (W3.alloc (.cells #[.int .i64 ms, .int .i64 mt, .int .i64 lo, .int .i64 hi] 43)))
  have hlb : -4503599627370496 ≤ lo ∧ lo ≤ 4503599627370496 := by
    rcases hsp with h | h
    · unfold nothingSp at h; injection h with h1 h2; omega
    · omega
  have hhb : -4503599627370496 ≤ hi ∧ hi ≤ 4503599627370496 := by
    rcases hsp with h | h
    · unfold nothingSp at h; injection h with h1 h2; omega
    · omega
  clear hg g4 K2 HM c3 hlt hsp
  unfold msV
  go_upto_region 3 with fail
  generalize W3.alloc _ = W4 at *
  generalize W3.heap.size = n10 at *
  obtain ⟨j4, c4⟩ := HS4.out.cd
  go_wp2_with fail
  refine (one_any b l3 j4 5 _ c4 (by omega) (by omega)).mono ?_
  rintro e W5 ⟨bo, j5, rfl, c5, ho⟩
  have HS5 := Lib.hid (HS4.out.draw c5 (gb_only ho))
  clear c4 c5 ho HS4
  go_upto_if 19 with fail
  go_cut [20] from 19 to 29 (fun _ wx => ∃ mt lo hi : Int, (0 ≤ mt ∧ mt < 2147483648) ∧ (-4503599627370496 ≤ lo ∧ lo ≤ 4503599627370496) ∧ (-4503599627370496 ≤ hi ∧ hi ≤ 4503599627370496) ∧ WlS w b l3 n10 r ms mt lo hi wx)
  case first =>
    cases bo with
    | false =>
      go_wp2_with fail
      go_meet
      exact ⟨mt, lo, hi, by omega, hlb, hhb, HS5.out⟩
    | true =>
      have k5c := HS5.out.k10.cell
      have k5f := HS5.out.k10.frozen
      have HS6 := Lib.hid (HS5.out.put (gb_set (gb_refl W5 (some n10)) ⟨n10, 1, none⟩ (.inl rfl) (.int .i64 q)) (HS5.out.k10.set 1 (.int .i64 q)))
      clear HS5
      go_upto_region 5 with fail
      clear k5c k5f
      generalize World.setCell _ ⟨n10, 1, none⟩ _ = W6 at *
      have k6c := HS6.out.k10.cell
      have k6f := HS6.out.k10.frozen
      by_cases c1 : -1099511627776 ≤ lo
      · have c1' : decide (-1099511627776 ≤ lo) = true := by simpa using c1
        have HS7 := Lib.hid (HS6.out.put (gb_set (gb_refl W6 (some n10)) ⟨n10, 3, none⟩ (.inl rfl) (.int .i64 1099511627776)) (HS6.out.k10.set 3 (.int .i64 1099511627776)))
        clear HS6
        go_wp2_with fail
        go_meet
        exact ⟨q, lo, 1099511627776, hqb, hlb, by omega, HS7.out⟩
      · have c1' : decide (-1099511627776 ≤ lo) = false := by simpa using c1
        go_wp2_with fail
        go_meet
        exact ⟨q, lo, hi, hqb, hlb, hhb, HS6.out⟩
  case rest =>
    clear hmt hlb hhb HS5 hwq hqb hq
    obtain ⟨mt, lo, hi, hmt, hlb, hhb, hs⟩ := hcut
    obtain ⟨a1, ha1⟩ : ∃ a1, mt + q1 = a1 := ⟨_, rfl⟩
    obtain ⟨tt, htt⟩ : ∃ tt, a1 - 20 = tt := ⟨_, rfl⟩
    have u1 : IntKind.i64.wrap (mt + q1) = a1 := by rw [ha1]; exact IntWalk.i64_in a1 (by omega)
    have u2 : IntKind.i64.wrap (a1 - 20) = tt := by rw [htt]; exact IntWalk.i64_in tt (by omega)
    have htb : -1099511627776 ≤ tt ∧ tt ≤ 1099511627776 := by omega
    have HTB := Lib.hid (And.intro htb (And.intro hmt (And.intro hlb hhb)))
    have HQ2 := Lib.hid hq2b
    have hS0 := WlS.all (hs.by_ (gb_drew (gb_refl wc none)))
    clear hs ha1 htt htb hlb hhb hq2b hq1b
    go_wp2_with fail
    refine wp_region_held_drew (S := (fun w' => (loadS (.pointer (some ⟨w.heap.size, 0, none⟩))).run Try.prog w' = .ok (.agg #[.int .i64 r.addr, .int .i64 r.kind, .int .i64 r.target, .int .i64 r.offset, .int .i64 r.scale, .int .i64 r.error, .int .i64 r.drift, .int .i64 r.life]) w' ∧ w'.cell? ⟨n10, 1, none⟩ = some (.int .i64 mt) ∧ WlS w b l3 n10 r ms mt lo hi w')) (by kernel_rfl) ?_ (fun hHeld => ?_)
    · exact hS0
    refine wpAnyH_take (i := 0) (oi := _) (v := ?_) rfl (by kernel_rfl) (by kernel_rfl) (by kernel_rfl) (fun _ _ _ h => h) (Or.inl ⟨by rfl, ?_⟩) (by assumption) ?_
    rotate_left 1
    · intro w hSw; (try dsimp only at hSw); go_simp; try (with_reducible rfl)
    try simp only [Act.put, List.getElem_toArray, List.getElem_cons_zero, List.setIfInBounds_toArray, List.set_cons_zero, List.set_cons_succ]
    refine wpAnyH_take (i := 1) (oi := _) (v := ?_) rfl (by kernel_rfl) (by kernel_rfl) (by kernel_rfl) (fun _ _ _ h => h) (Or.inl ⟨by rfl, ?_⟩) (by assumption) ?_
    rotate_left 1
    · intro w hSw; (try dsimp only at hSw); go_simp; try (with_reducible rfl)
    try simp only [Act.put, List.getElem_toArray, List.getElem_cons_zero, List.getElem_cons_succ, List.setIfInBounds_toArray, List.set_cons_zero, List.set_cons_succ]
    refine wpAnyH_take (i := 2) (oi := _) (v := ?_) rfl (by kernel_rfl) (by kernel_rfl) (by kernel_rfl) (fun _ _ _ h => h) (Or.inl ⟨by rfl, ?_⟩) (by assumption) ?_
    rotate_left 1
    · intro w hSw; (try dsimp only at hSw); go_simp; try (with_reducible rfl)
    try simp only [Act.put, List.getElem_toArray, List.getElem_cons_zero, List.getElem_cons_succ, List.setIfInBounds_toArray, List.set_cons_zero, List.set_cons_succ]
    refine wpAnyH_ready (rs := [3]) (by kernel_rfl) (by simp) ?_
    refine AllReadyH.cons (o := _) rfl (fun K hK => ?_) AllReadyH.nil
    go_simp
    refine (M1.out _).mono ?_
    rintro e w6 ⟨rfl, rfl⟩
    have hS6 := hHeld
    go_wp2_with fail
    refine hK.out _ _ ?_ (fun hHeld2 => ?_)
    · exact hS6
    clear hK K hHeld
    have hHeld := hHeld2
    clear hHeld2
    try simp only [Act.put, List.getElem_toArray, List.getElem_cons_zero, List.getElem_cons_succ, List.setIfInBounds_toArray, List.set_cons_zero, List.set_cons_succ]
    refine wpAnyH_take (i := 4) (oi := _) (v := ?_) rfl (by kernel_rfl) (by kernel_rfl) (by kernel_rfl) (fun _ _ _ h => h) (Or.inl ⟨by rfl, ?_⟩) (by assumption) ?_
    rotate_left 1
    · intro w hSw; (try dsimp only at hSw); go_simp; try (with_reducible rfl)
    try simp only [Act.put, List.getElem_toArray, List.getElem_cons_zero, List.getElem_cons_succ, List.setIfInBounds_toArray, List.set_cons_zero, List.set_cons_succ]
    refine wpAnyH_take (i := 5) (oi := _) (v := ?_) rfl (by kernel_rfl) (by kernel_rfl) (by kernel_rfl) (fun _ _ _ h => h) (Or.inl ⟨by rfl, ?_⟩) (by assumption) ?_
    rotate_left 1
    · intro w hSw; (try dsimp only at hSw); go_simp; try (with_reducible rfl)
    try simp only [Act.put, List.getElem_toArray, List.getElem_cons_zero, List.getElem_cons_succ, List.setIfInBounds_toArray, List.set_cons_zero, List.set_cons_succ]
    refine wpAnyH_take (i := 6) (oi := _) (v := ?_) rfl (by kernel_rfl) (by kernel_rfl) (by kernel_rfl) (fun _ _ _ h => h) (Or.inl ⟨by rfl, ?_⟩) (by assumption) ?_
    rotate_left 1
    · intro w hSw; (try dsimp only at hSw); go_simp; try (with_reducible rfl)
    try simp only [Act.put, List.getElem_toArray, List.getElem_cons_zero, List.getElem_cons_succ, List.setIfInBounds_toArray, List.set_cons_zero, List.set_cons_succ]
    refine wpAnyH_done (by kernel_rfl) ?_ _
    clear u1 u2 M1 hS0 hHeld hmt
    have HS7 := Lib.hid hS6.2.2
    clear hS6
    go_wp2_with fail
    have hS0 := WlS.all (HS7.out.by_ (gb_drew (gb_refl _ none)))
    clear HS7
    refine wp_region_held_drew (S := (fun w' => (loadS (.pointer (some ⟨w.heap.size, 0, none⟩))).run Try.prog w' = .ok (.agg #[.int .i64 r.addr, .int .i64 r.kind, .int .i64 r.target, .int .i64 r.offset, .int .i64 r.scale, .int .i64 r.error, .int .i64 r.drift, .int .i64 r.life]) w' ∧ w'.cell? ⟨n10, 1, none⟩ = some (.int .i64 mt) ∧ WlS w b l3 n10 r ms mt lo hi w')) (by kernel_rfl) ?_ (fun hHeld => ?_)
    · exact hS0
    refine wpAnyH_take (i := 0) (oi := _) (v := ?_) rfl (by kernel_rfl) (by kernel_rfl) (by kernel_rfl) (fun _ _ _ h => h) (Or.inl ⟨by rfl, ?_⟩) (by assumption) ?_
    rotate_left 1
    · intro w hSw; (try dsimp only at hSw); go_simp; try (with_reducible rfl)
    try simp only [Act.put, List.getElem_toArray, List.getElem_cons_zero, List.setIfInBounds_toArray, List.set_cons_zero, List.set_cons_succ]
    refine wpAnyH_take (i := 1) (oi := _) (v := ?_) rfl (by kernel_rfl) (by kernel_rfl) (by kernel_rfl) (fun _ _ _ h => h) (Or.inl ⟨by rfl, ?_⟩) (by assumption) ?_
    rotate_left 1
    · intro w hSw; (try dsimp only at hSw); go_simp; try (with_reducible rfl)
    try simp only [Act.put, List.getElem_toArray, List.getElem_cons_zero, List.getElem_cons_succ, List.setIfInBounds_toArray, List.set_cons_zero, List.set_cons_succ]
    refine wpAnyH_take (i := 4) (oi := _) (v := ?_) rfl (by kernel_rfl) (by kernel_rfl) (by kernel_rfl) (fun _ _ _ h => h) (Or.inl ⟨by rfl, ?_⟩) (by assumption) ?_
    rotate_left 1
    · intro w hSw; (try dsimp only at hSw); go_simp; try (with_reducible rfl)
    try simp only [Act.put, List.getElem_toArray, List.getElem_cons_zero, List.getElem_cons_succ, List.setIfInBounds_toArray, List.set_cons_zero, List.set_cons_succ]
    refine wpAnyH_take (i := 7) (oi := _) (v := ?_) rfl (by kernel_rfl) (by kernel_rfl) (by kernel_rfl) (fun _ _ _ h => h) (Or.inl ⟨by rfl, ?_⟩) (by assumption) ?_
    rotate_left 1
    · intro w hSw; (try dsimp only at hSw); go_simp; try (with_reducible rfl)
    try simp only [Act.put, List.getElem_toArray, List.getElem_cons_zero, List.getElem_cons_succ, List.setIfInBounds_toArray, List.set_cons_zero, List.set_cons_succ]
    refine wpAnyH_ready (rs := [2]) (by kernel_rfl) (by simp) ?_
    refine AllReadyH.cons (o := _) rfl (fun K hK => ?_) AllReadyH.nil
    go_simp
    obtain ⟨jj, cc⟩ := hHeld.2.2.cd
    refine (range_ex b l3 jj 1 6 _ cc (by omega) (by omega) (by omega)).mono ?_
    rintro e w6 ⟨k1, j6, rfl, hk1, hk6, c6, ho⟩
    have hS6 := WlS.all (WlS.draw hHeld.2.2 c6 (gb_only ho))
    clear c6 ho cc
    go_wp2_with fail
    refine hK.out _ _ ?_ (fun hHeld2 => ?_)
    · exact hS6
    clear hK K hHeld
    have hHeld := hHeld2
    clear hHeld2
    try simp only [Act.put, List.getElem_toArray, List.getElem_cons_zero, List.getElem_cons_succ, List.setIfInBounds_toArray, List.set_cons_zero, List.set_cons_succ]
    refine wpAnyH_ready (rs := [3]) (by kernel_rfl) (by simp) ?_
    refine AllReadyH.cons (o := _) rfl (fun K hK => ?_) AllReadyH.nil
    go_simp
    obtain ⟨jj, cc⟩ := hHeld.2.2.cd
    refine (sensor_any b l3 jj k1 0 0 _ cc).mono ?_
    rintro e w7 ⟨s, rfl, -, -, -, ⟨j6, c6⟩, ho⟩
    unfold senL
    have hS6 := WlS.all (WlS.draw hHeld.2.2 c6 ho)
    clear c6 ho cc
    go_wp2_with fail
    refine hK.out _ _ ?_ (fun hHeld2 => ?_)
    · exact hS6
    clear hK K hHeld
    have hHeld := hHeld2
    clear hHeld2
    try simp only [Act.put, List.getElem_toArray, List.getElem_cons_zero, List.getElem_cons_succ, List.setIfInBounds_toArray, List.set_cons_zero, List.set_cons_succ]
    refine wpAnyH_ready (rs := [5]) (by kernel_rfl) (by simp) ?_
    refine AllReadyH.cons (o := _) rfl (fun K hK => ?_) AllReadyH.nil
    go_simp
    have HV := Lib.hid (snAt2 (s := s) (r := r) (Bk.new w7 #[.int .i64 s.addr, .int .i64 s.kind, .int .i64 s.target, .int .i64 s.offset, .int .i64 s.scale, .int .i64 s.error, .int .i64 s.drift, .int .i64 s.life, .int .i64 r.addr, .int .i64 r.kind, .int .i64 r.target, .int .i64 r.offset, .int .i64 r.scale, .int .i64 r.error, .int .i64 r.drift, .int .i64 r.life] 24))
    have hS6 := WlS.all (WlS.by_ hHeld.2.2 (gb_alloc (gb_refl w7 none) (.cells #[.int .i64 s.addr, .int .i64 s.kind, .int .i64 s.target, .int .i64 s.offset, .int .i64 s.scale, .int .i64 s.error, .int .i64 s.drift, .int .i64 s.life, .int .i64 r.addr, .int .i64 r.kind, .int .i64 r.target, .int .i64 r.offset, .int .i64 r.scale, .int .i64 r.error, .int .i64 r.drift, .int .i64 r.life] 24)))
    refine hK.out _ _ ?_ (fun hHeld2 => ?_)
    · exact hS6
    clear hK K hHeld
    have hHeld := hHeld2
    clear hHeld2
    try simp only [Act.put, List.getElem_toArray, List.getElem_cons_zero, List.getElem_cons_succ, List.setIfInBounds_toArray, List.set_cons_zero, List.set_cons_succ]
    refine wpAnyH_take (i := 6) (oi := _) (v := ?_) rfl (by kernel_rfl) (by kernel_rfl) (by kernel_rfl) (fun _ _ _ h => h) (Or.inl ⟨by rfl, ?_⟩) (by assumption) ?_
    rotate_left 1
    · intro w hSw; (try dsimp only at hSw); go_simp; try (with_reducible rfl)
    try simp only [Act.put, List.getElem_toArray, List.getElem_cons_zero, List.getElem_cons_succ, List.setIfInBounds_toArray, List.set_cons_zero, List.set_cons_succ]
    refine wpAnyH_done (by kernel_rfl) ?_ _
    have HS8 := Lib.hid (⟨hS6.2.2, HV.out.1, HV.out.2⟩ : W2S w b l3 n10 w7.heap.size s r ms mt lo hi (w7.alloc (.cells #[.int .i64 s.addr, .int .i64 s.kind, .int .i64 s.target, .int .i64 s.offset, .int .i64 s.scale, .int .i64 s.error, .int .i64 s.drift, .int .i64 s.life, .int .i64 r.addr, .int .i64 r.kind, .int .i64 r.target, .int .i64 r.offset, .int .i64 r.scale, .int .i64 r.error, .int .i64 r.drift, .int .i64 r.life] 24)))
    clear hS6 hHeld HV hS0
    generalize w7.alloc _ = W8 at *
    generalize w7.heap.size = nb at *
    go_wp2_with fail
    refine wp_loop_rounds 3 ?_
    rw [rounds_succ]
    have L0 := run_loadS_lit HS8.out.a0
    have gx := gb_alloc (gb_refl W8 none) (.cells #[.int .i64 s.addr, .int .i64 s.kind, .int .i64 s.target, .int .i64 s.offset, .int .i64 s.scale, .int .i64 s.error, .int .i64 s.drift, .int .i64 s.life] 24)
    have HS9 := Lib.hid (show W3S w b l3 n10 nb s r ms mt lo hi W8.heap.size s (W8.alloc (.cells #[.int .i64 s.addr, .int .i64 s.kind, .int .i64 s.target, .int .i64 s.offset, .int .i64 s.scale, .int .i64 s.error, .int .i64 s.drift, .int .i64 s.life] 24)) from ⟨HS8.out.by_ gx, Bk.snAt (Bk.new _ _ _)⟩)
    clear gx
    go_upto_region 11 with fail
    clear L0 HS8
    generalize W8.alloc _ = W9 at *
    generalize W8.heap.size = n13 at *
    obtain ⟨lm, hlm⟩ : ∃ lm, s.life.tmod 2000000 = lm := ⟨_, rfl⟩
    have hlmb := tmod_bd s.life
    rw [hlm] at hlmb
    obtain ⟨tl, htl⟩ : ∃ tl, mt + lm = tl := ⟨_, rfl⟩
    have u3 : IntKind.i64.wrap (mt + lm) = tl := by have := HTB.out.2.1; rw [htl]; exact IntWalk.i64_in tl (by omega)
    have PA1 := Lib.hid (fun w => pAt_any s ms mt lo hi tt w HTB.out.2.2.1 HTB.out.2.2.2 (by have := HTB.out.2.1; omega) (by have := HTB.out; have := HQ2.out; omega))
    have RA1 := Lib.hid (fun w => rAt_any s ms mt lo hi tt w HTB.out.2.2.1 HTB.out.2.2.2 (by have := HTB.out.2.1; omega) (by have := HTB.out; have := HQ2.out; omega))
    obtain ⟨p1, hp1⟩ : ∃ p, atSn s ms mt lo hi tt = p := ⟨_, rfl⟩
    rw [hp1] at PA1 RA1
    obtain ⟨x1, y1⟩ := p1
    unfold msV spV at PA1 RA1
    dsimp only at PA1 RA1
    have b1 : (x1 == x1) = true := by simp
    have d1 : (y1 == y1) = true := by simp
    clear hp1
    have PA2 := Lib.hid (fun w => pAt_any s ms mt lo hi q2 w HTB.out.2.2.1 HTB.out.2.2.2 (by have := HTB.out.2.1; omega) (by have := HTB.out; have := HQ2.out; omega))
    have RA2 := Lib.hid (fun w => rAt_any s ms mt lo hi q2 w HTB.out.2.2.1 HTB.out.2.2.2 (by have := HTB.out.2.1; omega) (by have := HTB.out; have := HQ2.out; omega))
    obtain ⟨p2, hp2⟩ : ∃ p, atSn s ms mt lo hi q2 = p := ⟨_, rfl⟩
    rw [hp2] at PA2 RA2
    obtain ⟨x2, y2⟩ := p2
    unfold msV spV at PA2 RA2
    dsimp only at PA2 RA2
    have b2 : (x2 == x2) = true := by simp
    have d2 : (y2 == y2) = true := by simp
    clear hp2
    have PA3 := Lib.hid (fun w => pAt_any s ms mt lo hi tl w HTB.out.2.2.1 HTB.out.2.2.2 (by have := HTB.out.2.1; omega) (by have := HTB.out; have := HQ2.out; omega))
    have RA3 := Lib.hid (fun w => rAt_any s ms mt lo hi tl w HTB.out.2.2.1 HTB.out.2.2.2 (by have := HTB.out.2.1; omega) (by have := HTB.out; have := HQ2.out; omega))
    obtain ⟨p3, hp3⟩ : ∃ p, atSn s ms mt lo hi tl = p := ⟨_, rfl⟩
    rw [hp3] at PA3 RA3
    obtain ⟨x3, y3⟩ := p3
    unfold msV spV at PA3 RA3
    dsimp only at PA3 RA3
    have b3 : (x3 == x3) = true := by simp
    have d3 : (y3 == y3) = true := by simp
    clear hp3
    clear htl hlmb
    have hS0 := W3S.all (HS9.out.by_ (gb_drew (gb_refl W9 none)))
    clear HS9
    refine wp_region_held_drew (S := (fun w' => (loadS (.pointer (some ⟨n13, 0, none⟩))).run Try.prog w' = .ok (snV s) w' ∧ w'.cell? ⟨n10, 0, none⟩ = some (.int .i64 ms) ∧ w'.cell? ⟨n10, 1, none⟩ = some (.int .i64 mt) ∧ w'.cell? ⟨n10, 2, none⟩ = some (.int .i64 lo) ∧ w'.cell? ⟨n10, 3, none⟩ = some (.int .i64 hi) ∧ w'.cell? ⟨n13, 7, none⟩ = some (.int .i64 s.life) ∧ W3S w b l3 n10 nb s r ms mt lo hi n13 s w')) (by kernel_rfl) ?_ (fun hHeld => ?_)
    · exact hS0
    refine wpAnyH_take (i := 0) (oi := _) (v := ?_) rfl (by kernel_rfl) (by kernel_rfl) (by kernel_rfl) (fun _ _ _ h => h) (Or.inl ⟨by rfl, ?_⟩) (by assumption) ?_
    rotate_left 1
    · intro w hSw; (try dsimp only at hSw); go_simp; try (with_reducible rfl)
    try simp only [Act.put, List.getElem_toArray, List.getElem_cons_zero, List.setIfInBounds_toArray, List.set_cons_zero, List.set_cons_succ]
    refine wpAnyH_take (i := 1) (oi := _) (v := ?_) rfl (by kernel_rfl) (by kernel_rfl) (by kernel_rfl) (fun _ _ _ h => h) (Or.inl ⟨by rfl, ?_⟩) (by assumption) ?_
    rotate_left 1
    · intro w hSw; (try dsimp only at hSw); go_simp; try (with_reducible rfl)
    try simp only [Act.put, List.getElem_toArray, List.getElem_cons_zero, List.getElem_cons_succ, List.setIfInBounds_toArray, List.set_cons_zero, List.set_cons_succ]
    refine wpAnyH_take (i := 2) (oi := _) (v := ?_) rfl (by kernel_rfl) (by kernel_rfl) (by kernel_rfl) (fun _ _ _ h => h) (Or.inl ⟨by rfl, ?_⟩) (by assumption) ?_
    rotate_left 1
    · intro w hSw; (try dsimp only at hSw); go_simp; try (with_reducible rfl)
    try simp only [Act.put, List.getElem_toArray, List.getElem_cons_zero, List.getElem_cons_succ, List.setIfInBounds_toArray, List.set_cons_zero, List.set_cons_succ]
    refine wpAnyH_take (i := 4) (oi := _) (v := ?_) rfl (by kernel_rfl) (by kernel_rfl) (by kernel_rfl) (fun _ _ _ h => h) (Or.inl ⟨by rfl, ?_⟩) (by assumption) ?_
    rotate_left 1
    · intro w hSw; (try dsimp only at hSw); go_simp; try (with_reducible rfl)
    try simp only [Act.put, List.getElem_toArray, List.getElem_cons_zero, List.getElem_cons_succ, List.setIfInBounds_toArray, List.set_cons_zero, List.set_cons_succ]
    refine wpAnyH_take (i := 5) (oi := _) (v := ?_) rfl (by kernel_rfl) (by kernel_rfl) (by kernel_rfl) (fun _ _ _ h => h) (Or.inl ⟨by rfl, ?_⟩) (by assumption) ?_
    rotate_left 1
    · intro w hSw; (try dsimp only at hSw); go_simp; try (with_reducible rfl)
    try simp only [Act.put, List.getElem_toArray, List.getElem_cons_zero, List.getElem_cons_succ, List.setIfInBounds_toArray, List.set_cons_zero, List.set_cons_succ]
    refine wpAnyH_take (i := 6) (oi := _) (v := ?_) rfl (by kernel_rfl) (by kernel_rfl) (by kernel_rfl) (fun _ _ _ h => h) (Or.inl ⟨by rfl, ?_⟩) (by assumption) ?_
    rotate_left 1
    · intro w hSw; (try dsimp only at hSw); go_simp; try (with_reducible rfl)
    try simp only [Act.put, List.getElem_toArray, List.getElem_cons_zero, List.getElem_cons_succ, List.setIfInBounds_toArray, List.set_cons_zero, List.set_cons_succ]
    refine wpAnyH_ready (rs := [3]) (by kernel_rfl) (by simp) ?_
    refine AllReadyH.cons (o := _) rfl (fun K hK => ?_) AllReadyH.nil
    go_simp
    refine (PA1.out _).mono ?_
    rintro e w6 ⟨rfl, hg6⟩
    have hS6 := W3S.all (W3S.by_ hHeld.2.2.2.2.2.2 hg6)
    clear hg6
    go_wp2_with fail
    refine hK.out _ _ ?_ (fun hHeld2 => ?_)
    · exact hS6
    clear hK K hHeld
    have hHeld := hHeld2
    clear hHeld2
    try simp only [Act.put, List.getElem_toArray, List.getElem_cons_zero, List.getElem_cons_succ, List.setIfInBounds_toArray, List.set_cons_zero, List.set_cons_succ]
    refine wpAnyH_ready (rs := [7]) (by kernel_rfl) (by simp) ?_
    refine AllReadyH.cons (o := _) rfl (fun K hK => ?_) AllReadyH.nil
    go_simp
    refine (RA1.out _).mono ?_
    rintro e w6 ⟨rfl, hg6⟩
    have hS6 := W3S.all (W3S.by_ hHeld.2.2.2.2.2.2 hg6)
    clear hg6
    go_wp2_with fail
    refine hK.out _ _ ?_ (fun hHeld2 => ?_)
    · exact hS6
    clear hK K hHeld
    have hHeld := hHeld2
    clear hHeld2
    try simp only [Act.put, List.getElem_toArray, List.getElem_cons_zero, List.getElem_cons_succ, List.setIfInBounds_toArray, List.set_cons_zero, List.set_cons_succ]
    refine wpAnyH_take (i := 8) (oi := _) (v := ?_) rfl (by kernel_rfl) (by kernel_rfl) (by kernel_rfl) (fun _ _ _ h => h) (Or.inl ⟨by rfl, ?_⟩) (by assumption) ?_
    rotate_left 1
    · intro w hSw; (try dsimp only at hSw); go_simp; try (with_reducible rfl)
    try simp only [Act.put, List.getElem_toArray, List.getElem_cons_zero, List.getElem_cons_succ, List.setIfInBounds_toArray, List.set_cons_zero, List.set_cons_succ]
    refine wpAnyH_take (i := 9) (oi := _) (v := ?_) rfl (by kernel_rfl) (by kernel_rfl) (by kernel_rfl) (fun _ _ _ h => h) (Or.inl ⟨by rfl, ?_⟩) (by assumption) ?_
    rotate_left 1
    · intro w hSw; (try dsimp only at hSw); go_simp; try (with_reducible rfl)
    try simp only [Act.put, List.getElem_toArray, List.getElem_cons_zero, List.getElem_cons_succ, List.setIfInBounds_toArray, List.set_cons_zero, List.set_cons_succ]
    refine wpAnyH_take (i := 10) (oi := _) (v := ?_) rfl (by kernel_rfl) (by kernel_rfl) (by kernel_rfl) (fun _ _ _ h => h) (Or.inl ⟨by rfl, ?_⟩) (by assumption) ?_
    rotate_left 1
    · intro w hSw; (try dsimp only at hSw); go_simp; try (with_reducible rfl)
    try simp only [Act.put, List.getElem_toArray, List.getElem_cons_zero, List.getElem_cons_succ, List.setIfInBounds_toArray, List.set_cons_zero, List.set_cons_succ]
    refine wpAnyH_take (i := 11) (oi := _) (v := ?_) rfl (by kernel_rfl) (by kernel_rfl) (by kernel_rfl) (fun _ _ _ h => h) (Or.inl ⟨by rfl, ?_⟩) (by assumption) ?_
    rotate_left 1
    · intro w hSw; (try dsimp only at hSw); go_simp; try (with_reducible rfl)
    try simp only [Act.put, List.getElem_toArray, List.getElem_cons_zero, List.getElem_cons_succ, List.setIfInBounds_toArray, List.set_cons_zero, List.set_cons_succ]
    refine wpAnyH_take (i := 12) (oi := _) (v := ?_) rfl (by kernel_rfl) (by kernel_rfl) (by kernel_rfl) (fun _ _ _ h => h) (Or.inl ⟨by rfl, ?_⟩) (by assumption) ?_
    rotate_left 1
    · intro w hSw; (try dsimp only at hSw); go_simp; try (with_reducible rfl)
    try simp only [Act.put, List.getElem_toArray, List.getElem_cons_zero, List.getElem_cons_succ, List.setIfInBounds_toArray, List.set_cons_zero, List.set_cons_succ]
    refine wpAnyH_take (i := 15) (oi := _) (v := ?_) rfl (by kernel_rfl) (by kernel_rfl) (by kernel_rfl) (fun _ _ _ h => h) (Or.inl ⟨by rfl, ?_⟩) (by assumption) ?_
    rotate_left 1
    · intro w hSw; (try dsimp only at hSw); go_simp; try (with_reducible rfl)
    try simp only [Act.put, List.getElem_toArray, List.getElem_cons_zero, List.getElem_cons_succ, List.setIfInBounds_toArray, List.set_cons_zero, List.set_cons_succ]
    refine wpAnyH_take (i := 16) (oi := _) (v := ?_) rfl (by kernel_rfl) (by kernel_rfl) (by kernel_rfl) (fun _ _ _ h => h) (Or.inl ⟨by rfl, ?_⟩) (by assumption) ?_
    rotate_left 1
    · intro w hSw; (try dsimp only at hSw); go_simp; try (with_reducible rfl)
    try simp only [Act.put, List.getElem_toArray, List.getElem_cons_zero, List.getElem_cons_succ, List.setIfInBounds_toArray, List.set_cons_zero, List.set_cons_succ]
    refine wpAnyH_take (i := 17) (oi := _) (v := ?_) rfl (by kernel_rfl) (by kernel_rfl) (by kernel_rfl) (fun _ _ _ h => h) (Or.inl ⟨by rfl, ?_⟩) (by assumption) ?_
    rotate_left 1
    · intro w hSw; (try dsimp only at hSw); go_simp; try (with_reducible rfl)
    try simp only [Act.put, List.getElem_toArray, List.getElem_cons_zero, List.getElem_cons_succ, List.setIfInBounds_toArray, List.set_cons_zero, List.set_cons_succ]
    refine wpAnyH_ready (rs := [13]) (by kernel_rfl) (by simp) ?_
    refine AllReadyH.cons (o := _) rfl (fun K hK => ?_) AllReadyH.nil
    go_simp
    refine (M2.out _).mono ?_
    rintro e w6 ⟨rfl, rfl⟩
    have hS6 := hHeld
    go_wp2_with fail
    refine hK.out _ _ ?_ (fun hHeld2 => ?_)
    · exact hS6
    clear hK K hHeld
    have hHeld := hHeld2
    clear hHeld2
    try simp only [Act.put, List.getElem_toArray, List.getElem_cons_zero, List.getElem_cons_succ, List.setIfInBounds_toArray, List.set_cons_zero, List.set_cons_succ]
    refine wpAnyH_ready (rs := [14]) (by kernel_rfl) (by simp) ?_
    refine AllReadyH.cons (o := _) rfl (fun K hK => ?_) AllReadyH.nil
    go_simp
    refine (PA2.out _).mono ?_
    rintro e w6 ⟨rfl, hg6⟩
    have hS6 := W3S.all (W3S.by_ hHeld.2.2.2.2.2.2 hg6)
    clear hg6
    go_wp2_with fail
    refine hK.out _ _ ?_ (fun hHeld2 => ?_)
    · exact hS6
    clear hK K hHeld
    have hHeld := hHeld2
    clear hHeld2
    try simp only [Act.put, List.getElem_toArray, List.getElem_cons_zero, List.getElem_cons_succ, List.setIfInBounds_toArray, List.set_cons_zero, List.set_cons_succ]
    refine wpAnyH_ready (rs := [18]) (by kernel_rfl) (by simp) ?_
    refine AllReadyH.cons (o := _) rfl (fun K hK => ?_) AllReadyH.nil
    go_simp
    refine (M2.out _).mono ?_
    rintro e w6 ⟨rfl, rfl⟩
    have hS6 := hHeld
    go_wp2_with fail
    refine hK.out _ _ ?_ (fun hHeld2 => ?_)
    · exact hS6
    clear hK K hHeld
    have hHeld := hHeld2
    clear hHeld2
    try simp only [Act.put, List.getElem_toArray, List.getElem_cons_zero, List.getElem_cons_succ, List.setIfInBounds_toArray, List.set_cons_zero, List.set_cons_succ]
    refine wpAnyH_ready (rs := [19]) (by kernel_rfl) (by simp) ?_
    refine AllReadyH.cons (o := _) rfl (fun K hK => ?_) AllReadyH.nil
    go_simp
    refine (RA2.out _).mono ?_
    rintro e w6 ⟨rfl, hg6⟩
    have hS6 := W3S.all (W3S.by_ hHeld.2.2.2.2.2.2 hg6)
    clear hg6
    go_wp2_with fail
    refine hK.out _ _ ?_ (fun hHeld2 => ?_)
    · exact hS6
    clear hK K hHeld
    have hHeld := hHeld2
    clear hHeld2
    try simp only [Act.put, List.getElem_toArray, List.getElem_cons_zero, List.getElem_cons_succ, List.setIfInBounds_toArray, List.set_cons_zero, List.set_cons_succ]
    refine wpAnyH_take (i := 20) (oi := _) (v := ?_) rfl (by kernel_rfl) (by kernel_rfl) (by kernel_rfl) (fun _ _ _ h => h) (Or.inl ⟨by rfl, ?_⟩) (by assumption) ?_
    rotate_left 1
    · intro w hSw; (try dsimp only at hSw); go_simp; try (with_reducible rfl)
    try simp only [Act.put, List.getElem_toArray, List.getElem_cons_zero, List.getElem_cons_succ, List.setIfInBounds_toArray, List.set_cons_zero, List.set_cons_succ]
    refine wpAnyH_take (i := 21) (oi := _) (v := ?_) rfl (by kernel_rfl) (by kernel_rfl) (by kernel_rfl) (fun _ _ _ h => h) (Or.inl ⟨by rfl, ?_⟩) (by assumption) ?_
    rotate_left 1
    · intro w hSw; (try dsimp only at hSw); go_simp; try (with_reducible rfl)
    try simp only [Act.put, List.getElem_toArray, List.getElem_cons_zero, List.getElem_cons_succ, List.setIfInBounds_toArray, List.set_cons_zero, List.set_cons_succ]
    refine wpAnyH_take (i := 22) (oi := _) (v := ?_) rfl (by kernel_rfl) (by kernel_rfl) (by kernel_rfl) (fun _ _ _ h => h) (Or.inl ⟨by rfl, ?_⟩) (by assumption) ?_
    rotate_left 1
    · intro w hSw; (try dsimp only at hSw); go_simp; try (with_reducible rfl)
    try simp only [Act.put, List.getElem_toArray, List.getElem_cons_zero, List.getElem_cons_succ, List.setIfInBounds_toArray, List.set_cons_zero, List.set_cons_succ]
    refine wpAnyH_take (i := 23) (oi := _) (v := ?_) rfl (by kernel_rfl) (by kernel_rfl) (by kernel_rfl) (fun _ _ _ h => h) (Or.inl ⟨by rfl, ?_⟩) (by assumption) ?_
    rotate_left 1
    · intro w hSw; (try dsimp only at hSw); go_simp; try (with_reducible rfl)
    try simp only [Act.put, List.getElem_toArray, List.getElem_cons_zero, List.getElem_cons_succ, List.setIfInBounds_toArray, List.set_cons_zero, List.set_cons_succ]
    refine wpAnyH_take (i := 24) (oi := _) (v := ?_) rfl (by kernel_rfl) (by kernel_rfl) (by kernel_rfl) (fun _ _ _ h => h) (Or.inl ⟨by rfl, ?_⟩) (by assumption) ?_
    rotate_left 1
    · intro w hSw; (try dsimp only at hSw); go_simp; try (with_reducible rfl)
    try simp only [Act.put, List.getElem_toArray, List.getElem_cons_zero, List.getElem_cons_succ, List.setIfInBounds_toArray, List.set_cons_zero, List.set_cons_succ]
    refine wpAnyH_take (i := 25) (oi := _) (v := ?_) rfl (by kernel_rfl) (by kernel_rfl) (by kernel_rfl) (fun _ _ _ h => h) (Or.inl ⟨by rfl, ?_⟩) (by assumption) ?_
    rotate_left 1
    · intro w hSw; (try dsimp only at hSw); go_simp; try (with_reducible rfl)
    try simp only [Act.put, List.getElem_toArray, List.getElem_cons_zero, List.getElem_cons_succ, List.setIfInBounds_toArray, List.set_cons_zero, List.set_cons_succ]
    refine wpAnyH_take (i := 26) (oi := _) (v := ?_) rfl (by kernel_rfl) (by kernel_rfl) (by kernel_rfl) (fun _ _ _ h => h) (Or.inl ⟨by rfl, ?_⟩) (by assumption) ?_
    rotate_left 1
    · intro w hSw; (try dsimp only at hSw); go_simp; try (with_reducible rfl)
    try simp only [Act.put, List.getElem_toArray, List.getElem_cons_zero, List.getElem_cons_succ, List.setIfInBounds_toArray, List.set_cons_zero, List.set_cons_succ]
    refine wpAnyH_take (i := 27) (oi := _) (v := ?_) rfl (by kernel_rfl) (by kernel_rfl) (by kernel_rfl) (fun _ _ _ h => h) (Or.inl ⟨by rfl, ?_⟩) (by assumption) ?_
    rotate_left 1
    · intro w hSw; (try dsimp only at hSw); go_simp; try (with_reducible rfl)
    try simp only [Act.put, List.getElem_toArray, List.getElem_cons_zero, List.getElem_cons_succ, List.setIfInBounds_toArray, List.set_cons_zero, List.set_cons_succ]
    refine wpAnyH_take (i := 28) (oi := _) (v := ?_) rfl (by kernel_rfl) (by kernel_rfl) (by kernel_rfl) (fun _ _ _ h => h) (Or.inl ⟨by rfl, ?_⟩) (by assumption) ?_
    rotate_left 1
    · intro w hSw; (try dsimp only at hSw); go_simp; try (with_reducible rfl)
    try simp only [Act.put, List.getElem_toArray, List.getElem_cons_zero, List.getElem_cons_succ, List.setIfInBounds_toArray, List.set_cons_zero, List.set_cons_succ]
    refine wpAnyH_take (i := 29) (oi := _) (v := ?_) rfl (by kernel_rfl) (by kernel_rfl) (by kernel_rfl) (fun _ _ _ h => h) (Or.inl ⟨by rfl, ?_⟩) (by assumption) ?_
    rotate_left 1
    · intro w hSw; (try dsimp only at hSw); go_simp; try (with_reducible rfl)
    try simp only [Act.put, List.getElem_toArray, List.getElem_cons_zero, List.getElem_cons_succ, List.setIfInBounds_toArray, List.set_cons_zero, List.set_cons_succ]
    refine wpAnyH_take (i := 30) (oi := _) (v := ?_) rfl (by kernel_rfl) (by kernel_rfl) (by kernel_rfl) (fun _ _ _ h => h) (Or.inl ⟨by rfl, ?_⟩) (by assumption) ?_
    rotate_left 1
    · intro w hSw; (try dsimp only at hSw); go_simp; try (with_reducible rfl)
    try simp only [Act.put, List.getElem_toArray, List.getElem_cons_zero, List.getElem_cons_succ, List.setIfInBounds_toArray, List.set_cons_zero, List.set_cons_succ]
    refine wpAnyH_take (i := 32) (oi := _) (v := ?_) rfl (by kernel_rfl) (by kernel_rfl) (by kernel_rfl) (fun _ _ _ h => h) (Or.inl ⟨by rfl, ?_⟩) (by assumption) ?_
    rotate_left 1
    · intro w hSw; (try dsimp only at hSw); go_simp; try (with_reducible rfl)
    try simp only [Act.put, List.getElem_toArray, List.getElem_cons_zero, List.getElem_cons_succ, List.setIfInBounds_toArray, List.set_cons_zero, List.set_cons_succ]
    refine wpAnyH_take (i := 33) (oi := _) (v := ?_) rfl (by kernel_rfl) (by kernel_rfl) (by kernel_rfl) (fun _ _ _ h => h) (Or.inl ⟨by rfl, ?_⟩) (by assumption) ?_
    rotate_left 1
    · intro w hSw; (try dsimp only at hSw); go_simp; try (with_reducible rfl)
    try simp only [Act.put, List.getElem_toArray, List.getElem_cons_zero, List.getElem_cons_succ, List.setIfInBounds_toArray, List.set_cons_zero, List.set_cons_succ]
    refine wpAnyH_take (i := 34) (oi := _) (v := ?_) rfl (by kernel_rfl) (by kernel_rfl) (by kernel_rfl) (fun _ _ _ h => h) (Or.inl ⟨by rfl, ?_⟩) (by assumption) ?_
    rotate_left 1
    · intro w hSw; (try dsimp only at hSw); go_simp; try (with_reducible rfl)
    try simp only [Act.put, List.getElem_toArray, List.getElem_cons_zero, List.getElem_cons_succ, List.setIfInBounds_toArray, List.set_cons_zero, List.set_cons_succ]
    refine wpAnyH_take (i := 35) (oi := _) (v := ?_) rfl (by kernel_rfl) (by kernel_rfl) (by kernel_rfl) (fun _ _ _ h => h) (Or.inl ⟨by rfl, ?_⟩) (by assumption) ?_
    rotate_left 1
    · intro w hSw; (try dsimp only at hSw); go_simp; try (with_reducible rfl)
    try simp only [Act.put, List.getElem_toArray, List.getElem_cons_zero, List.getElem_cons_succ, List.setIfInBounds_toArray, List.set_cons_zero, List.set_cons_succ]
    refine wpAnyH_take (i := 36) (oi := _) (v := ?_) rfl (by kernel_rfl) (by kernel_rfl) (by kernel_rfl) (fun _ _ _ h => h) (Or.inl ⟨by rfl, ?_⟩) (by assumption) ?_
    rotate_left 1
    · intro w hSw; (try dsimp only at hSw); go_simp; try (with_reducible rfl)
    try simp only [Act.put, List.getElem_toArray, List.getElem_cons_zero, List.getElem_cons_succ, List.setIfInBounds_toArray, List.set_cons_zero, List.set_cons_succ]
    refine wpAnyH_take (i := 37) (oi := _) (v := ?_) rfl (by kernel_rfl) (by kernel_rfl) (by kernel_rfl) (fun _ _ _ h => h) (Or.inl ⟨by rfl, ?_⟩) (by assumption) ?_
    rotate_left 1
    · intro w hSw; (try dsimp only at hSw); go_simp; try (with_reducible rfl)
    try simp only [Act.put, List.getElem_toArray, List.getElem_cons_zero, List.getElem_cons_succ, List.setIfInBounds_toArray, List.set_cons_zero, List.set_cons_succ]
    refine wpAnyH_take (i := 38) (oi := _) (v := ?_) rfl (by kernel_rfl) (by kernel_rfl) (by kernel_rfl) (fun _ _ _ h => h) (Or.inl ⟨by rfl, ?_⟩) (by assumption) ?_
    rotate_left 1
    · intro w hSw; (try dsimp only at hSw); go_simp; try (with_reducible rfl)
    try simp only [Act.put, List.getElem_toArray, List.getElem_cons_zero, List.getElem_cons_succ, List.setIfInBounds_toArray, List.set_cons_zero, List.set_cons_succ]
    refine wpAnyH_take (i := 39) (oi := _) (v := ?_) rfl (by kernel_rfl) (by kernel_rfl) (by kernel_rfl) (fun _ _ _ h => h) (Or.inl ⟨by rfl, ?_⟩) (by assumption) ?_
    rotate_left 1
    · intro w hSw; (try dsimp only at hSw); go_simp; try (with_reducible rfl)
    try simp only [Act.put, List.getElem_toArray, List.getElem_cons_zero, List.getElem_cons_succ, List.setIfInBounds_toArray, List.set_cons_zero, List.set_cons_succ]
    refine wpAnyH_ready (rs := [31]) (by kernel_rfl) (by simp) ?_
    refine AllReadyH.cons (o := _) rfl (fun K hK => ?_) AllReadyH.nil
    go_simp
    refine (PA3.out _).mono ?_
    rintro e w6 ⟨rfl, hg6⟩
    have hS6 := W3S.all (W3S.by_ hHeld.2.2.2.2.2.2 hg6)
    clear hg6
    go_wp2_with fail
    refine hK.out _ _ ?_ (fun hHeld2 => ?_)
    · exact hS6
    clear hK K hHeld
    have hHeld := hHeld2
    clear hHeld2
    try simp only [Act.put, List.getElem_toArray, List.getElem_cons_zero, List.getElem_cons_succ, List.setIfInBounds_toArray, List.set_cons_zero, List.set_cons_succ]
    refine wpAnyH_ready (rs := [40]) (by kernel_rfl) (by simp) ?_
    refine AllReadyH.cons (o := _) rfl (fun K hK => ?_) AllReadyH.nil
    go_simp
    refine (RA3.out _).mono ?_
    rintro e w6 ⟨rfl, hg6⟩
    have hS6 := W3S.all (W3S.by_ hHeld.2.2.2.2.2.2 hg6)
    clear hg6
    go_wp2_with fail
    refine hK.out _ _ ?_ (fun hHeld2 => ?_)
    · exact hS6
    clear hK K hHeld
    have hHeld := hHeld2
    clear hHeld2
    try simp only [Act.put, List.getElem_toArray, List.getElem_cons_zero, List.getElem_cons_succ, List.setIfInBounds_toArray, List.set_cons_zero, List.set_cons_succ]
    refine wpAnyH_take (i := 41) (oi := _) (v := ?_) rfl (by kernel_rfl) (by kernel_rfl) (by kernel_rfl) (fun _ _ _ h => h) (Or.inl ⟨by rfl, ?_⟩) (by assumption) ?_
    rotate_left 1
    · intro w hSw; (try dsimp only at hSw); go_simp; try (with_reducible rfl)
    try simp only [Act.put, List.getElem_toArray, List.getElem_cons_zero, List.getElem_cons_succ, List.setIfInBounds_toArray, List.set_cons_zero, List.set_cons_succ]
    refine wpAnyH_take (i := 42) (oi := _) (v := ?_) rfl (by kernel_rfl) (by kernel_rfl) (by kernel_rfl) (fun _ _ _ h => h) (Or.inl ⟨by rfl, ?_⟩) (by assumption) ?_
    rotate_left 1
    · intro w hSw; (try dsimp only at hSw); go_simp; try (with_reducible rfl)
    try simp only [Act.put, List.getElem_toArray, List.getElem_cons_zero, List.getElem_cons_succ, List.setIfInBounds_toArray, List.set_cons_zero, List.set_cons_succ]
    refine wpAnyH_done (by kernel_rfl) ?_ _
    have HS8 := Lib.hid hS6.2.2.2.2.2.2.w2
    clear hS6 hS0 hHeld PA1 PA2 PA3 RA1 RA2 RA3 hlm u3 b1 b2 b3 d1 d2 d3
    generalize w6 = V0 at *
    go_wp2_with fail
    rw [rounds_succ]
    have L1 := run_loadS_lit HS8.out.a8
    have gx := gb_alloc (gb_refl V0 none) (.cells #[.int .i64 r.addr, .int .i64 r.kind, .int .i64 r.target, .int .i64 r.offset, .int .i64 r.scale, .int .i64 r.error, .int .i64 r.drift, .int .i64 r.life] 24)
    have HS9 := Lib.hid (show W3S w b l3 n10 nb s r ms mt lo hi V0.heap.size r (V0.alloc (.cells #[.int .i64 r.addr, .int .i64 r.kind, .int .i64 r.target, .int .i64 r.offset, .int .i64 r.scale, .int .i64 r.error, .int .i64 r.drift, .int .i64 r.life] 24)) from ⟨HS8.out.by_ gx, Bk.snAt (Bk.new _ _ _)⟩)
    clear gx
    go_upto_region 11 with fail
    clear L1 HS8
    generalize V0.alloc _ = W9 at *
    generalize V0.heap.size = n13 at *
    obtain ⟨lm, hlm⟩ : ∃ lm, r.life.tmod 2000000 = lm := ⟨_, rfl⟩
    have hlmb := tmod_bd r.life
    rw [hlm] at hlmb
    obtain ⟨tl, htl⟩ : ∃ tl, mt + lm = tl := ⟨_, rfl⟩
    have u3 : IntKind.i64.wrap (mt + lm) = tl := by have := HTB.out.2.1; rw [htl]; exact IntWalk.i64_in tl (by omega)
    have PA1 := Lib.hid (fun w => pAt_any r ms mt lo hi tt w HTB.out.2.2.1 HTB.out.2.2.2 (by have := HTB.out.2.1; omega) (by have := HTB.out; have := HQ2.out; omega))
    have RA1 := Lib.hid (fun w => rAt_any r ms mt lo hi tt w HTB.out.2.2.1 HTB.out.2.2.2 (by have := HTB.out.2.1; omega) (by have := HTB.out; have := HQ2.out; omega))
    obtain ⟨p1, hp1⟩ : ∃ p, atSn r ms mt lo hi tt = p := ⟨_, rfl⟩
    rw [hp1] at PA1 RA1
    obtain ⟨x1, y1⟩ := p1
    unfold msV spV at PA1 RA1
    dsimp only at PA1 RA1
    have b1 : (x1 == x1) = true := by simp
    have d1 : (y1 == y1) = true := by simp
    clear hp1
    have PA2 := Lib.hid (fun w => pAt_any r ms mt lo hi q2 w HTB.out.2.2.1 HTB.out.2.2.2 (by have := HTB.out.2.1; omega) (by have := HTB.out; have := HQ2.out; omega))
    have RA2 := Lib.hid (fun w => rAt_any r ms mt lo hi q2 w HTB.out.2.2.1 HTB.out.2.2.2 (by have := HTB.out.2.1; omega) (by have := HTB.out; have := HQ2.out; omega))
    obtain ⟨p2, hp2⟩ : ∃ p, atSn r ms mt lo hi q2 = p := ⟨_, rfl⟩
    rw [hp2] at PA2 RA2
    obtain ⟨x2, y2⟩ := p2
    unfold msV spV at PA2 RA2
    dsimp only at PA2 RA2
    have b2 : (x2 == x2) = true := by simp
    have d2 : (y2 == y2) = true := by simp
    clear hp2
    have PA3 := Lib.hid (fun w => pAt_any r ms mt lo hi tl w HTB.out.2.2.1 HTB.out.2.2.2 (by have := HTB.out.2.1; omega) (by have := HTB.out; have := HQ2.out; omega))
    have RA3 := Lib.hid (fun w => rAt_any r ms mt lo hi tl w HTB.out.2.2.1 HTB.out.2.2.2 (by have := HTB.out.2.1; omega) (by have := HTB.out; have := HQ2.out; omega))
    obtain ⟨p3, hp3⟩ : ∃ p, atSn r ms mt lo hi tl = p := ⟨_, rfl⟩
    rw [hp3] at PA3 RA3
    obtain ⟨x3, y3⟩ := p3
    unfold msV spV at PA3 RA3
    dsimp only at PA3 RA3
    have b3 : (x3 == x3) = true := by simp
    have d3 : (y3 == y3) = true := by simp
    clear hp3
    clear htl hlmb
    have hS0 := W3S.all (HS9.out.by_ (gb_drew (gb_refl W9 none)))
    clear HS9
    refine wp_region_held_drew (S := (fun w' => (loadS (.pointer (some ⟨n13, 0, none⟩))).run Try.prog w' = .ok (snV r) w' ∧ w'.cell? ⟨n10, 0, none⟩ = some (.int .i64 ms) ∧ w'.cell? ⟨n10, 1, none⟩ = some (.int .i64 mt) ∧ w'.cell? ⟨n10, 2, none⟩ = some (.int .i64 lo) ∧ w'.cell? ⟨n10, 3, none⟩ = some (.int .i64 hi) ∧ w'.cell? ⟨n13, 7, none⟩ = some (.int .i64 r.life) ∧ W3S w b l3 n10 nb s r ms mt lo hi n13 r w')) (by kernel_rfl) ?_ (fun hHeld => ?_)
    · exact hS0
    refine wpAnyH_take (i := 0) (oi := _) (v := ?_) rfl (by kernel_rfl) (by kernel_rfl) (by kernel_rfl) (fun _ _ _ h => h) (Or.inl ⟨by rfl, ?_⟩) (by assumption) ?_
    rotate_left 1
    · intro w hSw; (try dsimp only at hSw); go_simp; try (with_reducible rfl)
    try simp only [Act.put, List.getElem_toArray, List.getElem_cons_zero, List.setIfInBounds_toArray, List.set_cons_zero, List.set_cons_succ]
    refine wpAnyH_take (i := 1) (oi := _) (v := ?_) rfl (by kernel_rfl) (by kernel_rfl) (by kernel_rfl) (fun _ _ _ h => h) (Or.inl ⟨by rfl, ?_⟩) (by assumption) ?_
    rotate_left 1
    · intro w hSw; (try dsimp only at hSw); go_simp; try (with_reducible rfl)
    try simp only [Act.put, List.getElem_toArray, List.getElem_cons_zero, List.getElem_cons_succ, List.setIfInBounds_toArray, List.set_cons_zero, List.set_cons_succ]
    refine wpAnyH_take (i := 2) (oi := _) (v := ?_) rfl (by kernel_rfl) (by kernel_rfl) (by kernel_rfl) (fun _ _ _ h => h) (Or.inl ⟨by rfl, ?_⟩) (by assumption) ?_
    rotate_left 1
    · intro w hSw; (try dsimp only at hSw); go_simp; try (with_reducible rfl)
    try simp only [Act.put, List.getElem_toArray, List.getElem_cons_zero, List.getElem_cons_succ, List.setIfInBounds_toArray, List.set_cons_zero, List.set_cons_succ]
    refine wpAnyH_take (i := 4) (oi := _) (v := ?_) rfl (by kernel_rfl) (by kernel_rfl) (by kernel_rfl) (fun _ _ _ h => h) (Or.inl ⟨by rfl, ?_⟩) (by assumption) ?_
    rotate_left 1
    · intro w hSw; (try dsimp only at hSw); go_simp; try (with_reducible rfl)
    try simp only [Act.put, List.getElem_toArray, List.getElem_cons_zero, List.getElem_cons_succ, List.setIfInBounds_toArray, List.set_cons_zero, List.set_cons_succ]
    refine wpAnyH_take (i := 5) (oi := _) (v := ?_) rfl (by kernel_rfl) (by kernel_rfl) (by kernel_rfl) (fun _ _ _ h => h) (Or.inl ⟨by rfl, ?_⟩) (by assumption) ?_
    rotate_left 1
    · intro w hSw; (try dsimp only at hSw); go_simp; try (with_reducible rfl)
    try simp only [Act.put, List.getElem_toArray, List.getElem_cons_zero, List.getElem_cons_succ, List.setIfInBounds_toArray, List.set_cons_zero, List.set_cons_succ]
    refine wpAnyH_take (i := 6) (oi := _) (v := ?_) rfl (by kernel_rfl) (by kernel_rfl) (by kernel_rfl) (fun _ _ _ h => h) (Or.inl ⟨by rfl, ?_⟩) (by assumption) ?_
    rotate_left 1
    · intro w hSw; (try dsimp only at hSw); go_simp; try (with_reducible rfl)
    try simp only [Act.put, List.getElem_toArray, List.getElem_cons_zero, List.getElem_cons_succ, List.setIfInBounds_toArray, List.set_cons_zero, List.set_cons_succ]
    refine wpAnyH_ready (rs := [3]) (by kernel_rfl) (by simp) ?_
    refine AllReadyH.cons (o := _) rfl (fun K hK => ?_) AllReadyH.nil
    go_simp
    refine (PA1.out _).mono ?_
    rintro e w6 ⟨rfl, hg6⟩
    have hS6 := W3S.all (W3S.by_ hHeld.2.2.2.2.2.2 hg6)
    clear hg6
    go_wp2_with fail
    refine hK.out _ _ ?_ (fun hHeld2 => ?_)
    · exact hS6
    clear hK K hHeld
    have hHeld := hHeld2
    clear hHeld2
    try simp only [Act.put, List.getElem_toArray, List.getElem_cons_zero, List.getElem_cons_succ, List.setIfInBounds_toArray, List.set_cons_zero, List.set_cons_succ]
    refine wpAnyH_ready (rs := [7]) (by kernel_rfl) (by simp) ?_
    refine AllReadyH.cons (o := _) rfl (fun K hK => ?_) AllReadyH.nil
    go_simp
    refine (RA1.out _).mono ?_
    rintro e w6 ⟨rfl, hg6⟩
    have hS6 := W3S.all (W3S.by_ hHeld.2.2.2.2.2.2 hg6)
    clear hg6
    go_wp2_with fail
    refine hK.out _ _ ?_ (fun hHeld2 => ?_)
    · exact hS6
    clear hK K hHeld
    have hHeld := hHeld2
    clear hHeld2
    try simp only [Act.put, List.getElem_toArray, List.getElem_cons_zero, List.getElem_cons_succ, List.setIfInBounds_toArray, List.set_cons_zero, List.set_cons_succ]
    refine wpAnyH_take (i := 8) (oi := _) (v := ?_) rfl (by kernel_rfl) (by kernel_rfl) (by kernel_rfl) (fun _ _ _ h => h) (Or.inl ⟨by rfl, ?_⟩) (by assumption) ?_
    rotate_left 1
    · intro w hSw; (try dsimp only at hSw); go_simp; try (with_reducible rfl)
    try simp only [Act.put, List.getElem_toArray, List.getElem_cons_zero, List.getElem_cons_succ, List.setIfInBounds_toArray, List.set_cons_zero, List.set_cons_succ]
    refine wpAnyH_take (i := 9) (oi := _) (v := ?_) rfl (by kernel_rfl) (by kernel_rfl) (by kernel_rfl) (fun _ _ _ h => h) (Or.inl ⟨by rfl, ?_⟩) (by assumption) ?_
    rotate_left 1
    · intro w hSw; (try dsimp only at hSw); go_simp; try (with_reducible rfl)
    try simp only [Act.put, List.getElem_toArray, List.getElem_cons_zero, List.getElem_cons_succ, List.setIfInBounds_toArray, List.set_cons_zero, List.set_cons_succ]
    refine wpAnyH_take (i := 10) (oi := _) (v := ?_) rfl (by kernel_rfl) (by kernel_rfl) (by kernel_rfl) (fun _ _ _ h => h) (Or.inl ⟨by rfl, ?_⟩) (by assumption) ?_
    rotate_left 1
    · intro w hSw; (try dsimp only at hSw); go_simp; try (with_reducible rfl)
    try simp only [Act.put, List.getElem_toArray, List.getElem_cons_zero, List.getElem_cons_succ, List.setIfInBounds_toArray, List.set_cons_zero, List.set_cons_succ]
    refine wpAnyH_take (i := 11) (oi := _) (v := ?_) rfl (by kernel_rfl) (by kernel_rfl) (by kernel_rfl) (fun _ _ _ h => h) (Or.inl ⟨by rfl, ?_⟩) (by assumption) ?_
    rotate_left 1
    · intro w hSw; (try dsimp only at hSw); go_simp; try (with_reducible rfl)
    try simp only [Act.put, List.getElem_toArray, List.getElem_cons_zero, List.getElem_cons_succ, List.setIfInBounds_toArray, List.set_cons_zero, List.set_cons_succ]
    refine wpAnyH_take (i := 12) (oi := _) (v := ?_) rfl (by kernel_rfl) (by kernel_rfl) (by kernel_rfl) (fun _ _ _ h => h) (Or.inl ⟨by rfl, ?_⟩) (by assumption) ?_
    rotate_left 1
    · intro w hSw; (try dsimp only at hSw); go_simp; try (with_reducible rfl)
    try simp only [Act.put, List.getElem_toArray, List.getElem_cons_zero, List.getElem_cons_succ, List.setIfInBounds_toArray, List.set_cons_zero, List.set_cons_succ]
    refine wpAnyH_take (i := 15) (oi := _) (v := ?_) rfl (by kernel_rfl) (by kernel_rfl) (by kernel_rfl) (fun _ _ _ h => h) (Or.inl ⟨by rfl, ?_⟩) (by assumption) ?_
    rotate_left 1
    · intro w hSw; (try dsimp only at hSw); go_simp; try (with_reducible rfl)
    try simp only [Act.put, List.getElem_toArray, List.getElem_cons_zero, List.getElem_cons_succ, List.setIfInBounds_toArray, List.set_cons_zero, List.set_cons_succ]
    refine wpAnyH_take (i := 16) (oi := _) (v := ?_) rfl (by kernel_rfl) (by kernel_rfl) (by kernel_rfl) (fun _ _ _ h => h) (Or.inl ⟨by rfl, ?_⟩) (by assumption) ?_
    rotate_left 1
    · intro w hSw; (try dsimp only at hSw); go_simp; try (with_reducible rfl)
    try simp only [Act.put, List.getElem_toArray, List.getElem_cons_zero, List.getElem_cons_succ, List.setIfInBounds_toArray, List.set_cons_zero, List.set_cons_succ]
    refine wpAnyH_take (i := 17) (oi := _) (v := ?_) rfl (by kernel_rfl) (by kernel_rfl) (by kernel_rfl) (fun _ _ _ h => h) (Or.inl ⟨by rfl, ?_⟩) (by assumption) ?_
    rotate_left 1
    · intro w hSw; (try dsimp only at hSw); go_simp; try (with_reducible rfl)
    try simp only [Act.put, List.getElem_toArray, List.getElem_cons_zero, List.getElem_cons_succ, List.setIfInBounds_toArray, List.set_cons_zero, List.set_cons_succ]
    refine wpAnyH_ready (rs := [13]) (by kernel_rfl) (by simp) ?_
    refine AllReadyH.cons (o := _) rfl (fun K hK => ?_) AllReadyH.nil
    go_simp
    refine (M2.out _).mono ?_
    rintro e w6 ⟨rfl, rfl⟩
    have hS6 := hHeld
    go_wp2_with fail
    refine hK.out _ _ ?_ (fun hHeld2 => ?_)
    · exact hS6
    clear hK K hHeld
    have hHeld := hHeld2
    clear hHeld2
    try simp only [Act.put, List.getElem_toArray, List.getElem_cons_zero, List.getElem_cons_succ, List.setIfInBounds_toArray, List.set_cons_zero, List.set_cons_succ]
    refine wpAnyH_ready (rs := [14]) (by kernel_rfl) (by simp) ?_
    refine AllReadyH.cons (o := _) rfl (fun K hK => ?_) AllReadyH.nil
    go_simp
    refine (PA2.out _).mono ?_
    rintro e w6 ⟨rfl, hg6⟩
    have hS6 := W3S.all (W3S.by_ hHeld.2.2.2.2.2.2 hg6)
    clear hg6
    go_wp2_with fail
    refine hK.out _ _ ?_ (fun hHeld2 => ?_)
    · exact hS6
    clear hK K hHeld
    have hHeld := hHeld2
    clear hHeld2
    try simp only [Act.put, List.getElem_toArray, List.getElem_cons_zero, List.getElem_cons_succ, List.setIfInBounds_toArray, List.set_cons_zero, List.set_cons_succ]
    refine wpAnyH_ready (rs := [18]) (by kernel_rfl) (by simp) ?_
    refine AllReadyH.cons (o := _) rfl (fun K hK => ?_) AllReadyH.nil
    go_simp
    refine (M2.out _).mono ?_
    rintro e w6 ⟨rfl, rfl⟩
    have hS6 := hHeld
    go_wp2_with fail
    refine hK.out _ _ ?_ (fun hHeld2 => ?_)
    · exact hS6
    clear hK K hHeld
    have hHeld := hHeld2
    clear hHeld2
    try simp only [Act.put, List.getElem_toArray, List.getElem_cons_zero, List.getElem_cons_succ, List.setIfInBounds_toArray, List.set_cons_zero, List.set_cons_succ]
    refine wpAnyH_ready (rs := [19]) (by kernel_rfl) (by simp) ?_
    refine AllReadyH.cons (o := _) rfl (fun K hK => ?_) AllReadyH.nil
    go_simp
    refine (RA2.out _).mono ?_
    rintro e w6 ⟨rfl, hg6⟩
    have hS6 := W3S.all (W3S.by_ hHeld.2.2.2.2.2.2 hg6)
    clear hg6
    go_wp2_with fail
    refine hK.out _ _ ?_ (fun hHeld2 => ?_)
    · exact hS6
    clear hK K hHeld
    have hHeld := hHeld2
    clear hHeld2
    try simp only [Act.put, List.getElem_toArray, List.getElem_cons_zero, List.getElem_cons_succ, List.setIfInBounds_toArray, List.set_cons_zero, List.set_cons_succ]
    refine wpAnyH_take (i := 20) (oi := _) (v := ?_) rfl (by kernel_rfl) (by kernel_rfl) (by kernel_rfl) (fun _ _ _ h => h) (Or.inl ⟨by rfl, ?_⟩) (by assumption) ?_
    rotate_left 1
    · intro w hSw; (try dsimp only at hSw); go_simp; try (with_reducible rfl)
    try simp only [Act.put, List.getElem_toArray, List.getElem_cons_zero, List.getElem_cons_succ, List.setIfInBounds_toArray, List.set_cons_zero, List.set_cons_succ]
    refine wpAnyH_take (i := 21) (oi := _) (v := ?_) rfl (by kernel_rfl) (by kernel_rfl) (by kernel_rfl) (fun _ _ _ h => h) (Or.inl ⟨by rfl, ?_⟩) (by assumption) ?_
    rotate_left 1
    · intro w hSw; (try dsimp only at hSw); go_simp; try (with_reducible rfl)
    try simp only [Act.put, List.getElem_toArray, List.getElem_cons_zero, List.getElem_cons_succ, List.setIfInBounds_toArray, List.set_cons_zero, List.set_cons_succ]
    refine wpAnyH_take (i := 22) (oi := _) (v := ?_) rfl (by kernel_rfl) (by kernel_rfl) (by kernel_rfl) (fun _ _ _ h => h) (Or.inl ⟨by rfl, ?_⟩) (by assumption) ?_
    rotate_left 1
    · intro w hSw; (try dsimp only at hSw); go_simp; try (with_reducible rfl)
    try simp only [Act.put, List.getElem_toArray, List.getElem_cons_zero, List.getElem_cons_succ, List.setIfInBounds_toArray, List.set_cons_zero, List.set_cons_succ]
    refine wpAnyH_take (i := 23) (oi := _) (v := ?_) rfl (by kernel_rfl) (by kernel_rfl) (by kernel_rfl) (fun _ _ _ h => h) (Or.inl ⟨by rfl, ?_⟩) (by assumption) ?_
    rotate_left 1
    · intro w hSw; (try dsimp only at hSw); go_simp; try (with_reducible rfl)
    try simp only [Act.put, List.getElem_toArray, List.getElem_cons_zero, List.getElem_cons_succ, List.setIfInBounds_toArray, List.set_cons_zero, List.set_cons_succ]
    refine wpAnyH_take (i := 24) (oi := _) (v := ?_) rfl (by kernel_rfl) (by kernel_rfl) (by kernel_rfl) (fun _ _ _ h => h) (Or.inl ⟨by rfl, ?_⟩) (by assumption) ?_
    rotate_left 1
    · intro w hSw; (try dsimp only at hSw); go_simp; try (with_reducible rfl)
    try simp only [Act.put, List.getElem_toArray, List.getElem_cons_zero, List.getElem_cons_succ, List.setIfInBounds_toArray, List.set_cons_zero, List.set_cons_succ]
    refine wpAnyH_take (i := 25) (oi := _) (v := ?_) rfl (by kernel_rfl) (by kernel_rfl) (by kernel_rfl) (fun _ _ _ h => h) (Or.inl ⟨by rfl, ?_⟩) (by assumption) ?_
    rotate_left 1
    · intro w hSw; (try dsimp only at hSw); go_simp; try (with_reducible rfl)
    try simp only [Act.put, List.getElem_toArray, List.getElem_cons_zero, List.getElem_cons_succ, List.setIfInBounds_toArray, List.set_cons_zero, List.set_cons_succ]
    refine wpAnyH_take (i := 26) (oi := _) (v := ?_) rfl (by kernel_rfl) (by kernel_rfl) (by kernel_rfl) (fun _ _ _ h => h) (Or.inl ⟨by rfl, ?_⟩) (by assumption) ?_
    rotate_left 1
    · intro w hSw; (try dsimp only at hSw); go_simp; try (with_reducible rfl)
    try simp only [Act.put, List.getElem_toArray, List.getElem_cons_zero, List.getElem_cons_succ, List.setIfInBounds_toArray, List.set_cons_zero, List.set_cons_succ]
    refine wpAnyH_take (i := 27) (oi := _) (v := ?_) rfl (by kernel_rfl) (by kernel_rfl) (by kernel_rfl) (fun _ _ _ h => h) (Or.inl ⟨by rfl, ?_⟩) (by assumption) ?_
    rotate_left 1
    · intro w hSw; (try dsimp only at hSw); go_simp; try (with_reducible rfl)
    try simp only [Act.put, List.getElem_toArray, List.getElem_cons_zero, List.getElem_cons_succ, List.setIfInBounds_toArray, List.set_cons_zero, List.set_cons_succ]
    refine wpAnyH_take (i := 28) (oi := _) (v := ?_) rfl (by kernel_rfl) (by kernel_rfl) (by kernel_rfl) (fun _ _ _ h => h) (Or.inl ⟨by rfl, ?_⟩) (by assumption) ?_
    rotate_left 1
    · intro w hSw; (try dsimp only at hSw); go_simp; try (with_reducible rfl)
    try simp only [Act.put, List.getElem_toArray, List.getElem_cons_zero, List.getElem_cons_succ, List.setIfInBounds_toArray, List.set_cons_zero, List.set_cons_succ]
    refine wpAnyH_take (i := 29) (oi := _) (v := ?_) rfl (by kernel_rfl) (by kernel_rfl) (by kernel_rfl) (fun _ _ _ h => h) (Or.inl ⟨by rfl, ?_⟩) (by assumption) ?_
    rotate_left 1
    · intro w hSw; (try dsimp only at hSw); go_simp; try (with_reducible rfl)
    try simp only [Act.put, List.getElem_toArray, List.getElem_cons_zero, List.getElem_cons_succ, List.setIfInBounds_toArray, List.set_cons_zero, List.set_cons_succ]
    refine wpAnyH_take (i := 30) (oi := _) (v := ?_) rfl (by kernel_rfl) (by kernel_rfl) (by kernel_rfl) (fun _ _ _ h => h) (Or.inl ⟨by rfl, ?_⟩) (by assumption) ?_
    rotate_left 1
    · intro w hSw; (try dsimp only at hSw); go_simp; try (with_reducible rfl)
    try simp only [Act.put, List.getElem_toArray, List.getElem_cons_zero, List.getElem_cons_succ, List.setIfInBounds_toArray, List.set_cons_zero, List.set_cons_succ]
    refine wpAnyH_take (i := 32) (oi := _) (v := ?_) rfl (by kernel_rfl) (by kernel_rfl) (by kernel_rfl) (fun _ _ _ h => h) (Or.inl ⟨by rfl, ?_⟩) (by assumption) ?_
    rotate_left 1
    · intro w hSw; (try dsimp only at hSw); go_simp; try (with_reducible rfl)
    try simp only [Act.put, List.getElem_toArray, List.getElem_cons_zero, List.getElem_cons_succ, List.setIfInBounds_toArray, List.set_cons_zero, List.set_cons_succ]
    refine wpAnyH_take (i := 33) (oi := _) (v := ?_) rfl (by kernel_rfl) (by kernel_rfl) (by kernel_rfl) (fun _ _ _ h => h) (Or.inl ⟨by rfl, ?_⟩) (by assumption) ?_
    rotate_left 1
    · intro w hSw; (try dsimp only at hSw); go_simp; try (with_reducible rfl)
    try simp only [Act.put, List.getElem_toArray, List.getElem_cons_zero, List.getElem_cons_succ, List.setIfInBounds_toArray, List.set_cons_zero, List.set_cons_succ]
    refine wpAnyH_take (i := 34) (oi := _) (v := ?_) rfl (by kernel_rfl) (by kernel_rfl) (by kernel_rfl) (fun _ _ _ h => h) (Or.inl ⟨by rfl, ?_⟩) (by assumption) ?_
    rotate_left 1
    · intro w hSw; (try dsimp only at hSw); go_simp; try (with_reducible rfl)
    try simp only [Act.put, List.getElem_toArray, List.getElem_cons_zero, List.getElem_cons_succ, List.setIfInBounds_toArray, List.set_cons_zero, List.set_cons_succ]
    refine wpAnyH_take (i := 35) (oi := _) (v := ?_) rfl (by kernel_rfl) (by kernel_rfl) (by kernel_rfl) (fun _ _ _ h => h) (Or.inl ⟨by rfl, ?_⟩) (by assumption) ?_
    rotate_left 1
    · intro w hSw; (try dsimp only at hSw); go_simp; try (with_reducible rfl)
    try simp only [Act.put, List.getElem_toArray, List.getElem_cons_zero, List.getElem_cons_succ, List.setIfInBounds_toArray, List.set_cons_zero, List.set_cons_succ]
    refine wpAnyH_take (i := 36) (oi := _) (v := ?_) rfl (by kernel_rfl) (by kernel_rfl) (by kernel_rfl) (fun _ _ _ h => h) (Or.inl ⟨by rfl, ?_⟩) (by assumption) ?_
    rotate_left 1
    · intro w hSw; (try dsimp only at hSw); go_simp; try (with_reducible rfl)
    try simp only [Act.put, List.getElem_toArray, List.getElem_cons_zero, List.getElem_cons_succ, List.setIfInBounds_toArray, List.set_cons_zero, List.set_cons_succ]
    refine wpAnyH_take (i := 37) (oi := _) (v := ?_) rfl (by kernel_rfl) (by kernel_rfl) (by kernel_rfl) (fun _ _ _ h => h) (Or.inl ⟨by rfl, ?_⟩) (by assumption) ?_
    rotate_left 1
    · intro w hSw; (try dsimp only at hSw); go_simp; try (with_reducible rfl)
    try simp only [Act.put, List.getElem_toArray, List.getElem_cons_zero, List.getElem_cons_succ, List.setIfInBounds_toArray, List.set_cons_zero, List.set_cons_succ]
    refine wpAnyH_take (i := 38) (oi := _) (v := ?_) rfl (by kernel_rfl) (by kernel_rfl) (by kernel_rfl) (fun _ _ _ h => h) (Or.inl ⟨by rfl, ?_⟩) (by assumption) ?_
    rotate_left 1
    · intro w hSw; (try dsimp only at hSw); go_simp; try (with_reducible rfl)
    try simp only [Act.put, List.getElem_toArray, List.getElem_cons_zero, List.getElem_cons_succ, List.setIfInBounds_toArray, List.set_cons_zero, List.set_cons_succ]
    refine wpAnyH_take (i := 39) (oi := _) (v := ?_) rfl (by kernel_rfl) (by kernel_rfl) (by kernel_rfl) (fun _ _ _ h => h) (Or.inl ⟨by rfl, ?_⟩) (by assumption) ?_
    rotate_left 1
    · intro w hSw; (try dsimp only at hSw); go_simp; try (with_reducible rfl)
    try simp only [Act.put, List.getElem_toArray, List.getElem_cons_zero, List.getElem_cons_succ, List.setIfInBounds_toArray, List.set_cons_zero, List.set_cons_succ]
    refine wpAnyH_ready (rs := [31]) (by kernel_rfl) (by simp) ?_
    refine AllReadyH.cons (o := _) rfl (fun K hK => ?_) AllReadyH.nil
    go_simp
    refine (PA3.out _).mono ?_
    rintro e w6 ⟨rfl, hg6⟩
    have hS6 := W3S.all (W3S.by_ hHeld.2.2.2.2.2.2 hg6)
    clear hg6
    go_wp2_with fail
    refine hK.out _ _ ?_ (fun hHeld2 => ?_)
    · exact hS6
    clear hK K hHeld
    have hHeld := hHeld2
    clear hHeld2
    try simp only [Act.put, List.getElem_toArray, List.getElem_cons_zero, List.getElem_cons_succ, List.setIfInBounds_toArray, List.set_cons_zero, List.set_cons_succ]
    refine wpAnyH_ready (rs := [40]) (by kernel_rfl) (by simp) ?_
    refine AllReadyH.cons (o := _) rfl (fun K hK => ?_) AllReadyH.nil
    go_simp
    refine (RA3.out _).mono ?_
    rintro e w6 ⟨rfl, hg6⟩
    have hS6 := W3S.all (W3S.by_ hHeld.2.2.2.2.2.2 hg6)
    clear hg6
    go_wp2_with fail
    refine hK.out _ _ ?_ (fun hHeld2 => ?_)
    · exact hS6
    clear hK K hHeld
    have hHeld := hHeld2
    clear hHeld2
    try simp only [Act.put, List.getElem_toArray, List.getElem_cons_zero, List.getElem_cons_succ, List.setIfInBounds_toArray, List.set_cons_zero, List.set_cons_succ]
    refine wpAnyH_take (i := 41) (oi := _) (v := ?_) rfl (by kernel_rfl) (by kernel_rfl) (by kernel_rfl) (fun _ _ _ h => h) (Or.inl ⟨by rfl, ?_⟩) (by assumption) ?_
    rotate_left 1
    · intro w hSw; (try dsimp only at hSw); go_simp; try (with_reducible rfl)
    try simp only [Act.put, List.getElem_toArray, List.getElem_cons_zero, List.getElem_cons_succ, List.setIfInBounds_toArray, List.set_cons_zero, List.set_cons_succ]
    refine wpAnyH_take (i := 42) (oi := _) (v := ?_) rfl (by kernel_rfl) (by kernel_rfl) (by kernel_rfl) (fun _ _ _ h => h) (Or.inl ⟨by rfl, ?_⟩) (by assumption) ?_
    rotate_left 1
    · intro w hSw; (try dsimp only at hSw); go_simp; try (with_reducible rfl)
    try simp only [Act.put, List.getElem_toArray, List.getElem_cons_zero, List.getElem_cons_succ, List.setIfInBounds_toArray, List.set_cons_zero, List.set_cons_succ]
    refine wpAnyH_done (by kernel_rfl) ?_ _
    have HS8 := Lib.hid hS6.2.2.2.2.2.2.w2
    clear hS6 hS0 hHeld PA1 PA2 PA3 RA1 RA2 RA3 hlm u3 b1 b2 b3 d1 d2 d3
    generalize w6 = V1 at *
    go_wp2_with fail
    rw [rounds_succ]
    go_wp2_with fail
    refine (awake6_any _).mono ?_
    rintro e W30 ⟨rfl, hg⟩
    go_wp2_with fail
    go_ret
    exact ⟨rfl, gb_none HS8.out.wl.g hg⟩
end Go.Proofs.Ytackckljldpldaa
