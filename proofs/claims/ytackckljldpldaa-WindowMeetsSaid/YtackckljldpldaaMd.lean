/- Stage 6, a drawn measurement. -/
import Derived.Test.YtackckljldpldaaAw6
namespace Go.Proofs.Ytackckljldpldaa
open Go.RowKit
attribute [local go_sem ↓] Go.wp_at_zero Go.wp_at_succ

theorem one_any (b : Nat) (l : List Nat) (i : Nat) (n : Int) (w : World) (h : CdAt w b l i) (hl : 1 ≤ n) (h1 : n ≤ 9223372036854775807) :
    Calls Try.prog 32 #[.pointer (some ⟨b, 0, none⟩), .int .i64 n] w fun e w' => ∃ bo : Bool, ∃ j : Nat, e = .returned (.bool bo) ∧ CdAt w' b l j ∧ Only b w w' := by
  have HN := Lib.hid (next_any b l i n w h h1)
  have hn : wrap64 (n - 1) = n - 1 := IntWalk.wrap64_in _ (by omega)
  clear h
  go_enter Try.func32, Try.ntmps32
  go_wp2_with fail
  refine HN.out.mono ?_
  rintro e w' ⟨rfl, hc, ho⟩
  go_wp2_with fail
  go_ret
  exact ⟨_, _, rfl, hc, ho⟩
/-- While a measurement is drawn: the codes, the result, the measurement. -/
structure MdS (w : World) (b : Nat) (l : List Nat) (n3 : Nat) (ms mt lo hi : Int) (W : World) : Prop where
  cd : ∃ j, CdAt W b l j
  k2 : Bk W w.heap.size #[.int .i64 0, .int .i64 0, .int .i64 0, .int .i64 0] 43
  k3 : Bk W n3 #[.int .i64 ms, .int .i64 mt, .int .i64 lo, .int .i64 hi] 43
  g : w.grownBy W (some b)
  lt : b < w.heap.size
  ln : w.heap.size < n3
theorem MdS.draw {w : World} {b : Nat} {l : List Nat} {n3 : Nat} {ms mt lo hi : Int} {W W' : World} (h : MdS w b l n3 ms mt lo hi W) {j : Nat} (c : CdAt W' b l j) (o : W.grownBy W' (some b)) : MdS w b l n3 ms mt lo hi W' := by
  have h1 := h.lt
  have h2 := h.ln
  exact ⟨⟨j, c⟩, h.k2.of o (by simp; omega), h.k3.of o (by simp; omega), gb_same h.g o, h.lt, h.ln⟩
theorem MdS.by_ {w : World} {b : Nat} {l : List Nat} {n3 : Nat} {ms mt lo hi : Int} {W W' : World} (h : MdS w b l n3 ms mt lo hi W) (o : W.grownBy W' none) : MdS w b l n3 ms mt lo hi W' := by
  obtain ⟨j, c⟩ := h.cd
  exact ⟨⟨j, c.keep o (fun g e => by cases e)⟩, h.k2.of o (by simp), h.k3.of o (by simp), gb_none h.g o, h.lt, h.ln⟩
theorem MdS.put {w : World} {b : Nat} {l : List Nat} {n3 : Nat} {ms mt lo hi ms' mt' lo' hi' : Int} {W W' : World} (h : MdS w b l n3 ms mt lo hi W) (o : W.grownBy W' (some n3)) (k : Bk W' n3 #[.int .i64 ms', .int .i64 mt', .int .i64 lo', .int .i64 hi'] 43) : MdS w b l n3 ms' mt' lo' hi' W' := by
  have h1 := h.lt
  have h2 := h.ln
  obtain ⟨j, c⟩ := h.cd
  exact ⟨⟨j, c.keep o (fun g e => by injection e with e; omega)⟩, h.k2.of o (by simp; omega), k, gb_new h.g o (by omega), h.lt, h.ln⟩
theorem MdS.fin {w : World} {b : Nat} {l : List Nat} {n3 : Nat} {ms mt lo hi : Int} {W : World} (h : MdS w b l n3 ms mt lo hi W) : Bk (setC W w.heap.size 0 [.int .i64 ms, .int .i64 mt, .int .i64 lo, .int .i64 hi]) w.heap.size #[.int .i64 ms, .int .i64 mt, .int .i64 lo, .int .i64 hi] 43 ∧ (∃ j, CdAt (setC W w.heap.size 0 [.int .i64 ms, .int .i64 mt, .int .i64 lo, .int .i64 hi]) b l j) ∧ w.grownBy (setC W w.heap.size 0 [.int .i64 ms, .int .i64 mt, .int .i64 lo, .int .i64 hi]) (some b) := by
  have h1 := h.lt
  have o := setC_gb w.heap.size [.int .i64 ms, .int .i64 mt, .int .i64 lo, .int .i64 hi] W 0
  obtain ⟨j, c⟩ := h.cd
  exact ⟨h.k2.all _ rfl, ⟨j, c.keep o (fun g e => by injection e with e; omega)⟩, gb_new h.g o (Nat.le_refl _)⟩

set_option maxRecDepth 100000 in
set_option maxHeartbeats 8000000 in
theorem measured_any (b : Nat) (l : List Nat) (i : Nat) (w : World) (h : CdAt w b l i) :
    Calls Try.prog 31 #[.pointer (some ⟨b, 0, none⟩)] w fun e w' => ∃ ms mt lo hi : Int, e = .returned (msV ms mt lo hi) ∧ (ms = -1 ∨ (0 ≤ ms ∧ ms < 3)) ∧ (0 ≤ mt ∧ mt < 200) ∧ ((lo, hi) = nothingSp ∨ ((-30 ≤ lo ∧ lo ≤ 90) ∧ lo ≤ hi ∧ hi < lo + 40)) ∧ (∃ j, CdAt w' b l j) ∧ w.grownBy w' (some b) := by
  have hlt := h.lt
  have h1 : CdAt (w.alloc (.cells #[.int .i64 0, .int .i64 0, .int .i64 0, .int .i64 0] 43)) b l i := h.of_block fun k hk => Below.heap_alloc w _ k hk
  have K2 := Lib.hid (Bk.new w #[.int .i64 0, .int .i64 0, .int .i64 0, .int .i64 0] 43)
  have G2 := Lib.hid (gb_alloc (gb_refl w (some b)) (.cells #[.int .i64 0, .int .i64 0, .int .i64 0, .int .i64 0] 43))
  have H1 := Lib.hid h1
  obtain ⟨na, nb, hno⟩ : ∃ a b, nothingSp = (a, b) := ⟨_, _, rfl⟩
  have RN := Lib.hid (fun w => nothing_any w)
  rw [hno] at RN ⊢
  dsimp only at RN
  clear h h1 hno
  unfold msV
  go_enter Try.func31, Try.ntmps31
  go_upto_region 1 with fail
  generalize w.alloc _ = W1 at *
  go_wp2_with fail
  refine (next_ex b l i 3 _ H1.out (by omega) (by omega)).mono ?_
  rintro e w2 ⟨ms, j1, rfl, a1, b1, c1, ho⟩
  have K2' := Lib.hid (K2.out.of (gb_only ho) (by simp; omega))
  have G2' := Lib.hid (gb_same G2.out (gb_only ho))
  clear H1 ho K2 G2
  go_wp2_with fail
  refine (next_ex b l j1 200 _ c1 (by omega) (by omega)).mono ?_
  rintro e w3 ⟨mt, j2, rfl, a2, b2, c2, ho⟩
  have K2 := Lib.hid (K2'.out.of (gb_only ho) (by simp; omega))
  have G2 := Lib.hid (gb_same G2'.out (gb_only ho))
  clear c1 ho K2' G2'
  go_wp2_with fail
  refine (range_ex b l j2 (-30) 90 _ c2 (by omega) (by omega) (by omega)).mono ?_
  rintro e w4 ⟨lo, j3, rfl, a3, b3, c3, ho⟩
  have K4 := K2.out.of (gb_only ho) (by simp; omega)
  have G4 := gb_same G2.out (gb_only ho)
  have o5 := gb_alloc (gb_refl w4 none) (.cells #[.int .i64 ms, .int .i64 mt, .int .i64 lo, .int .i64 0] 43)
  have HS5 := Lib.hid (⟨⟨j3, c3.keep o5 (fun g e => by cases e)⟩, K4.of o5 (by simp), Bk.new w4 _ _, gb_none G4 o5, hlt, K4.lt⟩ : MdS w b l w4.heap.size ms mt lo 0 (w4.alloc (.cells #[.int .i64 ms, .int .i64 mt, .int .i64 lo, .int .i64 0] 43)))
  clear c2 c3 ho K2 G2 K4 G4 o5
  go_upto_region 2 with fail
  generalize w4.alloc _ = W5 at *
  generalize w4.heap.size = n3 at *
  have hS0 : W5.drew.cell? ⟨n3, 2, none⟩ = some (.int .i64 lo) ∧ ∃ hi, MdS w b l n3 ms mt lo hi W5.drew := ⟨(HS5.out.by_ (gb_drew (gb_refl W5 none))).k3.cell 2, 0, HS5.out.by_ (gb_drew (gb_refl W5 none))⟩
  have HS6 := Lib.hid (HS5.out.by_ (gb_drew (gb_refl W5 none)))
  obtain ⟨j5, c5⟩ := HS6.out.cd
  have HNX := Lib.hid (next_ex b l j5 40 _ c5 (by omega) (by omega))
  clear HS5 c5
  refine wp_region_held_drew (S := (fun w' => w'.cell? ⟨n3, 2, none⟩ = some (.int .i64 lo) ∧ ∃ hi, MdS w b l n3 ms mt lo hi w')) (by kernel_rfl) ?_ (fun hHeld => ?_)
  · exact hS0
  refine wpAnyH_take (i := 0) (oi := _) (v := ?_) rfl (by kernel_rfl) (by kernel_rfl) (by kernel_rfl) (fun _ _ _ h => h) (Or.inl ⟨by rfl, ?_⟩) (by assumption) ?_
  rotate_left 1
  · intro w hSw; (try dsimp only at hSw); go_simp; try (with_reducible rfl)
  try simp only [Act.put, List.getElem_toArray, List.getElem_cons_zero, List.setIfInBounds_toArray, List.set_cons_zero, List.set_cons_succ]
  refine wpAnyH_take (i := 1) (oi := _) (v := ?_) rfl (by kernel_rfl) (by kernel_rfl) (by kernel_rfl) (fun _ _ _ h => h) (Or.inl ⟨by rfl, ?_⟩) (by assumption) ?_
  rotate_left 1
  · intro w hSw; (try dsimp only at hSw); go_simp; try (with_reducible rfl)
  try simp only [Act.put, List.getElem_toArray, List.getElem_cons_zero, List.getElem_cons_succ, List.setIfInBounds_toArray, List.set_cons_zero, List.set_cons_succ]
  refine wpAnyH_take (i := 2) (oi := _) (v := ?_) rfl (by kernel_rfl) (by kernel_rfl) (by kernel_rfl) (fun _ _ _ h => h) (Or.inl ⟨by rfl, ?_⟩) (by assumption) ?_
  rotate_left 1
  · intro w hSw; (try dsimp only at hSw); go_simp; try (with_reducible rfl)
  try simp only [Act.put, List.getElem_toArray, List.getElem_cons_zero, List.getElem_cons_succ, List.setIfInBounds_toArray, List.set_cons_zero, List.set_cons_succ]
  refine wpAnyH_take (i := 3) (oi := _) (v := ?_) rfl (by kernel_rfl) (by kernel_rfl) (by kernel_rfl) (fun _ _ _ h => h) (Or.inl ⟨by rfl, ?_⟩) (by assumption) ?_
  rotate_left 1
  · intro w hSw; (try dsimp only at hSw); go_simp; try (with_reducible rfl)
  try simp only [Act.put, List.getElem_toArray, List.getElem_cons_zero, List.getElem_cons_succ, List.setIfInBounds_toArray, List.set_cons_zero, List.set_cons_succ]
  refine wpAnyH_ready (rs := [4]) (by kernel_rfl) (by simp) ?_
  refine AllReadyH.cons (o := _) rfl (fun K hK => ?_) AllReadyH.nil
  go_simp
  refine HNX.out.mono ?_
  rintro e w6 ⟨v, j6, rfl, a4, b4, c6, ho⟩
  have HS7 := Lib.hid (HS6.out.draw c6 (gb_only ho))
  have hS6 : w6.cell? ⟨n3, 2, none⟩ = some (.int .i64 lo) ∧ ∃ hi, MdS w b l n3 ms mt lo hi w6 := ⟨HS7.out.k3.cell 2, 0, HS7.out⟩
  obtain ⟨hi, hhi⟩ : ∃ hi, lo + v = hi := ⟨_, rfl⟩
  have u1 : IntKind.i64.wrap (lo + v) = hi := by rw [hhi]; exact IntWalk.i64_in hi (by omega)
  have u2 : wrap64 (lo + v) = hi := by rw [hhi]; exact IntWalk.wrap64_in hi (by omega)
  have HHI := Lib.hid hhi
  clear hhi
  have k7c := HS7.out.k3.cell
  have k7f := HS7.out.k3.frozen
  have HS8 := Lib.hid (HS7.out.put (gb_set (gb_refl w6 (some n3)) ⟨n3, 3, none⟩ (.inl rfl) (.int .i64 hi)) (HS7.out.k3.set 3 (.int .i64 hi)))
  have hT6 : (w6.setCell ⟨n3, 3, none⟩ (.int .i64 hi)).cell? ⟨n3, 2, none⟩ = some (.int .i64 lo) ∧ ∃ q, MdS w b l n3 ms mt lo q (w6.setCell ⟨n3, 3, none⟩ (.int .i64 hi)) := ⟨HS8.out.k3.cell 2, hi, HS8.out⟩
  clear c6 ho HNX HS6
  go_wp2_with fail
  refine hK.out _ _ ?_ (fun hHeld2 => ?_)
  · first | exact hS6 | exact hT6
  clear hK K hHeld
  have hHeld := hHeld2
  clear hHeld2
  try simp only [Act.put, List.getElem_toArray, List.getElem_cons_zero, List.getElem_cons_succ, List.setIfInBounds_toArray, List.set_cons_zero, List.set_cons_succ]
  refine wpAnyH_take (i := 5) (oi := _) (v := ?_) rfl (by kernel_rfl) (by kernel_rfl) (by kernel_rfl) (fun _ _ _ h => h) (Or.inl ⟨by rfl, ?_⟩) (by assumption) ?_
  rotate_left 1
  · intro w hSw; (try dsimp only at hSw); go_simp; try (with_reducible rfl)
  try simp only [Act.put, List.getElem_toArray, List.getElem_cons_zero, List.getElem_cons_succ, List.setIfInBounds_toArray, List.set_cons_zero, List.set_cons_succ]
  refine wpAnyH_take (i := 6) (oi := _) (v := ?_) rfl (by kernel_rfl) (by kernel_rfl) (by kernel_rfl) (fun _ _ _ h => h) (Or.inl ⟨by rfl, ?_⟩) (by assumption) ?_
  rotate_left 1
  · intro w hSw; (try dsimp only at hSw); go_simp; try (with_reducible rfl)
  try simp only [Act.put, List.getElem_toArray, List.getElem_cons_zero, List.getElem_cons_succ, List.setIfInBounds_toArray, List.set_cons_zero, List.set_cons_succ]
  refine wpAnyH_take (i := 7) (oi := _) (v := ?_) rfl (by kernel_rfl) (by kernel_rfl) (by kernel_rfl) (fun _ _ _ h => h) (Or.inl ⟨by rfl, ?_⟩) (by assumption) ?_
  rotate_left 1
  · intro w hSw; (try dsimp only at hSw); go_simp; try (with_reducible rfl)
  try simp only [Act.put, List.getElem_toArray, List.getElem_cons_zero, List.getElem_cons_succ, List.setIfInBounds_toArray, List.set_cons_zero, List.set_cons_succ]
  refine wpAnyH_ready (rs := [8]) (by kernel_rfl) (by simp) ?_
  refine AllReadyH.cons (o := _) rfl (fun K hK => ?_) AllReadyH.nil
  go_simp
  have hS6 := hT6
  refine hK.out _ _ ?_ (fun hHeld2 => ?_)
  · first | exact hS6 | exact hT6
  clear hK K hHeld
  have hHeld := hHeld2
  clear hHeld2
  try simp only [Act.put, List.getElem_toArray, List.getElem_cons_zero, List.getElem_cons_succ, List.setIfInBounds_toArray, List.set_cons_zero, List.set_cons_succ]
  refine wpAnyH_done (by kernel_rfl) ?_ _
  clear k7c k7f HS7 hS0 hHeld hT6 u1 u2
  have HS9 := HS8
  clear HS8
  generalize w6.setCell ⟨n3, 3, none⟩ _ = W9 at *
  obtain ⟨j9, c9⟩ := HS9.out.cd
  go_wp2_with fail
  refine (one_any b l j9 8 _ c9 (by omega) (by omega)).mono ?_
  rintro e W10 ⟨bo, j10, rfl, c10, ho⟩
  have HS10 := Lib.hid (HS9.out.draw c10 (gb_only ho))
  clear c9 ho HS9
  cases bo with
  | true =>
    go_wp2_with fail
    refine (RN.out _).mono ?_
    rintro e W11 ⟨rfl, hg⟩
    have HS10b := Lib.hid (HS10.out.by_ hg)
    clear hg HS10 c10
    have k3c := HS10b.out.k3.cell
    have k3f := HS10b.out.k3.frozen
    have HS11 := Lib.hid (HS10b.out.put (gb_set (gb_set (gb_refl W11 (some n3)) ⟨n3, 2, none⟩ (.inl rfl) (.int .i64 na)) ⟨n3, 3, none⟩ (.inl rfl) (.int .i64 nb)) ((HS10b.out.k3.set 2 (.int .i64 na)).set 3 (.int .i64 nb)))
    clear HS10b
    go_upto_region 5 with fail
    clear k3c k3f
    generalize World.setCell _ ⟨n3, 3, none⟩ _ = W11b at *
    obtain ⟨j11, c11⟩ := HS11.out.cd
    go_wp2_with fail
    refine (one_any b l j11 12 _ c11 (by omega) (by omega)).mono ?_
    rintro e W12 ⟨bo2, j12, rfl, c12, ho⟩
    have HS12 := Lib.hid (HS11.out.draw c12 (gb_only ho))
    clear c11 c12 ho HS11
    cases bo2 with
    | true =>
      have k3c := HS12.out.k3.cell
      have k3f := HS12.out.k3.frozen
      have HS13 := Lib.hid (HS12.out.put (gb_set (gb_refl W12 (some n3)) ⟨n3, 0, none⟩ (.inl rfl) (.int .i64 (-1))) (HS12.out.k3.set 0 (.int .i64 (-1))))
      clear HS12
      go_upto_region 7 with fail
      clear k3c k3f
      generalize World.setCell _ ⟨n3, 0, none⟩ _ = W13 at *
      have k2c := HS13.out.k2.cell
      have k2f := HS13.out.k2.frozen
      have k3c := HS13.out.k3.cell
      have F := HS13.out.fin
      simp only [setC] at F
      have HF9 := Lib.hid F
      clear F
      go_wp2_with fail
      clear k2c k2f k3c
      generalize World.setCell _ ⟨w.heap.size, 3, none⟩ _ = W19 at *
      have f9c := HF9.out.1.cell
      refine bodyPost_ret (v := .agg #[.int .i64 (-1), .int .i64 mt, .int .i64 na, .int .i64 nb]) (by simp [results, Try.results31, go_sem, f9c]) rfl ?_
      exact ⟨((-1)), mt, na, nb, rfl, .inl rfl, ⟨a2, b2⟩, .inl rfl, HF9.out.2.1, HF9.out.2.2⟩
    | false =>
      have k2c := HS12.out.k2.cell
      have k2f := HS12.out.k2.frozen
      have k3c := HS12.out.k3.cell
      have F := HS12.out.fin
      simp only [setC] at F
      have HF9 := Lib.hid F
      clear F
      go_wp2_with fail
      clear k2c k2f k3c
      generalize World.setCell _ ⟨w.heap.size, 3, none⟩ _ = W19 at *
      have f9c := HF9.out.1.cell
      refine bodyPost_ret (v := .agg #[.int .i64 ms, .int .i64 mt, .int .i64 na, .int .i64 nb]) (by simp [results, Try.results31, go_sem, f9c]) rfl ?_
      exact ⟨(ms), mt, na, nb, rfl, .inr ⟨a1, b1⟩, ⟨a2, b2⟩, .inl rfl, HF9.out.2.1, HF9.out.2.2⟩
  | false =>
    clear c10
    obtain ⟨j11, c11⟩ := HS10.out.cd
    go_wp2_with fail
    refine (one_any b l j11 12 _ c11 (by omega) (by omega)).mono ?_
    rintro e W12 ⟨bo2, j12, rfl, c12, ho⟩
    have HS12 := Lib.hid (HS10.out.draw c12 (gb_only ho))
    clear c11 c12 ho HS10
    cases bo2 with
    | true =>
      have k3c := HS12.out.k3.cell
      have k3f := HS12.out.k3.frozen
      have HS13 := Lib.hid (HS12.out.put (gb_set (gb_refl W12 (some n3)) ⟨n3, 0, none⟩ (.inl rfl) (.int .i64 (-1))) (HS12.out.k3.set 0 (.int .i64 (-1))))
      clear HS12
      go_upto_region 7 with fail
      clear k3c k3f
      generalize World.setCell _ ⟨n3, 0, none⟩ _ = W13 at *
      have k2c := HS13.out.k2.cell
      have k2f := HS13.out.k2.frozen
      have k3c := HS13.out.k3.cell
      have F := HS13.out.fin
      simp only [setC] at F
      have HF9 := Lib.hid F
      clear F
      go_wp2_with fail
      clear k2c k2f k3c
      generalize World.setCell _ ⟨w.heap.size, 3, none⟩ _ = W19 at *
      have f9c := HF9.out.1.cell
      refine bodyPost_ret (v := .agg #[.int .i64 (-1), .int .i64 mt, .int .i64 lo, .int .i64 hi]) (by simp [results, Try.results31, go_sem, f9c]) rfl ?_
      exact ⟨((-1)), mt, lo, hi, rfl, .inl rfl, ⟨a2, b2⟩, .inr ⟨⟨a3, b3⟩, by have := HHI.out; omega, by have := HHI.out; omega⟩, HF9.out.2.1, HF9.out.2.2⟩
    | false =>
      have k2c := HS12.out.k2.cell
      have k2f := HS12.out.k2.frozen
      have k3c := HS12.out.k3.cell
      have F := HS12.out.fin
      simp only [setC] at F
      have HF9 := Lib.hid F
      clear F
      go_wp2_with fail
      clear k2c k2f k3c
      generalize World.setCell _ ⟨w.heap.size, 3, none⟩ _ = W19 at *
      have f9c := HF9.out.1.cell
      refine bodyPost_ret (v := .agg #[.int .i64 ms, .int .i64 mt, .int .i64 lo, .int .i64 hi]) (by simp [results, Try.results31, go_sem, f9c]) rfl ?_
      exact ⟨(ms), mt, lo, hi, rfl, .inr ⟨a1, b1⟩, ⟨a2, b2⟩, .inr ⟨⟨a3, b3⟩, by have := HHI.out; omega, by have := HHI.out; omega⟩, HF9.out.2.1, HF9.out.2.2⟩
end Go.Proofs.Ytackckljldpldaa
