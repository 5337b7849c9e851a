/- Stage 6, the program's Until, whole. -/
import Derived.Test.YtackckljldpldaaUn
import Derived.Laws.EntriesVeiled
namespace Go.Proofs.Ytackckljldpldaa
open Go.RowKit
attribute [local go_sem ↓] Go.wp_at_zero Go.wp_at_succ loadAt_s

/-- What is known while Until runs. -/
structure UnS (w : World) (s : Sn) (ms mt lo hi v : Int) (W : World) : Prop where
  s0 : SnAt W w.heap.size 0 s
  m1 : MsAt W (w.heap.size + 1) ms mt lo hi
  cv : W.cell? ⟨w.heap.size + 1 + 1, 0, none⟩ = some (.int .i64 v)
  g : w.grownBy W none
theorem UnS.by_ {w : World} {s : Sn} {ms mt lo hi v : Int} {W W' : World} (h : UnS w s ms mt lo hi v W) (o : W.grownBy W' none) : UnS w s ms mt lo hi v W' := ⟨h.s0.by_ o, h.m1.by_ o, cell_by h.cv o, gb_none h.g o⟩
theorem unS_new (w : World) (s : Sn) (ms mt lo hi v : Int) : UnS w s ms mt lo hi v (((w.alloc (.cells (senL s).toArray 24)).alloc (.cells #[.int .i64 ms, .int .i64 mt, .int .i64 lo, .int .i64 hi] 43)).alloc (.cells #[.int .i64 v] 3)) := by
  have k1 := Bk.new (w.alloc (.cells (senL s).toArray 24)) #[.int .i64 ms, .int .i64 mt, .int .i64 lo, .int .i64 hi] 43
  rw [World.size_alloc] at k1
  have k2 := Bk.new ((w.alloc (.cells (senL s).toArray 24)).alloc (.cells #[.int .i64 ms, .int .i64 mt, .int .i64 lo, .int .i64 hi] 43)) #[.int .i64 v] 3
  rw [World.size_alloc, World.size_alloc] at k2
  have k1' := k1.of (gb_alloc (gb_refl _ none) (.cells #[.int .i64 v] 3)) (by simp)
  exact ⟨((Bk.snAt (Bk.new w _ _)).by_ (gb_alloc (gb_refl _ none) _)).by_ (gb_alloc (gb_refl _ none) _), ⟨k1'.cell 0, k1'.cell 1, k1'.cell 2, k1'.cell 3⟩, k2.cell 0, gb_alloc (gb_alloc (gb_alloc (gb_refl _ _) _) _) _⟩
def lessF (bs bm bv : Nat) : Value := .func (.func 61) #[] #[.pointer (some ⟨bs, 0, none⟩), .pointer (some ⟨bm, 0, none⟩), .pointer (some ⟨bv, 0, none⟩)]

set_option maxRecDepth 100000 in
set_option maxHeartbeats 4000000 in
theorem until2_any (bl bs bm bv : Nat) (s : Sn) (ms mt lo hi v : Int) (i : Nat) (W : World) (hl : W.cell? ⟨bl, 0, none⟩ = some (lessF bs bm bv)) (hs : SnAt W bs 0 s) (hm : MsAt W bm ms mt lo hi) (hv : W.cell? ⟨bv, 0, none⟩ = some (.int .i64 v))
    (h1 : -4503599627370496 ≤ lo ∧ lo ≤ 4503599627370496) (h2 : -4503599627370496 ≤ hi ∧ hi ≤ 4503599627370496) (h3 : -549755813888 ≤ mt ∧ mt ≤ 549755813888) (h4 : i < 549755813888) :
    Calls Try.prog 62 #[.int .i64 i, .pointer (some ⟨bl, 0, none⟩)] W fun e w' => e = .returned (.bool (!lessP s ms mt lo hi v ((i : Int) + 1))) ∧ W.grownBy w' none := by
  have HL := Lib.hid (less_any bs bm bv s ms mt lo hi v ((i : Int) + 1) W hs hm hv h1 h2 h3 (by omega))
  obtain ⟨r, hr⟩ : ∃ r, lessP s ms mt lo hi v ((i : Int) + 1) = r := ⟨_, rfl⟩
  rw [hr] at HL ⊢
  unfold lessF at hl
  have hw : wrap64 ((i : Int) + 1) = (i : Int) + 1 := IntWalk.wrap64_in _ (by omega)
  clear hr hs hm hv h1 h2 h3
  go_enter Try.func62, Try.ntmps62
  go_wp2_with fail
  with_reducible refine HL.out.mono ?_
  rintro e W2 ⟨rfl, hg⟩
  go_wp2_with fail
  go_ret
  exact ⟨by first | rfl | simp, hg⟩
/-- What Until returns. -/
def UntR (s : Sn) (ms mt lo hi v : Int) (n : Nat) (u : Int) : Prop :=
  (lessP s ms mt lo hi v 0 = false ∧ u = -1) ∨ (lessP s ms mt lo hi v 0 = true ∧ ∃ r : Nat, u = mt + r ∧ r ≤ n ∧ (∀ t : Nat, t < r → lessP s ms mt lo hi v ((t : Int) + 1) = true) ∧ (∀ t : Nat, r ≤ t → t < n → lessP s ms mt lo hi v ((t : Int) + 1) = false))

set_option maxRecDepth 100000 in
set_option maxHeartbeats 16000000 in
theorem pUntil_any (s : Sn) (ms mt lo hi v : Int) (n : Nat) (w : World) (hn : s.life = n) (hn2 : n ≤ 1000000)
    (h1 : -4503599627370496 ≤ lo ∧ lo ≤ 4503599627370496) (h2 : -4503599627370496 ≤ hi ∧ hi ≤ 4503599627370496) (h3 : -549755813888 ≤ mt ∧ mt ≤ 549755813888)
    (hmono : ∀ a b : Nat, a ≤ b → lessP s ms mt lo hi v ((b : Int) + 1) = true → lessP s ms mt lo hi v ((a : Int) + 1) = true) :
    Calls Try.prog 42 #[snV s, msV ms mt lo hi, .int .i64 v] w fun e w' => (∃ u, e = .returned (.int .i64 u) ∧ UntR s ms mt lo hi v n u) ∧ w.grownBy w' none := by
  have HS1 := Lib.hid (unS_new w s ms mt lo hi v)
  have HM := Lib.hid hmono
  have HB := Lib.hid (And.intro h1 (And.intro h2 h3))
  have HN := Lib.hid (And.intro hn hn2)
  clear hmono h1 h2 h3 hn hn2
  unfold snV msV
  unfold senL at HS1 ⊢
  go_enter Try.func42, Try.ntmps42
  go_upto_region 1 with fail
  generalize ((w.alloc _).alloc _).alloc _ = W1 at *
  have g2 := gb_alloc (gb_refl W1 none) (.cells #[lessF w.heap.size (w.heap.size + 1) (w.heap.size + 1 + 1)] 60)
  have HS2 := Lib.hid (HS1.out.by_ g2)
  have HF2 := Lib.hid (Bk.new W1 #[lessF w.heap.size (w.heap.size + 1) (w.heap.size + 1 + 1)] 60)
  clear g2 HS1
  unfold lessF at HS2 HF2
  go_upto_region 2 with fail
  generalize W1.alloc _ = W2 at *
  generalize W1.heap.size = bl at *
  have f2 : W2.cell? ⟨bl, 0, none⟩ = some (.func (.func 61) #[] #[.pointer (some ⟨w.heap.size, 0, none⟩), .pointer (some ⟨w.heap.size + 1, 0, none⟩), .pointer (some ⟨w.heap.size + 1 + 1, 0, none⟩)]) := HF2.out.cell 0
  have HL := Lib.hid (less_any w.heap.size (w.heap.size + 1) (w.heap.size + 1 + 1) s ms mt lo hi v 0 W2 HS2.out.s0 HS2.out.m1 HS2.out.cv HB.out.1 HB.out.2.1 HB.out.2.2 (by omega))
  obtain ⟨l0, hl0⟩ : ∃ l0, lessP s ms mt lo hi v 0 = l0 := ⟨_, rfl⟩
  rw [hl0] at HL
  have HL0 := Lib.hid hl0
  clear hl0
  go_wp2_with fail
  refine HL.out.mono ?_
  rintro e W3 ⟨rfl, hg3⟩
  have HS3 := Lib.hid (HS2.out.by_ hg3)
  have HF3 := Lib.hid (HF2.out.of hg3 (by simp))
  clear HS2 HF2 HL f2 hg3
  cases l0 with
  | false =>
    go_wp2_with fail
    go_ret
    exact ⟨⟨-1, rfl, .inl ⟨HL0.out, rfl⟩⟩, HS3.out.g⟩
  | true =>
    go_upto_region 4 with fail
    have gd := gb_drew (gb_refl W3 none)
    have HS4 := Lib.hid (HS3.out.by_ gd)
    have HF4 := Lib.hid (HF3.out.of gd (by simp))
    clear gd HS3 HF3
    have HSR := Lib.hid (search_any 62 #[.pointer (some ⟨bl, 0, none⟩)] n (fun i => !lessP s ms mt lo hi v ((i : Int) + 1)) W3.drew (fun _ _ => rfl) (by have := HN.out.2; omega)
      (fun i W hi' hW => until2_any bl w.heap.size (w.heap.size + 1) (w.heap.size + 1 + 1) s ms mt lo hi v i W (cell_by (HF4.out.cell 0) hW) (HS4.out.s0.by_ hW) (HS4.out.m1.by_ hW) (cell_by HS4.out.cv hW) HB.out.1 HB.out.2.1 HB.out.2.2 (by have := HN.out.2; omega))
      (fun a b hab _ hp => by
        cases h : lessP s ms mt lo hi v ((b : Int) + 1) with
        | false => rfl
        | true => have := HM.out a b hab h; simp [this] at hp))
    have hS0 : W3.drew.cell? ⟨w.heap.size + 1, 1, none⟩ = some (.int .i64 mt) ∧ W3.drew.cell? ⟨w.heap.size, 7, none⟩ = some (.int .i64 n) ∧ UnS w s ms mt lo hi v W3.drew :=
      ⟨HS4.out.m1.2.1, by rw [← HN.out.1]; exact HS4.out.s0.2.2.2.2.2.2.2, HS4.out⟩
    clear HS4 HF4
    refine wp_region_held_drew (S := (fun w' => w'.cell? ⟨w.heap.size + 1, 1, none⟩ = some (.int .i64 mt) ∧ w'.cell? ⟨w.heap.size, 7, none⟩ = some (.int .i64 n) ∧ UnS w s ms mt lo hi v w')) (by kernel_rfl) ?_ (fun hHeld => ?_)
    · exact hS0
    refine wpAnyH_take (i := 0) (oi := _) (v := ?_) rfl (by kernel_rfl) (by kernel_rfl) (by kernel_rfl) (fun _ _ _ h => h) (Or.inl ⟨by rfl, ?_⟩) (by assumption) ?_
    rotate_left 1
    · intro w hSw; (try dsimp only at hSw); go_simp; try (with_reducible rfl)
    try simp only [Act.put, List.getElem_toArray, List.getElem_cons_zero, List.setIfInBounds_toArray, List.set_cons_zero, List.set_cons_succ]
    refine wpAnyH_take (i := 1) (oi := _) (v := ?_) rfl (by kernel_rfl) (by kernel_rfl) (by kernel_rfl) (fun _ _ _ h => h) (Or.inl ⟨by rfl, ?_⟩) (by assumption) ?_
    rotate_left 1
    · intro w hSw; (try dsimp only at hSw); go_simp; try (with_reducible rfl)
    try simp only [Act.put, List.getElem_toArray, List.getElem_cons_zero, List.getElem_cons_succ, List.setIfInBounds_toArray, List.set_cons_zero, List.set_cons_succ]
    refine wpAnyH_take (i := 2) (oi := _) (v := ?_) rfl (by kernel_rfl) (by kernel_rfl) (by kernel_rfl) (fun _ _ _ h => h) (Or.inl ⟨by rfl, ?_⟩) (by assumption) ?_
    rotate_left 1
    · intro w hSw; (try dsimp only at hSw); go_simp; try (with_reducible rfl)
    try simp only [Act.put, List.getElem_toArray, List.getElem_cons_zero, List.getElem_cons_succ, List.setIfInBounds_toArray, List.set_cons_zero, List.set_cons_succ]
    refine wpAnyH_take (i := 3) (oi := _) (v := ?_) rfl (by kernel_rfl) (by kernel_rfl) (by kernel_rfl) (fun _ _ _ h => h) (Or.inl ⟨by rfl, ?_⟩) (by assumption) ?_
    rotate_left 1
    · intro w hSw; (try dsimp only at hSw); go_simp; try (with_reducible rfl)
    try simp only [Act.put, List.getElem_toArray, List.getElem_cons_zero, List.getElem_cons_succ, List.setIfInBounds_toArray, List.set_cons_zero, List.set_cons_succ]
    refine wpAnyH_take (i := 4) (oi := _) (v := ?_) rfl (by kernel_rfl) (by kernel_rfl) (by kernel_rfl) (fun _ _ _ h => h) (Or.inl ⟨by rfl, ?_⟩) (by assumption) ?_
    rotate_left 1
    · intro w hSw; (try dsimp only at hSw); go_simp; try (with_reducible rfl)
    try simp only [Act.put, List.getElem_toArray, List.getElem_cons_zero, List.getElem_cons_succ, List.setIfInBounds_toArray, List.set_cons_zero, List.set_cons_succ]
    refine wpAnyH_ready (rs := [5]) (by kernel_rfl) (by simp) ?_
    refine AllReadyH.cons (o := _) rfl (fun K hK => ?_) AllReadyH.nil
    go_simp
    refine HSR.out.mono ?_
    rintro e w6 ⟨⟨r, rfl, hrn, hr1, hr2⟩, hg6⟩
    have HR := Lib.hid (And.intro hr1 hr2)
    have hS6 := And.intro (cell_by hHeld.1 hg6) (And.intro (cell_by hHeld.2.1 hg6) (UnS.by_ hHeld.2.2 hg6))
    clear hg6 hr1 hr2 HSR
    go_wp2_with fail
    refine hK.out _ _ ?_ (fun hHeld2 => ?_)
    · exact hS6
    clear hK K hHeld
    have hHeld := hHeld2
    clear hHeld2
    try simp only [Act.put, List.getElem_toArray, List.getElem_cons_zero, List.getElem_cons_succ, List.setIfInBounds_toArray, List.set_cons_zero, List.set_cons_succ]
    refine wpAnyH_take (i := 6) (oi := _) (v := ?_) rfl (by kernel_rfl) (by kernel_rfl) (by kernel_rfl) (fun _ _ _ h => h) (Or.inl ⟨by rfl, ?_⟩) (by assumption) ?_
    rotate_left 1
    · intro w hSw; (try dsimp only at hSw); go_simp; try (with_reducible rfl)
    try simp only [Act.put, List.getElem_toArray, List.getElem_cons_zero, List.getElem_cons_succ, List.setIfInBounds_toArray, List.set_cons_zero, List.set_cons_succ]
    refine wpAnyH_take (i := 7) (oi := _) (v := ?_) rfl (by kernel_rfl) (by kernel_rfl) (by kernel_rfl) (fun _ _ _ h => h) (Or.inl ⟨by rfl, ?_⟩) (by assumption) ?_
    rotate_left 1
    · intro w hSw; (try dsimp only at hSw); go_simp; try (with_reducible rfl)
    try simp only [Act.put, List.getElem_toArray, List.getElem_cons_zero, List.getElem_cons_succ, List.setIfInBounds_toArray, List.set_cons_zero, List.set_cons_succ]
    refine wpAnyH_done (by kernel_rfl) ?_ _
    go_wp2_with fail
    go_ret
    have hb := HB.out.2.2
    have hn := HN.out.2
    refine ⟨⟨mt + (r : Int), ?_, .inr ⟨HL0.out, r, rfl, hrn, fun t ht => by simpa using HR.out.1 t ht, fun t h1 h2 => by simpa using HR.out.2 t h1 h2⟩⟩, hS6.2.2.g⟩
    first | rfl | (rw [IntWalk.i64_in _ (by omega)]; rfl) | (rw [IntWalk.wrap64_in _ (by omega)]; rfl)
end Go.Proofs.Ytackckljldpldaa
