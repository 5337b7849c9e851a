/- Stage 6, the program's At. -/
import Derived.Test.YtackckljldpldaaDr
namespace Go.Proofs.Ytackckljldpldaa
open Go.RowKit
attribute [local go_sem ↓] Go.wp_at_zero Go.wp_at_succ loadAt_s

/-- What a measurement says at a time. -/
def atSn (s : Sn) (ms mt lo hi t : Int) : Int × Int :=
  if ckSn s ≠ 0 ∨ ms < 0 ∨ (lo, hi) = nothingSp then nothingSp
  else if t < mt ∨ s.life < t - mt then nothingSp
  else drSn s lo hi (t - mt)
/-- A measurement as a value. -/
def msV (ms mt lo hi : Int) : Value := .agg #[.int .i64 ms, .int .i64 mt, .int .i64 lo, .int .i64 hi]
/-- The sensor, the measurement, the result. -/
structure AtS (w : World) (s : Sn) (ms mt lo hi : Int) (W : World) : Prop where
  k0 : Bk W w.heap.size (senL s).toArray 24
  k1 : Bk W (w.heap.size + 1) #[.int .i64 ms, .int .i64 mt, .int .i64 lo, .int .i64 hi] 43
  k2 : Bk W (w.heap.size + 1 + 1) #[.int .i64 0, .int .i64 0] 29
  g : w.grownBy W none
theorem AtS.by_ {w : World} {s : Sn} {ms mt lo hi : Int} {W W' : World} (h : AtS w s ms mt lo hi W) (o : W.grownBy W' none) : AtS w s ms mt lo hi W' := ⟨h.k0.of o (by simp), h.k1.of o (by simp), h.k2.of o (by simp), gb_none h.g o⟩
theorem AtS.fin {w : World} {s : Sn} {ms mt lo hi : Int} {W : World} (h : AtS w s ms mt lo hi W) (x y : Int) : Bk (setC W (w.heap.size + 1 + 1) 0 [.int .i64 x, .int .i64 y]) (w.heap.size + 1 + 1) #[.int .i64 x, .int .i64 y] 29 ∧ w.grownBy (setC W (w.heap.size + 1 + 1) 0 [.int .i64 x, .int .i64 y]) none :=
  ⟨h.k2.all [.int .i64 x, .int .i64 y] rfl, gb_new h.g (setC_gb _ _ _ _) (by omega)⟩
theorem atS_new (w : World) (s : Sn) (ms mt lo hi : Int) : AtS w s ms mt lo hi (((w.alloc (.cells (senL s).toArray 24)).alloc (.cells #[.int .i64 ms, .int .i64 mt, .int .i64 lo, .int .i64 hi] 43)).alloc (.cells #[.int .i64 0, .int .i64 0] 29)) := by
  have k1 := Bk.new (w.alloc (.cells (senL s).toArray 24)) #[.int .i64 ms, .int .i64 mt, .int .i64 lo, .int .i64 hi] 43
  rw [World.size_alloc] at k1
  have k2 := Bk.new ((w.alloc (.cells (senL s).toArray 24)).alloc (.cells #[.int .i64 ms, .int .i64 mt, .int .i64 lo, .int .i64 hi] 43)) #[.int .i64 0, .int .i64 0] 29
  rw [World.size_alloc, World.size_alloc] at k2
  exact ⟨((Bk.new w _ _).of (gb_alloc (gb_refl _ none) _) (by simp)).of (gb_alloc (gb_refl _ none) _) (by simp), k1.of (gb_alloc (gb_refl _ none) _) (by simp), k2, gb_alloc (gb_alloc (gb_alloc (gb_refl _ _) _) _) _⟩
theorem AtS.all {w : World} {s : Sn} {ms mt lo hi : Int} {W : World} (h : AtS w s ms mt lo hi W) : (loadS (.pointer (some ⟨w.heap.size, 0, none⟩))).run Try.prog W = .ok (snV s) W ∧ W.cell? ⟨w.heap.size + 1, 0, none⟩ = some (.int .i64 ms) ∧ W.cell? ⟨w.heap.size + 1, 1, none⟩ = some (.int .i64 mt) ∧ W.cell? ⟨w.heap.size + 1, 2, none⟩ = some (.int .i64 lo) ∧ W.cell? ⟨w.heap.size + 1, 3, none⟩ = some (.int .i64 hi) ∧ W.cell? ⟨w.heap.size, 7, none⟩ = some (.int .i64 s.life) ∧ AtS w s ms mt lo hi W :=
  ⟨run_loadS (Bk.snAt h.k0), h.k1.cell 0, h.k1.cell 1, h.k1.cell 2, h.k1.cell 3, h.k0.cell 7, h⟩
theorem drifted_v (s : Sn) (lo hi later : Int) (w : World) (hd : 0 ≤ s.drift ∧ s.drift ≤ 1000000) (hl : 0 ≤ later ∧ later ≤ 1000000) (h1 : -4503599627370496 ≤ lo ∧ lo ≤ 4503599627370496) (h2 : -4503599627370496 ≤ hi ∧ hi ≤ 4503599627370496) :
    Calls Try.prog 59 #[snV s, .agg #[.int .i64 lo, .int .i64 hi], .int .i64 later] w fun e w' => e = .returned (.agg #[.int .i64 (drSn s lo hi later).1, .int .i64 (drSn s lo hi later).2]) ∧ w.grownBy w' none := drifted_any s lo hi later w hd hl h1 h2

set_option maxRecDepth 100000 in
set_option maxHeartbeats 16000000 in
theorem pAt_any (s : Sn) (ms mt lo hi t : Int) (w : World) (h1 : -4503599627370496 ≤ lo ∧ lo ≤ 4503599627370496) (h2 : -4503599627370496 ≤ hi ∧ hi ≤ 4503599627370496) (h3 : -1099511627776 ≤ mt ∧ mt ≤ 1099511627776) (h4 : -1099511627776 ≤ t ∧ t ≤ 1099511627776) :
    Calls Try.prog 33 #[snV s, msV ms mt lo hi, .int .i64 t] w fun e w' => e = .returned (spV (atSn s ms mt lo hi t)) ∧ w.grownBy w' none := by
  obtain ⟨v, hv⟩ : ∃ v, atSn s ms mt lo hi t = v := ⟨_, rfl⟩
  rw [hv]
  have HV := Lib.hid hv
  have HC := Lib.hid (fun w => pCk_w s w)
  have PN := Lib.hid (fun w => pnothing_any w)
  obtain ⟨na, nb, hno⟩ : ∃ a b, nothingSp = (a, b) := ⟨_, _, rfl⟩
  have HNO := Lib.hid hno
  rw [hno] at PN
  dsimp only at PN
  obtain ⟨ck, hck⟩ : ∃ ck, ckSn s = ck := ⟨_, rfl⟩
  rw [hck] at HC
  have HCK := Lib.hid hck
  obtain ⟨bad, hbad⟩ : ∃ bad : Bool, (decide (ck ≠ 0) || decide (ms < 0) || (decide (lo = na) && decide (hi = nb))) = bad := ⟨_, rfl⟩
  have HBAD := Lib.hid hbad.symm
  have HS1 := Lib.hid (atS_new w s ms mt lo hi)
  have HD := Lib.hid (fun hd hl w => drifted_v s lo hi (t - mt) w hd hl h1 h2)
  clear hv hno hck hbad h1 h2
  unfold snV msV spV
  unfold senL at HS1 ⊢
  go_enter Try.func33, Try.ntmps33
  go_upto_region 1 with fail
  generalize ((w.alloc _).alloc _).alloc _ = W1 at *
  go_cut [20] from 7 to 20 (fun q wx => q = .bool bad ∧ AtS w s ms mt lo hi wx)
  case first =>
    have hS0 := AtS.all (HS1.out.by_ (gb_drew (gb_refl W1 none)))
    clear HS1
    by_cases c1 : ck = 0
    · subst c1
      by_cases c2 : ms < 0
      · have c2' : decide (ms < 0) = true := by simpa using c2
        refine wp_region_held_drew (S := (fun w' => (loadS (.pointer (some ⟨w.heap.size, 0, none⟩))).run Try.prog w' = .ok (snV s) w' ∧ w'.cell? ⟨w.heap.size + 1, 0, none⟩ = some (.int .i64 ms) ∧ w'.cell? ⟨w.heap.size + 1, 1, none⟩ = some (.int .i64 mt) ∧ w'.cell? ⟨w.heap.size + 1, 2, none⟩ = some (.int .i64 lo) ∧ w'.cell? ⟨w.heap.size + 1, 3, none⟩ = some (.int .i64 hi) ∧ w'.cell? ⟨w.heap.size, 7, none⟩ = some (.int .i64 s.life) ∧ AtS w s ms mt lo hi w')) (by kernel_rfl) ?_ (fun hHeld => ?_)
        · exact hS0
        refine wpAnyH_take (i := 0) (oi := _) (v := ?_) rfl (by kernel_rfl) (by kernel_rfl) (by kernel_rfl) (fun _ _ _ h => h) (Or.inl ⟨by rfl, ?_⟩) (by assumption) ?_
        rotate_left 1
        · intro w hSw; (try dsimp only at hSw); go_simp; try (with_reducible rfl)
        try simp only [Act.put, List.getElem_toArray, List.getElem_cons_zero, List.setIfInBounds_toArray, List.set_cons_zero, List.set_cons_succ]
        refine wpAnyH_ready (rs := [1]) (by kernel_rfl) (by simp) ?_
        refine AllReadyH.cons (o := _) rfl (fun K hK => ?_) AllReadyH.nil
        go_simp
        refine (HC.out _).mono ?_
        rintro e w6 ⟨rfl, hg6⟩
        have hS6 := AtS.all (AtS.by_ hHeld.2.2.2.2.2.2 hg6)
        clear hg6
        go_wp2_with fail
        refine hK.out _ _ ?_ (fun hHeld2 => ?_)
        · exact hS6
        clear hK K hHeld
        have hHeld := hHeld2
        clear hHeld2
        try simp only [Act.put, List.getElem_toArray, List.getElem_cons_zero, List.getElem_cons_succ, List.setIfInBounds_toArray, List.set_cons_zero, List.set_cons_succ]
        refine wpAnyH_take (i := 2) (oi := _) (v := ?_) rfl (by kernel_rfl) (by kernel_rfl) (by kernel_rfl) (fun _ _ _ h => h) (Or.inl ⟨by rfl, ?_⟩) (by assumption) ?_
        rotate_left 1
        · intro w hSw; (try dsimp only at hSw); go_simp; try (with_reducible rfl)
        try simp only [Act.put, List.getElem_toArray, List.getElem_cons_zero, List.getElem_cons_succ, List.setIfInBounds_toArray, List.set_cons_zero, List.set_cons_succ]
        refine wpAnyH_take (i := 3) (oi := _) (v := ?_) rfl (by kernel_rfl) (by kernel_rfl) (by kernel_rfl) (fun _ _ _ h => h) (Or.inl ⟨by rfl, ?_⟩) (by assumption) ?_
        rotate_left 1
        · intro w hSw; (try dsimp only at hSw); go_simp; try (with_reducible rfl)
        try simp only [Act.put, List.getElem_toArray, List.getElem_cons_zero, List.getElem_cons_succ, List.setIfInBounds_toArray, List.set_cons_zero, List.set_cons_succ]
        refine wpAnyH_take (i := 4) (oi := _) (v := ?_) rfl (by kernel_rfl) (by kernel_rfl) (by kernel_rfl) (fun _ _ _ h => h) (Or.inl ⟨by rfl, ?_⟩) (by assumption) ?_
        rotate_left 1
        · intro w hSw; (try dsimp only at hSw); go_simp; try (with_reducible rfl)
        try simp only [Act.put, List.getElem_toArray, List.getElem_cons_zero, List.getElem_cons_succ, List.setIfInBounds_toArray, List.set_cons_zero, List.set_cons_succ]
        refine wpAnyH_take (i := 5) (oi := _) (v := ?_) rfl (by kernel_rfl) (by kernel_rfl) (by kernel_rfl) (fun _ _ _ h => h) (Or.inl ⟨by rfl, ?_⟩) (by assumption) ?_
        rotate_left 1
        · intro w hSw; (try dsimp only at hSw); go_simp; try (with_reducible rfl)
        try simp only [Act.put, List.getElem_toArray, List.getElem_cons_zero, List.getElem_cons_succ, List.setIfInBounds_toArray, List.set_cons_zero, List.set_cons_succ]
        refine wpAnyH_take (i := 6) (oi := _) (v := ?_) rfl (by kernel_rfl) (by kernel_rfl) (by kernel_rfl) (fun _ _ _ h => h) (Or.inl ⟨by rfl, ?_⟩) (by assumption) ?_
        rotate_left 1
        · intro w hSw; (try dsimp only at hSw); go_simp; try (with_reducible rfl)
        try simp only [Act.put, List.getElem_toArray, List.getElem_cons_zero, List.getElem_cons_succ, List.setIfInBounds_toArray, List.set_cons_zero, List.set_cons_succ]
        refine wpAnyH_take (i := 7) (oi := _) (v := ?_) rfl (by kernel_rfl) (by kernel_rfl) (by kernel_rfl) (fun _ _ _ h => h) (Or.inl ⟨by rfl, ?_⟩) (by assumption) ?_
        rotate_left 1
        · intro w hSw; (try dsimp only at hSw); go_simp; try (with_reducible rfl)
        try simp only [Act.put, List.getElem_toArray, List.getElem_cons_zero, List.getElem_cons_succ, List.setIfInBounds_toArray, List.set_cons_zero, List.set_cons_succ]
        refine wpAnyH_take (i := 8) (oi := _) (v := ?_) rfl (by kernel_rfl) (by kernel_rfl) (by kernel_rfl) (fun _ _ _ h => h) (Or.inl ⟨by rfl, ?_⟩) (by assumption) ?_
        rotate_left 1
        · intro w hSw; (try dsimp only at hSw); go_simp; try (with_reducible rfl)
        try simp only [Act.put, List.getElem_toArray, List.getElem_cons_zero, List.getElem_cons_succ, List.setIfInBounds_toArray, List.set_cons_zero, List.set_cons_succ]
        refine wpAnyH_take (i := 9) (oi := _) (v := undef) rfl (by kernel_rfl) (by kernel_rfl) (by kernel_rfl) (fun _ _ _ h => h) (Or.inr ⟨by rfl, rfl⟩) (by assumption) ?_
        try simp only [Act.put, List.getElem_toArray, List.getElem_cons_zero, List.getElem_cons_succ, List.setIfInBounds_toArray, List.set_cons_zero, List.set_cons_succ]
        refine wpAnyH_take (i := 10) (oi := _) (v := undef) rfl (by kernel_rfl) (by kernel_rfl) (by kernel_rfl) (fun _ _ _ h => h) (Or.inr ⟨by rfl, rfl⟩) (by assumption) ?_
        try simp only [Act.put, List.getElem_toArray, List.getElem_cons_zero, List.getElem_cons_succ, List.setIfInBounds_toArray, List.set_cons_zero, List.set_cons_succ]
        refine wpAnyH_take (i := 11) (oi := _) (v := undef) rfl (by kernel_rfl) (by kernel_rfl) (by kernel_rfl) (fun _ _ _ h => h) (Or.inr ⟨by rfl, rfl⟩) (by assumption) ?_
        try simp only [Act.put, List.getElem_toArray, List.getElem_cons_zero, List.getElem_cons_succ, List.setIfInBounds_toArray, List.set_cons_zero, List.set_cons_succ]
        refine wpAnyH_take (i := 12) (oi := _) (v := undef) rfl (by kernel_rfl) (by kernel_rfl) (by kernel_rfl) (fun _ _ _ h => h) (Or.inr ⟨by rfl, rfl⟩) (by assumption) ?_
        try simp only [Act.put, List.getElem_toArray, List.getElem_cons_zero, List.getElem_cons_succ, List.setIfInBounds_toArray, List.set_cons_zero, List.set_cons_succ]
        refine wpAnyH_take (i := 13) (oi := _) (v := ?_) rfl (by kernel_rfl) (by kernel_rfl) (by kernel_rfl) (fun _ _ _ h => h) (Or.inl ⟨by rfl, ?_⟩) (by assumption) ?_
        rotate_left 1
        · intro w hSw; (try dsimp only at hSw); go_simp; try (with_reducible rfl)
        try simp only [Act.put, List.getElem_toArray, List.getElem_cons_zero, List.getElem_cons_succ, List.setIfInBounds_toArray, List.set_cons_zero, List.set_cons_succ]
        refine wpAnyH_done (by kernel_rfl) ?_ _
        go_wp2_with fail
        go_meet
        exact ⟨by first | rfl | (rw [HBAD.out]; simp [*]), hS6.2.2.2.2.2.2⟩
      · have c2' : decide (ms < 0) = false := by simpa using c2
        by_cases c3 : lo = na
        · subst c3
          have c3' : (lo == lo) = true := by simp
          by_cases c4 : hi = nb
          · subst c4
            have c4' : (hi == hi) = true := by simp
            refine wp_region_held_drew (S := (fun w' => (loadS (.pointer (some ⟨w.heap.size, 0, none⟩))).run Try.prog w' = .ok (snV s) w' ∧ w'.cell? ⟨w.heap.size + 1, 0, none⟩ = some (.int .i64 ms) ∧ w'.cell? ⟨w.heap.size + 1, 1, none⟩ = some (.int .i64 mt) ∧ w'.cell? ⟨w.heap.size + 1, 2, none⟩ = some (.int .i64 lo) ∧ w'.cell? ⟨w.heap.size + 1, 3, none⟩ = some (.int .i64 hi) ∧ w'.cell? ⟨w.heap.size, 7, none⟩ = some (.int .i64 s.life) ∧ AtS w s ms mt lo hi w')) (by kernel_rfl) ?_ (fun hHeld => ?_)
            · exact hS0
            refine wpAnyH_take (i := 0) (oi := _) (v := ?_) rfl (by kernel_rfl) (by kernel_rfl) (by kernel_rfl) (fun _ _ _ h => h) (Or.inl ⟨by rfl, ?_⟩) (by assumption) ?_
            rotate_left 1
            · intro w hSw; (try dsimp only at hSw); go_simp; try (with_reducible rfl)
            try simp only [Act.put, List.getElem_toArray, List.getElem_cons_zero, List.setIfInBounds_toArray, List.set_cons_zero, List.set_cons_succ]
            refine wpAnyH_ready (rs := [1]) (by kernel_rfl) (by simp) ?_
            refine AllReadyH.cons (o := _) rfl (fun K hK => ?_) AllReadyH.nil
            go_simp
            refine (HC.out _).mono ?_
            rintro e w6 ⟨rfl, hg6⟩
            have hS6 := AtS.all (AtS.by_ hHeld.2.2.2.2.2.2 hg6)
            clear hg6
            go_wp2_with fail
            refine hK.out _ _ ?_ (fun hHeld2 => ?_)
            · exact hS6
            clear hK K hHeld
            have hHeld := hHeld2
            clear hHeld2
            try simp only [Act.put, List.getElem_toArray, List.getElem_cons_zero, List.getElem_cons_succ, List.setIfInBounds_toArray, List.set_cons_zero, List.set_cons_succ]
            refine wpAnyH_take (i := 2) (oi := _) (v := ?_) rfl (by kernel_rfl) (by kernel_rfl) (by kernel_rfl) (fun _ _ _ h => h) (Or.inl ⟨by rfl, ?_⟩) (by assumption) ?_
            rotate_left 1
            · intro w hSw; (try dsimp only at hSw); go_simp; try (with_reducible rfl)
            try simp only [Act.put, List.getElem_toArray, List.getElem_cons_zero, List.getElem_cons_succ, List.setIfInBounds_toArray, List.set_cons_zero, List.set_cons_succ]
            refine wpAnyH_take (i := 3) (oi := _) (v := ?_) rfl (by kernel_rfl) (by kernel_rfl) (by kernel_rfl) (fun _ _ _ h => h) (Or.inl ⟨by rfl, ?_⟩) (by assumption) ?_
            rotate_left 1
            · intro w hSw; (try dsimp only at hSw); go_simp; try (with_reducible rfl)
            try simp only [Act.put, List.getElem_toArray, List.getElem_cons_zero, List.getElem_cons_succ, List.setIfInBounds_toArray, List.set_cons_zero, List.set_cons_succ]
            refine wpAnyH_take (i := 4) (oi := _) (v := ?_) rfl (by kernel_rfl) (by kernel_rfl) (by kernel_rfl) (fun _ _ _ h => h) (Or.inl ⟨by rfl, ?_⟩) (by assumption) ?_
            rotate_left 1
            · intro w hSw; (try dsimp only at hSw); go_simp; try (with_reducible rfl)
            try simp only [Act.put, List.getElem_toArray, List.getElem_cons_zero, List.getElem_cons_succ, List.setIfInBounds_toArray, List.set_cons_zero, List.set_cons_succ]
            refine wpAnyH_take (i := 5) (oi := _) (v := ?_) rfl (by kernel_rfl) (by kernel_rfl) (by kernel_rfl) (fun _ _ _ h => h) (Or.inl ⟨by rfl, ?_⟩) (by assumption) ?_
            rotate_left 1
            · intro w hSw; (try dsimp only at hSw); go_simp; try (with_reducible rfl)
            try simp only [Act.put, List.getElem_toArray, List.getElem_cons_zero, List.getElem_cons_succ, List.setIfInBounds_toArray, List.set_cons_zero, List.set_cons_succ]
            refine wpAnyH_take (i := 6) (oi := _) (v := ?_) rfl (by kernel_rfl) (by kernel_rfl) (by kernel_rfl) (fun _ _ _ h => h) (Or.inl ⟨by rfl, ?_⟩) (by assumption) ?_
            rotate_left 1
            · intro w hSw; (try dsimp only at hSw); go_simp; try (with_reducible rfl)
            try simp only [Act.put, List.getElem_toArray, List.getElem_cons_zero, List.getElem_cons_succ, List.setIfInBounds_toArray, List.set_cons_zero, List.set_cons_succ]
            refine wpAnyH_take (i := 7) (oi := _) (v := ?_) rfl (by kernel_rfl) (by kernel_rfl) (by kernel_rfl) (fun _ _ _ h => h) (Or.inl ⟨by rfl, ?_⟩) (by assumption) ?_
            rotate_left 1
            · intro w hSw; (try dsimp only at hSw); go_simp; try (with_reducible rfl)
            try simp only [Act.put, List.getElem_toArray, List.getElem_cons_zero, List.getElem_cons_succ, List.setIfInBounds_toArray, List.set_cons_zero, List.set_cons_succ]
            refine wpAnyH_take (i := 8) (oi := _) (v := ?_) rfl (by kernel_rfl) (by kernel_rfl) (by kernel_rfl) (fun _ _ _ h => h) (Or.inl ⟨by rfl, ?_⟩) (by assumption) ?_
            rotate_left 1
            · intro w hSw; (try dsimp only at hSw); go_simp; try (with_reducible rfl)
            try simp only [Act.put, List.getElem_toArray, List.getElem_cons_zero, List.getElem_cons_succ, List.setIfInBounds_toArray, List.set_cons_zero, List.set_cons_succ]
            refine wpAnyH_take (i := 9) (oi := _) (v := ?_) rfl (by kernel_rfl) (by kernel_rfl) (by kernel_rfl) (fun _ _ _ h => h) (Or.inl ⟨by rfl, ?_⟩) (by assumption) ?_
            rotate_left 1
            · intro w hSw; (try dsimp only at hSw); go_simp; try (with_reducible rfl)
            try simp only [Act.put, List.getElem_toArray, List.getElem_cons_zero, List.getElem_cons_succ, List.setIfInBounds_toArray, List.set_cons_zero, List.set_cons_succ]
            refine wpAnyH_take (i := 10) (oi := _) (v := ?_) rfl (by kernel_rfl) (by kernel_rfl) (by kernel_rfl) (fun _ _ _ h => h) (Or.inl ⟨by rfl, ?_⟩) (by assumption) ?_
            rotate_left 1
            · intro w hSw; (try dsimp only at hSw); go_simp; try (with_reducible rfl)
            try simp only [Act.put, List.getElem_toArray, List.getElem_cons_zero, List.getElem_cons_succ, List.setIfInBounds_toArray, List.set_cons_zero, List.set_cons_succ]
            refine wpAnyH_ready (rs := [11]) (by kernel_rfl) (by simp) ?_
            refine AllReadyH.cons (o := _) rfl (fun K hK => ?_) AllReadyH.nil
            go_simp
            refine (PN.out _).mono ?_
            rintro e w6 ⟨rfl, hg6⟩
            have hS6 := AtS.all (AtS.by_ hHeld.2.2.2.2.2.2 hg6)
            clear hg6
            go_wp2_with fail
            refine hK.out _ _ ?_ (fun hHeld2 => ?_)
            · exact hS6
            clear hK K hHeld
            have hHeld := hHeld2
            clear hHeld2
            try simp only [Act.put, List.getElem_toArray, List.getElem_cons_zero, List.getElem_cons_succ, List.setIfInBounds_toArray, List.set_cons_zero, List.set_cons_succ]
            refine wpAnyH_take (i := 12) (oi := _) (v := ?_) rfl (by kernel_rfl) (by kernel_rfl) (by kernel_rfl) (fun _ _ _ h => h) (Or.inl ⟨by rfl, ?_⟩) (by assumption) ?_
            rotate_left 1
            · intro w hSw; (try dsimp only at hSw); go_simp; try (with_reducible rfl)
            try simp only [Act.put, List.getElem_toArray, List.getElem_cons_zero, List.getElem_cons_succ, List.setIfInBounds_toArray, List.set_cons_zero, List.set_cons_succ]
            refine wpAnyH_take (i := 13) (oi := _) (v := ?_) rfl (by kernel_rfl) (by kernel_rfl) (by kernel_rfl) (fun _ _ _ h => h) (Or.inl ⟨by rfl, ?_⟩) (by assumption) ?_
            rotate_left 1
            · intro w hSw; (try dsimp only at hSw); go_simp; try (with_reducible rfl)
            try simp only [Act.put, List.getElem_toArray, List.getElem_cons_zero, List.getElem_cons_succ, List.setIfInBounds_toArray, List.set_cons_zero, List.set_cons_succ]
            refine wpAnyH_done (by kernel_rfl) ?_ _
            go_wp2_with fail
            go_meet
            exact ⟨by first | rfl | (rw [HBAD.out]; simp [*]), hS6.2.2.2.2.2.2⟩
          · have c4' : (hi == nb) = false := beq_false_of_ne c4
            refine wp_region_held_drew (S := (fun w' => (loadS (.pointer (some ⟨w.heap.size, 0, none⟩))).run Try.prog w' = .ok (snV s) w' ∧ w'.cell? ⟨w.heap.size + 1, 0, none⟩ = some (.int .i64 ms) ∧ w'.cell? ⟨w.heap.size + 1, 1, none⟩ = some (.int .i64 mt) ∧ w'.cell? ⟨w.heap.size + 1, 2, none⟩ = some (.int .i64 lo) ∧ w'.cell? ⟨w.heap.size + 1, 3, none⟩ = some (.int .i64 hi) ∧ w'.cell? ⟨w.heap.size, 7, none⟩ = some (.int .i64 s.life) ∧ AtS w s ms mt lo hi w')) (by kernel_rfl) ?_ (fun hHeld => ?_)
            · exact hS0
            refine wpAnyH_take (i := 0) (oi := _) (v := ?_) rfl (by kernel_rfl) (by kernel_rfl) (by kernel_rfl) (fun _ _ _ h => h) (Or.inl ⟨by rfl, ?_⟩) (by assumption) ?_
            rotate_left 1
            · intro w hSw; (try dsimp only at hSw); go_simp; try (with_reducible rfl)
            try simp only [Act.put, List.getElem_toArray, List.getElem_cons_zero, List.setIfInBounds_toArray, List.set_cons_zero, List.set_cons_succ]
            refine wpAnyH_ready (rs := [1]) (by kernel_rfl) (by simp) ?_
            refine AllReadyH.cons (o := _) rfl (fun K hK => ?_) AllReadyH.nil
            go_simp
            refine (HC.out _).mono ?_
            rintro e w6 ⟨rfl, hg6⟩
            have hS6 := AtS.all (AtS.by_ hHeld.2.2.2.2.2.2 hg6)
            clear hg6
            go_wp2_with fail
            refine hK.out _ _ ?_ (fun hHeld2 => ?_)
            · exact hS6
            clear hK K hHeld
            have hHeld := hHeld2
            clear hHeld2
            try simp only [Act.put, List.getElem_toArray, List.getElem_cons_zero, List.getElem_cons_succ, List.setIfInBounds_toArray, List.set_cons_zero, List.set_cons_succ]
            refine wpAnyH_take (i := 2) (oi := _) (v := ?_) rfl (by kernel_rfl) (by kernel_rfl) (by kernel_rfl) (fun _ _ _ h => h) (Or.inl ⟨by rfl, ?_⟩) (by assumption) ?_
            rotate_left 1
            · intro w hSw; (try dsimp only at hSw); go_simp; try (with_reducible rfl)
            try simp only [Act.put, List.getElem_toArray, List.getElem_cons_zero, List.getElem_cons_succ, List.setIfInBounds_toArray, List.set_cons_zero, List.set_cons_succ]
            refine wpAnyH_take (i := 3) (oi := _) (v := ?_) rfl (by kernel_rfl) (by kernel_rfl) (by kernel_rfl) (fun _ _ _ h => h) (Or.inl ⟨by rfl, ?_⟩) (by assumption) ?_
            rotate_left 1
            · intro w hSw; (try dsimp only at hSw); go_simp; try (with_reducible rfl)
            try simp only [Act.put, List.getElem_toArray, List.getElem_cons_zero, List.getElem_cons_succ, List.setIfInBounds_toArray, List.set_cons_zero, List.set_cons_succ]
            refine wpAnyH_take (i := 4) (oi := _) (v := ?_) rfl (by kernel_rfl) (by kernel_rfl) (by kernel_rfl) (fun _ _ _ h => h) (Or.inl ⟨by rfl, ?_⟩) (by assumption) ?_
            rotate_left 1
            · intro w hSw; (try dsimp only at hSw); go_simp; try (with_reducible rfl)
            try simp only [Act.put, List.getElem_toArray, List.getElem_cons_zero, List.getElem_cons_succ, List.setIfInBounds_toArray, List.set_cons_zero, List.set_cons_succ]
            refine wpAnyH_take (i := 5) (oi := _) (v := ?_) rfl (by kernel_rfl) (by kernel_rfl) (by kernel_rfl) (fun _ _ _ h => h) (Or.inl ⟨by rfl, ?_⟩) (by assumption) ?_
            rotate_left 1
            · intro w hSw; (try dsimp only at hSw); go_simp; try (with_reducible rfl)
            try simp only [Act.put, List.getElem_toArray, List.getElem_cons_zero, List.getElem_cons_succ, List.setIfInBounds_toArray, List.set_cons_zero, List.set_cons_succ]
            refine wpAnyH_take (i := 6) (oi := _) (v := ?_) rfl (by kernel_rfl) (by kernel_rfl) (by kernel_rfl) (fun _ _ _ h => h) (Or.inl ⟨by rfl, ?_⟩) (by assumption) ?_
            rotate_left 1
            · intro w hSw; (try dsimp only at hSw); go_simp; try (with_reducible rfl)
            try simp only [Act.put, List.getElem_toArray, List.getElem_cons_zero, List.getElem_cons_succ, List.setIfInBounds_toArray, List.set_cons_zero, List.set_cons_succ]
            refine wpAnyH_take (i := 7) (oi := _) (v := ?_) rfl (by kernel_rfl) (by kernel_rfl) (by kernel_rfl) (fun _ _ _ h => h) (Or.inl ⟨by rfl, ?_⟩) (by assumption) ?_
            rotate_left 1
            · intro w hSw; (try dsimp only at hSw); go_simp; try (with_reducible rfl)
            try simp only [Act.put, List.getElem_toArray, List.getElem_cons_zero, List.getElem_cons_succ, List.setIfInBounds_toArray, List.set_cons_zero, List.set_cons_succ]
            refine wpAnyH_take (i := 8) (oi := _) (v := ?_) rfl (by kernel_rfl) (by kernel_rfl) (by kernel_rfl) (fun _ _ _ h => h) (Or.inl ⟨by rfl, ?_⟩) (by assumption) ?_
            rotate_left 1
            · intro w hSw; (try dsimp only at hSw); go_simp; try (with_reducible rfl)
            try simp only [Act.put, List.getElem_toArray, List.getElem_cons_zero, List.getElem_cons_succ, List.setIfInBounds_toArray, List.set_cons_zero, List.set_cons_succ]
            refine wpAnyH_take (i := 9) (oi := _) (v := ?_) rfl (by kernel_rfl) (by kernel_rfl) (by kernel_rfl) (fun _ _ _ h => h) (Or.inl ⟨by rfl, ?_⟩) (by assumption) ?_
            rotate_left 1
            · intro w hSw; (try dsimp only at hSw); go_simp; try (with_reducible rfl)
            try simp only [Act.put, List.getElem_toArray, List.getElem_cons_zero, List.getElem_cons_succ, List.setIfInBounds_toArray, List.set_cons_zero, List.set_cons_succ]
            refine wpAnyH_take (i := 10) (oi := _) (v := ?_) rfl (by kernel_rfl) (by kernel_rfl) (by kernel_rfl) (fun _ _ _ h => h) (Or.inl ⟨by rfl, ?_⟩) (by assumption) ?_
            rotate_left 1
            · intro w hSw; (try dsimp only at hSw); go_simp; try (with_reducible rfl)
            try simp only [Act.put, List.getElem_toArray, List.getElem_cons_zero, List.getElem_cons_succ, List.setIfInBounds_toArray, List.set_cons_zero, List.set_cons_succ]
            refine wpAnyH_ready (rs := [11]) (by kernel_rfl) (by simp) ?_
            refine AllReadyH.cons (o := _) rfl (fun K hK => ?_) AllReadyH.nil
            go_simp
            refine (PN.out _).mono ?_
            rintro e w6 ⟨rfl, hg6⟩
            have hS6 := AtS.all (AtS.by_ hHeld.2.2.2.2.2.2 hg6)
            clear hg6
            go_wp2_with fail
            refine hK.out _ _ ?_ (fun hHeld2 => ?_)
            · exact hS6
            clear hK K hHeld
            have hHeld := hHeld2
            clear hHeld2
            try simp only [Act.put, List.getElem_toArray, List.getElem_cons_zero, List.getElem_cons_succ, List.setIfInBounds_toArray, List.set_cons_zero, List.set_cons_succ]
            refine wpAnyH_take (i := 12) (oi := _) (v := ?_) rfl (by kernel_rfl) (by kernel_rfl) (by kernel_rfl) (fun _ _ _ h => h) (Or.inl ⟨by rfl, ?_⟩) (by assumption) ?_
            rotate_left 1
            · intro w hSw; (try dsimp only at hSw); go_simp; try (with_reducible rfl)
            try simp only [Act.put, List.getElem_toArray, List.getElem_cons_zero, List.getElem_cons_succ, List.setIfInBounds_toArray, List.set_cons_zero, List.set_cons_succ]
            refine wpAnyH_take (i := 13) (oi := _) (v := ?_) rfl (by kernel_rfl) (by kernel_rfl) (by kernel_rfl) (fun _ _ _ h => h) (Or.inl ⟨by rfl, ?_⟩) (by assumption) ?_
            rotate_left 1
            · intro w hSw; (try dsimp only at hSw); go_simp; try (with_reducible rfl)
            try simp only [Act.put, List.getElem_toArray, List.getElem_cons_zero, List.getElem_cons_succ, List.setIfInBounds_toArray, List.set_cons_zero, List.set_cons_succ]
            refine wpAnyH_done (by kernel_rfl) ?_ _
            go_wp2_with fail
            go_meet
            exact ⟨by first | rfl | (rw [HBAD.out]; simp [*]), hS6.2.2.2.2.2.2⟩
        · have c3' : (lo == na) = false := beq_false_of_ne c3
          refine wp_region_held_drew (S := (fun w' => (loadS (.pointer (some ⟨w.heap.size, 0, none⟩))).run Try.prog w' = .ok (snV s) w' ∧ w'.cell? ⟨w.heap.size + 1, 0, none⟩ = some (.int .i64 ms) ∧ w'.cell? ⟨w.heap.size + 1, 1, none⟩ = some (.int .i64 mt) ∧ w'.cell? ⟨w.heap.size + 1, 2, none⟩ = some (.int .i64 lo) ∧ w'.cell? ⟨w.heap.size + 1, 3, none⟩ = some (.int .i64 hi) ∧ w'.cell? ⟨w.heap.size, 7, none⟩ = some (.int .i64 s.life) ∧ AtS w s ms mt lo hi w')) (by kernel_rfl) ?_ (fun hHeld => ?_)
          · exact hS0
          refine wpAnyH_take (i := 0) (oi := _) (v := ?_) rfl (by kernel_rfl) (by kernel_rfl) (by kernel_rfl) (fun _ _ _ h => h) (Or.inl ⟨by rfl, ?_⟩) (by assumption) ?_
          rotate_left 1
          · intro w hSw; (try dsimp only at hSw); go_simp; try (with_reducible rfl)
          try simp only [Act.put, List.getElem_toArray, List.getElem_cons_zero, List.setIfInBounds_toArray, List.set_cons_zero, List.set_cons_succ]
          refine wpAnyH_ready (rs := [1]) (by kernel_rfl) (by simp) ?_
          refine AllReadyH.cons (o := _) rfl (fun K hK => ?_) AllReadyH.nil
          go_simp
          refine (HC.out _).mono ?_
          rintro e w6 ⟨rfl, hg6⟩
          have hS6 := AtS.all (AtS.by_ hHeld.2.2.2.2.2.2 hg6)
          clear hg6
          go_wp2_with fail
          refine hK.out _ _ ?_ (fun hHeld2 => ?_)
          · exact hS6
          clear hK K hHeld
          have hHeld := hHeld2
          clear hHeld2
          try simp only [Act.put, List.getElem_toArray, List.getElem_cons_zero, List.getElem_cons_succ, List.setIfInBounds_toArray, List.set_cons_zero, List.set_cons_succ]
          refine wpAnyH_take (i := 2) (oi := _) (v := ?_) rfl (by kernel_rfl) (by kernel_rfl) (by kernel_rfl) (fun _ _ _ h => h) (Or.inl ⟨by rfl, ?_⟩) (by assumption) ?_
          rotate_left 1
          · intro w hSw; (try dsimp only at hSw); go_simp; try (with_reducible rfl)
          try simp only [Act.put, List.getElem_toArray, List.getElem_cons_zero, List.getElem_cons_succ, List.setIfInBounds_toArray, List.set_cons_zero, List.set_cons_succ]
          refine wpAnyH_take (i := 3) (oi := _) (v := ?_) rfl (by kernel_rfl) (by kernel_rfl) (by kernel_rfl) (fun _ _ _ h => h) (Or.inl ⟨by rfl, ?_⟩) (by assumption) ?_
          rotate_left 1
          · intro w hSw; (try dsimp only at hSw); go_simp; try (with_reducible rfl)
          try simp only [Act.put, List.getElem_toArray, List.getElem_cons_zero, List.getElem_cons_succ, List.setIfInBounds_toArray, List.set_cons_zero, List.set_cons_succ]
          refine wpAnyH_take (i := 4) (oi := _) (v := ?_) rfl (by kernel_rfl) (by kernel_rfl) (by kernel_rfl) (fun _ _ _ h => h) (Or.inl ⟨by rfl, ?_⟩) (by assumption) ?_
          rotate_left 1
          · intro w hSw; (try dsimp only at hSw); go_simp; try (with_reducible rfl)
          try simp only [Act.put, List.getElem_toArray, List.getElem_cons_zero, List.getElem_cons_succ, List.setIfInBounds_toArray, List.set_cons_zero, List.set_cons_succ]
          refine wpAnyH_take (i := 5) (oi := _) (v := ?_) rfl (by kernel_rfl) (by kernel_rfl) (by kernel_rfl) (fun _ _ _ h => h) (Or.inl ⟨by rfl, ?_⟩) (by assumption) ?_
          rotate_left 1
          · intro w hSw; (try dsimp only at hSw); go_simp; try (with_reducible rfl)
          try simp only [Act.put, List.getElem_toArray, List.getElem_cons_zero, List.getElem_cons_succ, List.setIfInBounds_toArray, List.set_cons_zero, List.set_cons_succ]
          refine wpAnyH_take (i := 6) (oi := _) (v := ?_) rfl (by kernel_rfl) (by kernel_rfl) (by kernel_rfl) (fun _ _ _ h => h) (Or.inl ⟨by rfl, ?_⟩) (by assumption) ?_
          rotate_left 1
          · intro w hSw; (try dsimp only at hSw); go_simp; try (with_reducible rfl)
          try simp only [Act.put, List.getElem_toArray, List.getElem_cons_zero, List.getElem_cons_succ, List.setIfInBounds_toArray, List.set_cons_zero, List.set_cons_succ]
          refine wpAnyH_take (i := 7) (oi := _) (v := ?_) rfl (by kernel_rfl) (by kernel_rfl) (by kernel_rfl) (fun _ _ _ h => h) (Or.inl ⟨by rfl, ?_⟩) (by assumption) ?_
          rotate_left 1
          · intro w hSw; (try dsimp only at hSw); go_simp; try (with_reducible rfl)
          try simp only [Act.put, List.getElem_toArray, List.getElem_cons_zero, List.getElem_cons_succ, List.setIfInBounds_toArray, List.set_cons_zero, List.set_cons_succ]
          refine wpAnyH_take (i := 8) (oi := _) (v := ?_) rfl (by kernel_rfl) (by kernel_rfl) (by kernel_rfl) (fun _ _ _ h => h) (Or.inl ⟨by rfl, ?_⟩) (by assumption) ?_
          rotate_left 1
          · intro w hSw; (try dsimp only at hSw); go_simp; try (with_reducible rfl)
          try simp only [Act.put, List.getElem_toArray, List.getElem_cons_zero, List.getElem_cons_succ, List.setIfInBounds_toArray, List.set_cons_zero, List.set_cons_succ]
          refine wpAnyH_take (i := 9) (oi := _) (v := ?_) rfl (by kernel_rfl) (by kernel_rfl) (by kernel_rfl) (fun _ _ _ h => h) (Or.inl ⟨by rfl, ?_⟩) (by assumption) ?_
          rotate_left 1
          · intro w hSw; (try dsimp only at hSw); go_simp; try (with_reducible rfl)
          try simp only [Act.put, List.getElem_toArray, List.getElem_cons_zero, List.getElem_cons_succ, List.setIfInBounds_toArray, List.set_cons_zero, List.set_cons_succ]
          refine wpAnyH_take (i := 10) (oi := _) (v := ?_) rfl (by kernel_rfl) (by kernel_rfl) (by kernel_rfl) (fun _ _ _ h => h) (Or.inl ⟨by rfl, ?_⟩) (by assumption) ?_
          rotate_left 1
          · intro w hSw; (try dsimp only at hSw); go_simp; try (with_reducible rfl)
          try simp only [Act.put, List.getElem_toArray, List.getElem_cons_zero, List.getElem_cons_succ, List.setIfInBounds_toArray, List.set_cons_zero, List.set_cons_succ]
          refine wpAnyH_ready (rs := [11]) (by kernel_rfl) (by simp) ?_
          refine AllReadyH.cons (o := _) rfl (fun K hK => ?_) AllReadyH.nil
          go_simp
          refine (PN.out _).mono ?_
          rintro e w6 ⟨rfl, hg6⟩
          have hS6 := AtS.all (AtS.by_ hHeld.2.2.2.2.2.2 hg6)
          clear hg6
          go_wp2_with fail
          refine hK.out _ _ ?_ (fun hHeld2 => ?_)
          · exact hS6
          clear hK K hHeld
          have hHeld := hHeld2
          clear hHeld2
          try simp only [Act.put, List.getElem_toArray, List.getElem_cons_zero, List.getElem_cons_succ, List.setIfInBounds_toArray, List.set_cons_zero, List.set_cons_succ]
          refine wpAnyH_take (i := 12) (oi := _) (v := ?_) rfl (by kernel_rfl) (by kernel_rfl) (by kernel_rfl) (fun _ _ _ h => h) (Or.inl ⟨by rfl, ?_⟩) (by assumption) ?_
          rotate_left 1
          · intro w hSw; (try dsimp only at hSw); go_simp; try (with_reducible rfl)
          try simp only [Act.put, List.getElem_toArray, List.getElem_cons_zero, List.getElem_cons_succ, List.setIfInBounds_toArray, List.set_cons_zero, List.set_cons_succ]
          refine wpAnyH_take (i := 13) (oi := _) (v := ?_) rfl (by kernel_rfl) (by kernel_rfl) (by kernel_rfl) (fun _ _ _ h => h) (Or.inl ⟨by rfl, ?_⟩) (by assumption) ?_
          rotate_left 1
          · intro w hSw; (try dsimp only at hSw); go_simp; try (with_reducible rfl)
          try simp only [Act.put, List.getElem_toArray, List.getElem_cons_zero, List.getElem_cons_succ, List.setIfInBounds_toArray, List.set_cons_zero, List.set_cons_succ]
          refine wpAnyH_done (by kernel_rfl) ?_ _
          go_wp2_with fail
          go_meet
          exact ⟨by first | rfl | (rw [HBAD.out]; simp [*]), hS6.2.2.2.2.2.2⟩
    · have c1' : (ck != 0) = true := bne_iff_ne.2 c1
      refine wp_region_held_drew (S := (fun w' => (loadS (.pointer (some ⟨w.heap.size, 0, none⟩))).run Try.prog w' = .ok (snV s) w' ∧ w'.cell? ⟨w.heap.size + 1, 0, none⟩ = some (.int .i64 ms) ∧ w'.cell? ⟨w.heap.size + 1, 1, none⟩ = some (.int .i64 mt) ∧ w'.cell? ⟨w.heap.size + 1, 2, none⟩ = some (.int .i64 lo) ∧ w'.cell? ⟨w.heap.size + 1, 3, none⟩ = some (.int .i64 hi) ∧ w'.cell? ⟨w.heap.size, 7, none⟩ = some (.int .i64 s.life) ∧ AtS w s ms mt lo hi w')) (by kernel_rfl) ?_ (fun hHeld => ?_)
      · exact hS0
      refine wpAnyH_take (i := 0) (oi := _) (v := ?_) rfl (by kernel_rfl) (by kernel_rfl) (by kernel_rfl) (fun _ _ _ h => h) (Or.inl ⟨by rfl, ?_⟩) (by assumption) ?_
      rotate_left 1
      · intro w hSw; (try dsimp only at hSw); go_simp; try (with_reducible rfl)
      try simp only [Act.put, List.getElem_toArray, List.getElem_cons_zero, List.setIfInBounds_toArray, List.set_cons_zero, List.set_cons_succ]
      refine wpAnyH_ready (rs := [1]) (by kernel_rfl) (by simp) ?_
      refine AllReadyH.cons (o := _) rfl (fun K hK => ?_) AllReadyH.nil
      go_simp
      refine (HC.out _).mono ?_
      rintro e w6 ⟨rfl, hg6⟩
      have hS6 := AtS.all (AtS.by_ hHeld.2.2.2.2.2.2 hg6)
      clear hg6
      go_wp2_with fail
      refine hK.out _ _ ?_ (fun hHeld2 => ?_)
      · exact hS6
      clear hK K hHeld
      have hHeld := hHeld2
      clear hHeld2
      try simp only [Act.put, List.getElem_toArray, List.getElem_cons_zero, List.getElem_cons_succ, List.setIfInBounds_toArray, List.set_cons_zero, List.set_cons_succ]
      refine wpAnyH_take (i := 2) (oi := _) (v := ?_) rfl (by kernel_rfl) (by kernel_rfl) (by kernel_rfl) (fun _ _ _ h => h) (Or.inl ⟨by rfl, ?_⟩) (by assumption) ?_
      rotate_left 1
      · intro w hSw; (try dsimp only at hSw); go_simp; try (with_reducible rfl)
      try simp only [Act.put, List.getElem_toArray, List.getElem_cons_zero, List.getElem_cons_succ, List.setIfInBounds_toArray, List.set_cons_zero, List.set_cons_succ]
      refine wpAnyH_take (i := 3) (oi := _) (v := ?_) rfl (by kernel_rfl) (by kernel_rfl) (by kernel_rfl) (fun _ _ _ h => h) (Or.inl ⟨by rfl, ?_⟩) (by assumption) ?_
      rotate_left 1
      · intro w hSw; (try dsimp only at hSw); go_simp; try (with_reducible rfl)
      try simp only [Act.put, List.getElem_toArray, List.getElem_cons_zero, List.getElem_cons_succ, List.setIfInBounds_toArray, List.set_cons_zero, List.set_cons_succ]
      refine wpAnyH_take (i := 4) (oi := _) (v := undef) rfl (by kernel_rfl) (by kernel_rfl) (by kernel_rfl) (fun _ _ _ h => h) (Or.inr ⟨by rfl, rfl⟩) (by assumption) ?_
      try simp only [Act.put, List.getElem_toArray, List.getElem_cons_zero, List.getElem_cons_succ, List.setIfInBounds_toArray, List.set_cons_zero, List.set_cons_succ]
      refine wpAnyH_take (i := 5) (oi := _) (v := undef) rfl (by kernel_rfl) (by kernel_rfl) (by kernel_rfl) (fun _ _ _ h => h) (Or.inr ⟨by rfl, rfl⟩) (by assumption) ?_
      try simp only [Act.put, List.getElem_toArray, List.getElem_cons_zero, List.getElem_cons_succ, List.setIfInBounds_toArray, List.set_cons_zero, List.set_cons_succ]
      refine wpAnyH_take (i := 6) (oi := _) (v := undef) rfl (by kernel_rfl) (by kernel_rfl) (by kernel_rfl) (fun _ _ _ h => h) (Or.inr ⟨by rfl, rfl⟩) (by assumption) ?_
      try simp only [Act.put, List.getElem_toArray, List.getElem_cons_zero, List.getElem_cons_succ, List.setIfInBounds_toArray, List.set_cons_zero, List.set_cons_succ]
      refine wpAnyH_take (i := 7) (oi := _) (v := ?_) rfl (by kernel_rfl) (by kernel_rfl) (by kernel_rfl) (fun _ _ _ h => h) (Or.inl ⟨by rfl, ?_⟩) (by assumption) ?_
      rotate_left 1
      · intro w hSw; (try dsimp only at hSw); go_simp; try (with_reducible rfl)
      try simp only [Act.put, List.getElem_toArray, List.getElem_cons_zero, List.getElem_cons_succ, List.setIfInBounds_toArray, List.set_cons_zero, List.set_cons_succ]
      refine wpAnyH_take (i := 8) (oi := _) (v := ?_) rfl (by kernel_rfl) (by kernel_rfl) (by kernel_rfl) (fun _ _ _ h => h) (Or.inl ⟨by rfl, ?_⟩) (by assumption) ?_
      rotate_left 1
      · intro w hSw; (try dsimp only at hSw); go_simp; try (with_reducible rfl)
      try simp only [Act.put, List.getElem_toArray, List.getElem_cons_zero, List.getElem_cons_succ, List.setIfInBounds_toArray, List.set_cons_zero, List.set_cons_succ]
      refine wpAnyH_take (i := 9) (oi := _) (v := undef) rfl (by kernel_rfl) (by kernel_rfl) (by kernel_rfl) (fun _ _ _ h => h) (Or.inr ⟨by rfl, rfl⟩) (by assumption) ?_
      try simp only [Act.put, List.getElem_toArray, List.getElem_cons_zero, List.getElem_cons_succ, List.setIfInBounds_toArray, List.set_cons_zero, List.set_cons_succ]
      refine wpAnyH_take (i := 10) (oi := _) (v := undef) rfl (by kernel_rfl) (by kernel_rfl) (by kernel_rfl) (fun _ _ _ h => h) (Or.inr ⟨by rfl, rfl⟩) (by assumption) ?_
      try simp only [Act.put, List.getElem_toArray, List.getElem_cons_zero, List.getElem_cons_succ, List.setIfInBounds_toArray, List.set_cons_zero, List.set_cons_succ]
      refine wpAnyH_take (i := 11) (oi := _) (v := undef) rfl (by kernel_rfl) (by kernel_rfl) (by kernel_rfl) (fun _ _ _ h => h) (Or.inr ⟨by rfl, rfl⟩) (by assumption) ?_
      try simp only [Act.put, List.getElem_toArray, List.getElem_cons_zero, List.getElem_cons_succ, List.setIfInBounds_toArray, List.set_cons_zero, List.set_cons_succ]
      refine wpAnyH_take (i := 12) (oi := _) (v := undef) rfl (by kernel_rfl) (by kernel_rfl) (by kernel_rfl) (fun _ _ _ h => h) (Or.inr ⟨by rfl, rfl⟩) (by assumption) ?_
      try simp only [Act.put, List.getElem_toArray, List.getElem_cons_zero, List.getElem_cons_succ, List.setIfInBounds_toArray, List.set_cons_zero, List.set_cons_succ]
      refine wpAnyH_take (i := 13) (oi := _) (v := ?_) rfl (by kernel_rfl) (by kernel_rfl) (by kernel_rfl) (fun _ _ _ h => h) (Or.inl ⟨by rfl, ?_⟩) (by assumption) ?_
      rotate_left 1
      · intro w hSw; (try dsimp only at hSw); go_simp; try (with_reducible rfl)
      try simp only [Act.put, List.getElem_toArray, List.getElem_cons_zero, List.getElem_cons_succ, List.setIfInBounds_toArray, List.set_cons_zero, List.set_cons_succ]
      refine wpAnyH_done (by kernel_rfl) ?_ _
      go_wp2_with fail
      go_meet
      exact ⟨by first | rfl | (rw [HBAD.out]; simp [*]), hS6.2.2.2.2.2.2⟩
  case rest =>
    obtain ⟨rfl, hs⟩ := hcut
    have HS2 := Lib.hid hs
    clear hs HS1 HC
    have hbb : (ck ≠ 0 ∨ ms < 0 ∨ (lo, hi) = nothingSp) ↔ bad = true := by
      rw [HBAD.out, HNO.out]; simp only [Bool.or_eq_true, Bool.and_eq_true, decide_eq_true_eq, Prod.mk.injEq, or_assoc]
    have HBB := Lib.hid hbb
    clear HBAD hbb
    cases bad with
    | true =>
      have hv : v = (na, nb) := by rw [← HV.out, ← HNO.out]; unfold atSn; rw [HCK.out, if_pos (HBB.out.2 rfl)]
      subst hv
      clear HD HBB HV
      go_wp2_with fail
      refine (PN.out _).mono ?_
      rintro e W8 ⟨rfl, hg8⟩
      have HS8 := Lib.hid (HS2.out.by_ hg8)
      clear hg8
      have k2c := HS8.out.k2.cell
      have k2f := HS8.out.k2.frozen
      have F := HS8.out.fin na nb
      simp only [setC] at F
      have HF9 := Lib.hid F
      clear F
      go_wp2_with fail
      clear k2c k2f
      generalize World.setCell _ ⟨w.heap.size + 1 + 1, 1, none⟩ _ = W9 at *
      have f9c := HF9.out.1.cell
      refine bodyPost_ret (v := .agg #[.int .i64 na, .int .i64 nb]) (by simp [results, Try.results33, go_sem, f9c]) rfl ?_
      exact ⟨rfl, HF9.out.2⟩
    | false =>
      have hnb : ¬ (ck ≠ 0 ∨ ms < 0 ∨ (lo, hi) = nothingSp) := fun h => absurd (HBB.out.1 h) (by simp)
      have hck : ck = 0 := by
        by_cases h : ck = 0
        · exact h
        · exact (hnb (.inl h)).elim
      subst hck
      have hok := (ck0 HCK.out).2
      unfold snOk at hok
      have kA : wc.cell? ⟨w.heap.size + 1, 1, none⟩ = some (.int .i64 mt) := HS2.out.k1.cell 1
      have kB : wc.cell? ⟨w.heap.size, 7, none⟩ = some (.int .i64 s.life) := HS2.out.k0.cell 7
      obtain ⟨d, hd⟩ : ∃ d, t - mt = d := ⟨_, rfl⟩
      have hw : wrap64 (t - mt) = d := by rw [hd]; exact IntWalk.wrap64_in d (by omega)
      have hu : IntKind.i64.wrap (t - mt) = d := by rw [hd]; exact IntWalk.i64_in d (by omega)
      have hlf : 1 ≤ s.life ∧ s.life ≤ 1000000 := hok.2.2.2.2.2.2
      by_cases c1 : t < mt
      · have c1' : decide (t < mt) = true := by simpa using c1
        have hv : v = (na, nb) := by rw [← HV.out, ← HNO.out]; unfold atSn; rw [HCK.out, if_neg (fun h => hnb h), if_pos (.inl c1)]
        subst hv
        clear HD HBB HV hnb hok
        go_wp2_with fail
        refine (PN.out _).mono ?_
        rintro e W8 ⟨rfl, hg8⟩
        have HS8 := Lib.hid (HS2.out.by_ hg8)
        clear hg8
        have k2c := HS8.out.k2.cell
        have k2f := HS8.out.k2.frozen
        have F := HS8.out.fin na nb
        simp only [setC] at F
        have HF9 := Lib.hid F
        clear F
        go_wp2_with fail
        clear k2c k2f
        generalize World.setCell _ ⟨w.heap.size + 1 + 1, 1, none⟩ _ = W9 at *
        have f9c := HF9.out.1.cell
        refine bodyPost_ret (v := .agg #[.int .i64 na, .int .i64 nb]) (by simp [results, Try.results33, go_sem, f9c]) rfl ?_
        exact ⟨rfl, HF9.out.2⟩
      · have c1' : decide (t < mt) = false := by simpa using c1
        have hd0 : 0 ≤ d ∧ d ≤ 4398046511104 := by omega
        by_cases c2 : s.life < d
        · have c2' : decide (s.life < d) = true := by simpa using c2
          have hv : v = (na, nb) := by rw [← HV.out, ← HNO.out]; unfold atSn; rw [HCK.out, if_neg (fun h => hnb h), if_pos (.inr (by omega))]
          subst hv
          clear HD HBB HV hnb hok hd
          go_wp2_with fail
          refine (PN.out _).mono ?_
          rintro e W8 ⟨rfl, hg8⟩
          have HS8 := Lib.hid (HS2.out.by_ hg8)
          clear hg8
          have k2c := HS8.out.k2.cell
          have k2f := HS8.out.k2.frozen
          have F := HS8.out.fin na nb
          simp only [setC] at F
          have HF9 := Lib.hid F
          clear F
          go_wp2_with fail
          clear k2c k2f
          generalize World.setCell _ ⟨w.heap.size + 1 + 1, 1, none⟩ _ = W9 at *
          have f9c := HF9.out.1.cell
          refine bodyPost_ret (v := .agg #[.int .i64 na, .int .i64 nb]) (by simp [results, Try.results33, go_sem, f9c]) rfl ?_
          exact ⟨rfl, HF9.out.2⟩
        · have c2' : decide (s.life < d) = false := by simpa using c2
          have hv : v = drSn s lo hi (t - mt) := by rw [← HV.out]; unfold atSn; rw [HCK.out, if_neg (fun h => hnb h), if_neg (by omega)]
          have HDD := Lib.hid (HD.out hok.2.2.2.2.2.1 (by omega))
          rw [← hv, hd] at HDD
          obtain ⟨x, y⟩ := v
          dsimp only at HDD
          clear HD HBB HV hnb hok hd hv
          have L2 := run_loadS (Bk.snAt HS2.out.k0)
          have kC : wc.cell? ⟨w.heap.size + 1, 2, none⟩ = some (.int .i64 lo) := HS2.out.k1.cell 2
          have kD : wc.cell? ⟨w.heap.size + 1, 3, none⟩ = some (.int .i64 hi) := HS2.out.k1.cell 3
          go_wp2_with fail
          refine (HDD.out _).mono ?_
          rintro e W8 ⟨rfl, hg8⟩
          have HS8 := Lib.hid (HS2.out.by_ hg8)
          clear hg8
          have k2c := HS8.out.k2.cell
          have k2f := HS8.out.k2.frozen
          have F := HS8.out.fin x y
          simp only [setC] at F
          have HF9 := Lib.hid F
          clear F
          go_wp2_with fail
          clear k2c k2f
          generalize World.setCell _ ⟨w.heap.size + 1 + 1, 1, none⟩ _ = W9 at *
          have f9c := HF9.out.1.cell
          refine bodyPost_ret (v := .agg #[.int .i64 x, .int .i64 y]) (by simp [results, Try.results33, go_sem, f9c]) rfl ?_
          exact ⟨rfl, HF9.out.2⟩
end Go.Proofs.Ytackckljldpldaa
