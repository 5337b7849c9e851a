/- Stage 6, the program's drifted. -/
import Derived.Test.YtackckljldpldaaA6
namespace Go.Proofs.Ytackckljldpldaa
open Go.RowKit
attribute [local go_sem ↓] Go.wp_at_zero Go.wp_at_succ

/-- What a span has become some seconds later. -/
def drSn (s : Sn) (lo hi later : Int) : Int × Int :=
  if s.kind = 4 ∨ s.kind = 5 ∨ s.kind = 6 then (lo, hi)
  else if s.kind = 1 ∨ s.kind = 2 then (max (lo - (s.drift * later + 999) / 1000) 0, max (hi + (s.drift * later + 999) / 1000) 0)
  else (lo - (s.drift * later + 999) / 1000, hi + (s.drift * later + 999) / 1000)

/-- The sensor, the span, the result. -/
structure DrS (w : World) (s : Sn) (lo hi : Int) (W : World) : Prop where
  k0 : Bk W w.heap.size (senL s).toArray 24
  k1 : Bk W (w.heap.size + 1) #[.int .i64 lo, .int .i64 hi] 29
  k2 : Bk W (w.heap.size + 1 + 1) #[.int .i64 0, .int .i64 0] 29
  g : w.grownBy W none
theorem DrS.by_ {w : World} {s : Sn} {lo hi : Int} {W W' : World} (h : DrS w s lo hi W) (o : W.grownBy W' none) : DrS w s lo hi W' := ⟨h.k0.of o (by simp), h.k1.of o (by simp), h.k2.of o (by simp), gb_none h.g o⟩
theorem DrS.fin {w : World} {s : Sn} {lo hi : Int} {W : World} (h : DrS w s lo hi W) (x y : Int) : Bk (setC W (w.heap.size + 1 + 1) 0 [.int .i64 x, .int .i64 y]) (w.heap.size + 1 + 1) #[.int .i64 x, .int .i64 y] 29 ∧ w.grownBy (setC W (w.heap.size + 1 + 1) 0 [.int .i64 x, .int .i64 y]) none :=
  ⟨h.k2.all [.int .i64 x, .int .i64 y] rfl, gb_new h.g (setC_gb _ _ _ _) (by omega)⟩
theorem drS_new (w : World) (s : Sn) (lo hi : Int) : DrS w s lo hi (((w.alloc (.cells (senL s).toArray 24)).alloc (.cells #[.int .i64 lo, .int .i64 hi] 29)).alloc (.cells #[.int .i64 0, .int .i64 0] 29)) := by
  have k1 := Bk.new (w.alloc (.cells (senL s).toArray 24)) #[.int .i64 lo, .int .i64 hi] 29
  rw [World.size_alloc] at k1
  have k2 := Bk.new ((w.alloc (.cells (senL s).toArray 24)).alloc (.cells #[.int .i64 lo, .int .i64 hi] 29)) #[.int .i64 0, .int .i64 0] 29
  rw [World.size_alloc, World.size_alloc] at k2
  exact ⟨((Bk.new w _ _).of (gb_alloc (gb_refl _ none) _) (by simp)).of (gb_alloc (gb_refl _ none) _) (by simp), k1.of (gb_alloc (gb_refl _ none) _) (by simp), k2, gb_alloc (gb_alloc (gb_alloc (gb_refl _ _) _) _) _⟩

set_option maxRecDepth 100000 in
set_option maxHeartbeats 8000000 in
theorem drifted_any (s : Sn) (lo hi later : Int) (w : World) (hd : 0 ≤ s.drift ∧ s.drift ≤ 1000000) (hl : 0 ≤ later ∧ later ≤ 1000000) (h1 : -4503599627370496 ≤ lo ∧ lo ≤ 4503599627370496) (h2 : -4503599627370496 ≤ hi ∧ hi ≤ 4503599627370496) :
    Calls Try.prog 59 #[.agg (senL s).toArray, .agg #[.int .i64 lo, .int .i64 hi], .int .i64 later] w fun e w' => e = .returned (.agg #[.int .i64 (drSn s lo hi later).1, .int .i64 (drSn s lo hi later).2]) ∧ w.grownBy w' none := by
  obtain ⟨v, hv⟩ : ∃ v, drSn s lo hi later = v := ⟨_, rfl⟩
  rw [hv]
  obtain ⟨p, hp⟩ : ∃ p, s.drift * later = p := ⟨_, rfl⟩
  have hpb : 0 ≤ p ∧ p ≤ 1000000000000 := by
    rw [← hp]
    refine ⟨Int.mul_nonneg hd.1 hl.1, ?_⟩
    have := Int.mul_le_mul hd.2 hl.2 hl.1 (show (0 : Int) ≤ 1000000 by omega)
    omega
  obtain ⟨p9, hp9⟩ : ∃ p9, p + 999 = p9 := ⟨_, rfl⟩
  obtain ⟨b, hb⟩ : ∃ b, p9 / 1000 = b := ⟨_, rfl⟩
  have hq : p9.tdiv 1000 = b := by rw [← hb]; exact Int.tdiv_eq_ediv_of_nonneg (by omega)
  obtain ⟨l1, hl1⟩ : ∃ l1, lo - b = l1 := ⟨_, rfl⟩
  obtain ⟨g1, hg1⟩ : ∃ g1, hi + b = g1 := ⟨_, rfl⟩
  have w1 : wrap64 (s.drift * later) = p := by rw [hp]; exact IntWalk.wrap64_in p (by omega)
  have w2 : wrap64 (p + 999) = p9 := by rw [hp9]; exact IntWalk.wrap64_in p9 (by omega)
  have w3 : wrap64 b = b := IntWalk.wrap64_in b (by omega)
  have w4 : wrap64 (lo - b) = l1 := by rw [hl1]; exact IntWalk.wrap64_in l1 (by omega)
  have w5 : wrap64 (hi + b) = g1 := by rw [hg1]; exact IntWalk.wrap64_in g1 (by omega)
  have u4 : IntKind.i64.wrap (lo - b) = l1 := by rw [hl1]; exact IntWalk.i64_in l1 (by omega)
  have u5 : IntKind.i64.wrap (hi + b) = g1 := by rw [hg1]; exact IntWalk.i64_in g1 (by omega)
  have HV := Lib.hid (show v = if s.kind = 4 ∨ s.kind = 5 ∨ s.kind = 6 then (lo, hi) else if s.kind = 1 ∨ s.kind = 2 then (max l1 0, max g1 0) else (l1, g1) by
    rw [← hv]; unfold drSn; rw [hp, hp9, hb, hl1, hg1])
  have HS1 := Lib.hid (drS_new w s lo hi)
  clear hv hd hl h1 h2 hp hpb hp9 hb hl1 hg1
  unfold senL at HS1 ⊢
  go_enter Try.func59, Try.ntmps59
  go_upto_region 1 with fail
  generalize ((w.alloc _).alloc _).alloc _ = W1 at *
  have k6 : W1.cell? ⟨w.heap.size, 6, none⟩ = some (.int .i64 s.drift) := HS1.out.k0.cell 6
  go_upto_region 2 with fail
  clear k6
  have c0 : W1.cell? ⟨w.heap.size + 1, 0, none⟩ = some (.int .i64 lo) := HS1.out.k1.cell 0
  have c1 : W1.cell? ⟨w.heap.size + 1, 1, none⟩ = some (.int .i64 hi) := HS1.out.k1.cell 1
  go_quiet (fail)
  have HS2 := Lib.hid (HS1.out.by_ (gb_drewN (gb_refl W1 none) nq))
  clear HS1 c0 c1
  generalize W1.drewN nq = W2 at *
  rw [w3]
  have kk : W2.cell? ⟨w.heap.size, 1, none⟩ = some (.int .i64 s.kind) := HS2.out.k0.cell 1
  by_cases d4 : s.kind = 4
  · have d4' : (s.kind == 4) = true := beq_iff_eq.2 d4
    have hv : v = (lo, hi) := by rw [HV.out, if_pos (by omega)]
    subst hv
    have k1c := HS2.out.k1.cell
    have k2c := HS2.out.k2.cell
    have k2f := HS2.out.k2.frozen
    have F := HS2.out.fin lo hi
    simp only [setC] at F
    have HF9 := Lib.hid F
    clear F
    go_wp2_with fail
    clear k1c k2c k2f kk HS2
    generalize World.setCell _ ⟨w.heap.size + 1 + 1, 1, none⟩ _ = W9 at *
    have f9c := HF9.out.1.cell
    refine bodyPost_ret (v := .agg #[.int .i64 lo, .int .i64 hi]) (by simp [results, Try.results59, go_sem, f9c]) rfl ?_
    exact ⟨rfl, HF9.out.2⟩
  · have d4' : (s.kind == 4) = false := beq_false_of_ne d4
    by_cases d5 : s.kind = 5
    · have d5' : (s.kind == 5) = true := beq_iff_eq.2 d5
      have hv : v = (lo, hi) := by rw [HV.out, if_pos (by omega)]
      subst hv
      have k1c := HS2.out.k1.cell
      have k2c := HS2.out.k2.cell
      have k2f := HS2.out.k2.frozen
      have F := HS2.out.fin lo hi
      simp only [setC] at F
      have HF9 := Lib.hid F
      clear F
      go_wp2_with fail
      clear k1c k2c k2f kk HS2
      generalize World.setCell _ ⟨w.heap.size + 1 + 1, 1, none⟩ _ = W9 at *
      have f9c := HF9.out.1.cell
      refine bodyPost_ret (v := .agg #[.int .i64 lo, .int .i64 hi]) (by simp [results, Try.results59, go_sem, f9c]) rfl ?_
      exact ⟨rfl, HF9.out.2⟩
    · have d5' : (s.kind == 5) = false := beq_false_of_ne d5
      by_cases d6 : s.kind = 6
      · have d6' : (s.kind == 6) = true := beq_iff_eq.2 d6
        have hv : v = (lo, hi) := by rw [HV.out, if_pos (by omega)]
        subst hv
        have k1c := HS2.out.k1.cell
        have k2c := HS2.out.k2.cell
        have k2f := HS2.out.k2.frozen
        have F := HS2.out.fin lo hi
        simp only [setC] at F
        have HF9 := Lib.hid F
        clear F
        go_wp2_with fail
        clear k1c k2c k2f kk HS2
        generalize World.setCell _ ⟨w.heap.size + 1 + 1, 1, none⟩ _ = W9 at *
        have f9c := HF9.out.1.cell
        refine bodyPost_ret (v := .agg #[.int .i64 lo, .int .i64 hi]) (by simp [results, Try.results59, go_sem, f9c]) rfl ?_
        exact ⟨rfl, HF9.out.2⟩
      · have d6' : (s.kind == 6) = false := beq_false_of_ne d6
        by_cases d1 : s.kind = 1
        · have d1' : (s.kind == 1) = true := beq_iff_eq.2 d1
          obtain ⟨A, hA⟩ : ∃ A, (if l1 < 0 then (0 : Int) else l1) = A := ⟨_, rfl⟩
          obtain ⟨B, hB⟩ : ∃ B, (if g1 < 0 then (0 : Int) else g1) = B := ⟨_, rfl⟩
          have mA : max l1 0 = A := by rw [← hA]; split <;> omega
          have mB : max g1 0 = B := by rw [← hB]; split <;> omega
          have hv : v = (A, B) := by rw [HV.out, if_neg (by omega), if_pos (by omega), mA, mB]
          subst hv
          clear mA mB
          have k1c := HS2.out.k1.cell
          have k2c := HS2.out.k2.cell
          have k2f := HS2.out.k2.frozen
          have F := HS2.out.fin A B
          simp only [setC] at F
          have HF9 := Lib.hid F
          clear F
          go_wp2_with fail
          try rw [hA, hB]
          clear k1c k2c k2f kk HS2
          generalize World.setCell _ ⟨w.heap.size + 1 + 1, 1, none⟩ _ = W9 at *
          have f9c := HF9.out.1.cell
          refine bodyPost_ret (v := .agg #[.int .i64 A, .int .i64 B]) (by simp [results, Try.results59, go_sem, f9c]) rfl ?_
          exact ⟨rfl, HF9.out.2⟩
        · have d1' : (s.kind == 1) = false := beq_false_of_ne d1
          by_cases d2 : s.kind = 2
          · have d2' : (s.kind == 2) = true := beq_iff_eq.2 d2
            obtain ⟨A, hA⟩ : ∃ A, (if l1 < 0 then (0 : Int) else l1) = A := ⟨_, rfl⟩
            obtain ⟨B, hB⟩ : ∃ B, (if g1 < 0 then (0 : Int) else g1) = B := ⟨_, rfl⟩
            have mA : max l1 0 = A := by rw [← hA]; split <;> omega
            have mB : max g1 0 = B := by rw [← hB]; split <;> omega
            have hv : v = (A, B) := by rw [HV.out, if_neg (by omega), if_pos (by omega), mA, mB]
            subst hv
            clear mA mB
            have k1c := HS2.out.k1.cell
            have k2c := HS2.out.k2.cell
            have k2f := HS2.out.k2.frozen
            have F := HS2.out.fin A B
            simp only [setC] at F
            have HF9 := Lib.hid F
            clear F
            go_wp2_with fail
            try rw [hA, hB]
            clear k1c k2c k2f kk HS2
            generalize World.setCell _ ⟨w.heap.size + 1 + 1, 1, none⟩ _ = W9 at *
            have f9c := HF9.out.1.cell
            refine bodyPost_ret (v := .agg #[.int .i64 A, .int .i64 B]) (by simp [results, Try.results59, go_sem, f9c]) rfl ?_
            exact ⟨rfl, HF9.out.2⟩
          · have d2' : (s.kind == 2) = false := beq_false_of_ne d2
            have hv : v = (l1, g1) := by rw [HV.out, if_neg (by omega), if_neg (by omega)]
            subst hv
            have k1c := HS2.out.k1.cell
            have k2c := HS2.out.k2.cell
            have k2f := HS2.out.k2.frozen
            have F := HS2.out.fin l1 g1
            simp only [setC] at F
            have HF9 := Lib.hid F
            clear F
            go_wp2_with fail
            clear k1c k2c k2f kk HS2
            generalize World.setCell _ ⟨w.heap.size + 1 + 1, 1, none⟩ _ = W9 at *
            have f9c := HF9.out.1.cell
            refine bodyPost_ret (v := .agg #[.int .i64 l1, .int .i64 g1]) (by simp [results, Try.results59, go_sem, f9c]) rfl ?_
            exact ⟨rfl, HF9.out.2⟩
end Go.Proofs.Ytackckljldpldaa
