/- Stage 5, a made sensor. -/
import Derived.Test.YtackckljldpldaaWc
namespace Go.Proofs.Ytackckljldpldaa
open Go.RowKit
attribute [local go_sem ↓] Go.wp_at_zero Go.wp_at_succ

/-- While a sensor is made: the codes, the result, the sensor. -/
structure MaS (w : World) (b : Nat) (l : List Nat) (n6 : Nat) (s : Sn) (W : World) : Prop where
  cd : ∃ j, CdAt W b l j
  k4 : Bk W w.heap.size (senL ⟨0, 0, 0, 0, 0, 0, 0, 0⟩).toArray 24
  k6 : Bk W n6 (senL s).toArray 24
  g : w.grownBy W none
  lb : w.heap.size < b
  ln : b < n6
theorem MaS.draw {w : World} {b : Nat} {l : List Nat} {n6 : Nat} {s : Sn} {W W' : World} (h : MaS w b l n6 s W) {j : Nat} (c : CdAt W' b l j) (o : W.grownBy W' (some b)) : MaS w b l n6 s W' := by
  have h1 := h.lb
  have h2 := h.ln
  exact ⟨⟨j, c⟩, h.k4.of o (by simp; omega), h.k6.of o (by simp; omega), gb_new h.g o (by omega), h.lb, h.ln⟩
theorem MaS.put {w : World} {b : Nat} {l : List Nat} {n6 : Nat} {s s' : Sn} {W W' : World} (h : MaS w b l n6 s W) (o : W.grownBy W' (some n6)) (k : Bk W' n6 (senL s').toArray 24) : MaS w b l n6 s' W' := by
  have h1 := h.lb
  have h2 := h.ln
  obtain ⟨j, c⟩ := h.cd
  exact ⟨⟨j, c.keep o (fun g e => by injection e with e; omega)⟩, h.k4.of o (by simp; omega), k, gb_new h.g o (by omega), h.lb, h.ln⟩
theorem MaS.fin {w : World} {b : Nat} {l : List Nat} {n6 : Nat} {s : Sn} {W : World} (h : MaS w b l n6 s W) : Bk (setC W w.heap.size 0 (senL s)) w.heap.size (senL s).toArray 24 ∧ w.grownBy (setC W w.heap.size 0 (senL s)) none :=
  ⟨h.k4.all (senL s) rfl, gb_new h.g (setC_gb w.heap.size (senL s) W 0) (Nat.le_refl _)⟩

set_option maxRecDepth 100000 in
set_option maxHeartbeats 8000000 in
theorem made_any (a : Option Addr) (len cap : Nat) (l : List Nat) (by_ : Int) (w : World) (hlen : l.length = len) (hcap : len ≤ cap) (hb : ∀ x ∈ l, x < 256)
    (hx : l = [] ∨ ∃ g off, a = some ⟨g, off, none⟩ ∧ ∀ j, j < l.length → w.cell? ⟨g, off + j, none⟩ = some (.int .u8 (l.getD j 0 : Nat))) :
    Calls Try.prog 16 #[.slice a len cap, .int .i64 by_] w fun e w' => ∃ s : Sn, e = .returned (.agg (senL s).toArray) ∧ w.grownBy w' none := by
  have g1 := gb_alloc (gb_refl w none) (.cells (senL ⟨0, 0, 0, 0, 0, 0, 0, 0⟩).toArray 24)
  have k1 := Bk.new w (senL ⟨0, 0, 0, 0, 0, 0, 0, 0⟩).toArray 24
  have hx1 : l = [] ∨ ∃ g off, a = some ⟨g, off, none⟩ ∧ ∀ j, j < l.length → (w.alloc (.cells (senL ⟨0, 0, 0, 0, 0, 0, 0, 0⟩).toArray 24)).cell? ⟨g, off + j, none⟩ = some (.int .u8 (l.getD j 0 : Nat)) := by
    rcases hx with h | ⟨g, off, e, h⟩
    · exact .inl h
    · exact .inr ⟨g, off, e, fun j hj => by rw [← h j hj]; exact gb_cell g1 (World.block_lt_of_cell? _ _ (h j hj)) (by simp) _⟩
  have K1 := Lib.hid k1
  have G1 := Lib.hid g1
  have HX := Lib.hid hx1
  have HL := Lib.hid hlen
  have HB := Lib.hid hb
  clear k1 g1 hx1 hx hlen hb
  unfold senL at K1 G1 HX
  go_enter Try.func16, Try.ntmps16
  go_upto_region 1 with fail
  generalize w.alloc _ = W1 at *
  go_wp2_with fail
  refine (new_any a len cap l W1 HL.out hcap HB.out HX.out).mono ?_
  rintro e W2 ⟨rfl, hc, _, hbl⟩
  have K2 := Lib.hid (K1.out.of (gb_b hbl) (by simp))
  have G2 := Lib.hid (gb_none G1.out (gb_b hbl))
  have hlt1 : w.heap.size < W1.heap.size := K1.out.lt
  generalize W1.heap.size = b at *
  generalize List.take 300 l = l3 at *
  clear K1 G1 HX hbl
  go_wp2_with fail
  refine (range_ex b l3 0 1 6 _ hc (by omega) (by omega) (by omega)).mono ?_
  rintro e w3 ⟨v1, j1, rfl, _, _, c3, ho⟩
  have K3 := Lib.hid (K2.out.of (gb_only ho) (by simp; omega))
  have G3 := Lib.hid (gb_new G2.out (gb_only ho) (by omega))
  clear K2 G2 ho hc
  go_wp2_with fail
  refine (next_ex b l3 j1 6 _ c3 (by omega) (by omega)).mono ?_
  rintro e w4 ⟨v2, j2, rfl, _, _, c4, ho⟩
  have K4 := Lib.hid (K3.out.of (gb_only ho) (by simp; omega))
  have G4 := Lib.hid (gb_new G3.out (gb_only ho) (by omega))
  clear K3 G3 ho c3
  go_wp2_with fail
  refine (next_ex b l3 j2 4 _ c4 (by omega) (by omega)).mono ?_
  rintro e w5 ⟨v3, j3, rfl, _, _, c5, ho⟩
  have K5 := Lib.hid (K4.out.of (gb_only ho) (by simp; omega))
  have G5 := Lib.hid (gb_new G4.out (gb_only ho) (by omega))
  clear K4 G4 ho c4
  go_wp2_with fail
  refine (sensor_any b l3 j3 v1 v2 v3 _ c5).mono ?_
  rintro e w6 ⟨s, rfl, q1, q2, q3, ⟨j6, c6⟩, ho⟩
  clear q1 q2 q3
  have S6 : MaS w b l3 w6.heap.size s (w6.alloc (.cells (senL s).toArray 24)) := by
    have o2 := gb_alloc (gb_refl w6 none) (.cells (senL s).toArray 24)
    have k2 := K5.out.of ho (by simp; omega)
    exact ⟨⟨j6, c6.keep o2 (fun g e => by cases e)⟩, k2.of o2 (by simp), Bk.new _ _ _, gb_none (gb_new G5.out ho (by omega)) o2, hlt1, c6.lt⟩
  clear K5 G5 ho c5 c6
  obtain ⟨s0, s1, s2, s3, s4, s5, s6, s7⟩ := s
  have HS6 := Lib.hid S6
  clear S6
  unfold senL at HS6 ⊢
  dsimp only at HS6 ⊢
  go_upto_region 3 with fail
  generalize w6.alloc _ = W6 at *
  generalize w6.heap.size = n6 at *
  obtain ⟨j7, c7⟩ := HS6.out.cd
  go_wp2_with fail
  refine (next_ex b l3 j7 14 _ c7 (by omega) (by omega)).mono ?_
  rintro e W7 ⟨v, j8, rfl, _, _, c8, ho⟩
  have HS7 := Lib.hid (HS6.out.draw c8 (gb_only ho))
  clear HS6 ho c7 c8
  by_cases h1 : v = 1
  · subst h1
    have o8 := gb_set (gb_refl W7 (some n6)) ⟨n6, 1, none⟩ (.inl rfl) (.int .i64 by_)
    have k8 := HS7.out.k6.set 1 (.int .i64 by_)
    have HS8 := Lib.hid (HS7.out.put (s' := ⟨s0, by_, s2, s3, s4, s5, s6, s7⟩) o8 (by simpa [senL] using k8))
    have k7c := HS7.out.k6.cell
    have k7f := HS7.out.k6.frozen
    clear o8 k8 HS7
    go_upto_region 20 with fail
    generalize World.setCell _ ⟨n6, 1, none⟩ _ = W8 at *
    clear k7c k7f
    have k6c := HS8.out.k6.cell
    have k4c := HS8.out.k4.cell
    have k4f := HS8.out.k4.frozen
    unfold senL at k6c k4c
    have F := HS8.out.fin
    simp only [senL, setC] at F
    have HF9 := Lib.hid F
    clear F
    go_wp2_with fail
    generalize World.setCell _ ⟨w.heap.size, 7, none⟩ _ = W9 at *
    have f9c := HF9.out.1.cell
    refine bodyPost_ret (v := .agg #[.int .i64 s0, .int .i64 by_, .int .i64 s2, .int .i64 s3, .int .i64 s4, .int .i64 s5, .int .i64 s6, .int .i64 s7]) (by simp [results, Try.results16, go_sem, f9c]) rfl ?_
    first | exact ⟨⟨⟨s0, by_, s2, s3, s4, s5, s6, s7⟩, rfl⟩, HF9.out.2⟩ | exact ⟨⟨s0, by_, s2, s3, s4, s5, s6, s7⟩, rfl, HF9.out.2⟩
  have e1 : (v == 1) = false := beq_false_of_ne h1
  by_cases h2 : v = 2
  · subst h2
    have o8 := gb_set (gb_refl W7 (some n6)) ⟨n6, 0, none⟩ (.inl rfl) (.int .i64 by_)
    have k8 := HS7.out.k6.set 0 (.int .i64 by_)
    have HS8 := Lib.hid (HS7.out.put (s' := ⟨by_, s1, s2, s3, s4, s5, s6, s7⟩) o8 (by simpa [senL] using k8))
    have k7c := HS7.out.k6.cell
    have k7f := HS7.out.k6.frozen
    clear o8 k8 HS7
    go_upto_region 20 with fail
    generalize World.setCell _ ⟨n6, 0, none⟩ _ = W8 at *
    clear k7c k7f
    have k6c := HS8.out.k6.cell
    have k4c := HS8.out.k4.cell
    have k4f := HS8.out.k4.frozen
    unfold senL at k6c k4c
    have F := HS8.out.fin
    simp only [senL, setC] at F
    have HF9 := Lib.hid F
    clear F
    go_wp2_with fail
    generalize World.setCell _ ⟨w.heap.size, 7, none⟩ _ = W9 at *
    have f9c := HF9.out.1.cell
    refine bodyPost_ret (v := .agg #[.int .i64 by_, .int .i64 s1, .int .i64 s2, .int .i64 s3, .int .i64 s4, .int .i64 s5, .int .i64 s6, .int .i64 s7]) (by simp [results, Try.results16, go_sem, f9c]) rfl ?_
    first | exact ⟨⟨⟨by_, s1, s2, s3, s4, s5, s6, s7⟩, rfl⟩, HF9.out.2⟩ | exact ⟨⟨by_, s1, s2, s3, s4, s5, s6, s7⟩, rfl, HF9.out.2⟩
  have e2 : (v == 2) = false := beq_false_of_ne h2
  by_cases h3 : v = 3
  · subst h3
    have o8 := gb_set (gb_refl W7 (some n6)) ⟨n6, 2, none⟩ (.inl rfl) (.int .i64 by_)
    have k8 := HS7.out.k6.set 2 (.int .i64 by_)
    have HS8 := Lib.hid (HS7.out.put (s' := ⟨s0, s1, by_, s3, s4, s5, s6, s7⟩) o8 (by simpa [senL] using k8))
    have k7c := HS7.out.k6.cell
    have k7f := HS7.out.k6.frozen
    clear o8 k8 HS7
    go_upto_region 20 with fail
    generalize World.setCell _ ⟨n6, 2, none⟩ _ = W8 at *
    clear k7c k7f
    have k6c := HS8.out.k6.cell
    have k4c := HS8.out.k4.cell
    have k4f := HS8.out.k4.frozen
    unfold senL at k6c k4c
    have F := HS8.out.fin
    simp only [senL, setC] at F
    have HF9 := Lib.hid F
    clear F
    go_wp2_with fail
    generalize World.setCell _ ⟨w.heap.size, 7, none⟩ _ = W9 at *
    have f9c := HF9.out.1.cell
    refine bodyPost_ret (v := .agg #[.int .i64 s0, .int .i64 s1, .int .i64 by_, .int .i64 s3, .int .i64 s4, .int .i64 s5, .int .i64 s6, .int .i64 s7]) (by simp [results, Try.results16, go_sem, f9c]) rfl ?_
    first | exact ⟨⟨⟨s0, s1, by_, s3, s4, s5, s6, s7⟩, rfl⟩, HF9.out.2⟩ | exact ⟨⟨s0, s1, by_, s3, s4, s5, s6, s7⟩, rfl, HF9.out.2⟩
  have e3 : (v == 3) = false := beq_false_of_ne h3
  by_cases h4 : v = 4
  · subst h4
    have o8 := gb_set (gb_refl W7 (some n6)) ⟨n6, 3, none⟩ (.inl rfl) (.int .i64 by_)
    have k8 := HS7.out.k6.set 3 (.int .i64 by_)
    have HS8 := Lib.hid (HS7.out.put (s' := ⟨s0, s1, s2, by_, s4, s5, s6, s7⟩) o8 (by simpa [senL] using k8))
    have k7c := HS7.out.k6.cell
    have k7f := HS7.out.k6.frozen
    clear o8 k8 HS7
    go_upto_region 20 with fail
    generalize World.setCell _ ⟨n6, 3, none⟩ _ = W8 at *
    clear k7c k7f
    have k6c := HS8.out.k6.cell
    have k4c := HS8.out.k4.cell
    have k4f := HS8.out.k4.frozen
    unfold senL at k6c k4c
    have F := HS8.out.fin
    simp only [senL, setC] at F
    have HF9 := Lib.hid F
    clear F
    go_wp2_with fail
    generalize World.setCell _ ⟨w.heap.size, 7, none⟩ _ = W9 at *
    have f9c := HF9.out.1.cell
    refine bodyPost_ret (v := .agg #[.int .i64 s0, .int .i64 s1, .int .i64 s2, .int .i64 by_, .int .i64 s4, .int .i64 s5, .int .i64 s6, .int .i64 s7]) (by simp [results, Try.results16, go_sem, f9c]) rfl ?_
    first | exact ⟨⟨⟨s0, s1, s2, by_, s4, s5, s6, s7⟩, rfl⟩, HF9.out.2⟩ | exact ⟨⟨s0, s1, s2, by_, s4, s5, s6, s7⟩, rfl, HF9.out.2⟩
  have e4 : (v == 4) = false := beq_false_of_ne h4
  by_cases h5 : v = 5
  · subst h5
    have o8 := gb_set (gb_refl W7 (some n6)) ⟨n6, 4, none⟩ (.inl rfl) (.int .i64 by_)
    have k8 := HS7.out.k6.set 4 (.int .i64 by_)
    have HS8 := Lib.hid (HS7.out.put (s' := ⟨s0, s1, s2, s3, by_, s5, s6, s7⟩) o8 (by simpa [senL] using k8))
    have k7c := HS7.out.k6.cell
    have k7f := HS7.out.k6.frozen
    clear o8 k8 HS7
    go_upto_region 20 with fail
    generalize World.setCell _ ⟨n6, 4, none⟩ _ = W8 at *
    clear k7c k7f
    have k6c := HS8.out.k6.cell
    have k4c := HS8.out.k4.cell
    have k4f := HS8.out.k4.frozen
    unfold senL at k6c k4c
    have F := HS8.out.fin
    simp only [senL, setC] at F
    have HF9 := Lib.hid F
    clear F
    go_wp2_with fail
    generalize World.setCell _ ⟨w.heap.size, 7, none⟩ _ = W9 at *
    have f9c := HF9.out.1.cell
    refine bodyPost_ret (v := .agg #[.int .i64 s0, .int .i64 s1, .int .i64 s2, .int .i64 s3, .int .i64 by_, .int .i64 s5, .int .i64 s6, .int .i64 s7]) (by simp [results, Try.results16, go_sem, f9c]) rfl ?_
    first | exact ⟨⟨⟨s0, s1, s2, s3, by_, s5, s6, s7⟩, rfl⟩, HF9.out.2⟩ | exact ⟨⟨s0, s1, s2, s3, by_, s5, s6, s7⟩, rfl, HF9.out.2⟩
  have e5 : (v == 5) = false := beq_false_of_ne h5
  by_cases h6 : v = 6
  · subst h6
    have o8 := gb_set (gb_refl W7 (some n6)) ⟨n6, 5, none⟩ (.inl rfl) (.int .i64 by_)
    have k8 := HS7.out.k6.set 5 (.int .i64 by_)
    have HS8 := Lib.hid (HS7.out.put (s' := ⟨s0, s1, s2, s3, s4, by_, s6, s7⟩) o8 (by simpa [senL] using k8))
    have k7c := HS7.out.k6.cell
    have k7f := HS7.out.k6.frozen
    clear o8 k8 HS7
    go_upto_region 20 with fail
    generalize World.setCell _ ⟨n6, 5, none⟩ _ = W8 at *
    clear k7c k7f
    have k6c := HS8.out.k6.cell
    have k4c := HS8.out.k4.cell
    have k4f := HS8.out.k4.frozen
    unfold senL at k6c k4c
    have F := HS8.out.fin
    simp only [senL, setC] at F
    have HF9 := Lib.hid F
    clear F
    go_wp2_with fail
    generalize World.setCell _ ⟨w.heap.size, 7, none⟩ _ = W9 at *
    have f9c := HF9.out.1.cell
    refine bodyPost_ret (v := .agg #[.int .i64 s0, .int .i64 s1, .int .i64 s2, .int .i64 s3, .int .i64 s4, .int .i64 by_, .int .i64 s6, .int .i64 s7]) (by simp [results, Try.results16, go_sem, f9c]) rfl ?_
    first | exact ⟨⟨⟨s0, s1, s2, s3, s4, by_, s6, s7⟩, rfl⟩, HF9.out.2⟩ | exact ⟨⟨s0, s1, s2, s3, s4, by_, s6, s7⟩, rfl, HF9.out.2⟩
  have e6 : (v == 6) = false := beq_false_of_ne h6
  by_cases h7 : v = 7
  · subst h7
    have o8 := gb_set (gb_refl W7 (some n6)) ⟨n6, 6, none⟩ (.inl rfl) (.int .i64 by_)
    have k8 := HS7.out.k6.set 6 (.int .i64 by_)
    have HS8 := Lib.hid (HS7.out.put (s' := ⟨s0, s1, s2, s3, s4, s5, by_, s7⟩) o8 (by simpa [senL] using k8))
    have k7c := HS7.out.k6.cell
    have k7f := HS7.out.k6.frozen
    clear o8 k8 HS7
    go_upto_region 20 with fail
    generalize World.setCell _ ⟨n6, 6, none⟩ _ = W8 at *
    clear k7c k7f
    have k6c := HS8.out.k6.cell
    have k4c := HS8.out.k4.cell
    have k4f := HS8.out.k4.frozen
    unfold senL at k6c k4c
    have F := HS8.out.fin
    simp only [senL, setC] at F
    have HF9 := Lib.hid F
    clear F
    go_wp2_with fail
    generalize World.setCell _ ⟨w.heap.size, 7, none⟩ _ = W9 at *
    have f9c := HF9.out.1.cell
    refine bodyPost_ret (v := .agg #[.int .i64 s0, .int .i64 s1, .int .i64 s2, .int .i64 s3, .int .i64 s4, .int .i64 s5, .int .i64 by_, .int .i64 s7]) (by simp [results, Try.results16, go_sem, f9c]) rfl ?_
    first | exact ⟨⟨⟨s0, s1, s2, s3, s4, s5, by_, s7⟩, rfl⟩, HF9.out.2⟩ | exact ⟨⟨s0, s1, s2, s3, s4, s5, by_, s7⟩, rfl, HF9.out.2⟩
  have e7 : (v == 7) = false := beq_false_of_ne h7
  by_cases h8 : v = 8
  · subst h8
    have o8 := gb_set (gb_refl W7 (some n6)) ⟨n6, 7, none⟩ (.inl rfl) (.int .i64 by_)
    have k8 := HS7.out.k6.set 7 (.int .i64 by_)
    have HS8 := Lib.hid (HS7.out.put (s' := ⟨s0, s1, s2, s3, s4, s5, s6, by_⟩) o8 (by simpa [senL] using k8))
    have k7c := HS7.out.k6.cell
    have k7f := HS7.out.k6.frozen
    clear o8 k8 HS7
    go_upto_region 20 with fail
    generalize World.setCell _ ⟨n6, 7, none⟩ _ = W8 at *
    clear k7c k7f
    have k6c := HS8.out.k6.cell
    have k4c := HS8.out.k4.cell
    have k4f := HS8.out.k4.frozen
    unfold senL at k6c k4c
    have F := HS8.out.fin
    simp only [senL, setC] at F
    have HF9 := Lib.hid F
    clear F
    go_wp2_with fail
    generalize World.setCell _ ⟨w.heap.size, 7, none⟩ _ = W9 at *
    have f9c := HF9.out.1.cell
    refine bodyPost_ret (v := .agg #[.int .i64 s0, .int .i64 s1, .int .i64 s2, .int .i64 s3, .int .i64 s4, .int .i64 s5, .int .i64 s6, .int .i64 by_]) (by simp [results, Try.results16, go_sem, f9c]) rfl ?_
    first | exact ⟨⟨⟨s0, s1, s2, s3, s4, s5, s6, by_⟩, rfl⟩, HF9.out.2⟩ | exact ⟨⟨s0, s1, s2, s3, s4, s5, s6, by_⟩, rfl, HF9.out.2⟩
  have e8 : (v == 8) = false := beq_false_of_ne h8
  have k6c := HS7.out.k6.cell
  have k4c := HS7.out.k4.cell
  have k4f := HS7.out.k4.frozen
  unfold senL at k6c k4c
  have F := HS7.out.fin
  simp only [senL, setC] at F
  have HF9 := Lib.hid F
  clear F
  go_wp2_with fail
  generalize World.setCell _ ⟨w.heap.size, 7, none⟩ _ = W9 at *
  have f9c := HF9.out.1.cell
  refine bodyPost_ret (v := .agg #[.int .i64 s0, .int .i64 s1, .int .i64 s2, .int .i64 s3, .int .i64 s4, .int .i64 s5, .int .i64 s6, .int .i64 s7]) (by simp [results, Try.results16, go_sem, f9c]) rfl ?_
  first | exact ⟨⟨⟨s0, s1, s2, s3, s4, s5, s6, s7⟩, rfl⟩, HF9.out.2⟩ | exact ⟨⟨s0, s1, s2, s3, s4, s5, s6, s7⟩, rfl, HF9.out.2⟩
end Go.Proofs.Ytackckljldpldaa
