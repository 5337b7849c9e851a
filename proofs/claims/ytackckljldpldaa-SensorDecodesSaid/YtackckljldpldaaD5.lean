/- Stage 5, a drawn sensor. -/
import Derived.Test.YtackckljldpldaaV5
namespace Go.Proofs.Ytackckljldpldaa
open Go.RowKit
attribute [local go_sem ↓] Go.wp_at_zero Go.wp_at_succ

theorem range_bd (l : List Nat) (i : Nat) (lo hi : Int) : 0 ≤ (nx l i (hi - lo + 1)).1 ∧ ((lo + (nx l i (hi - lo + 1)).1 ≤ hi) ∨ (hi < lo ∧ (nx l i (hi - lo + 1)).1 = 0)) := by
  have hb := nx_bd l i (hi - lo + 1)
  refine ⟨hb.1, ?_⟩
  by_cases g : 1 ≤ hi - lo + 1
  · left; have := hb.2 g; omega
  · right; exact ⟨by omega, by simp [nx, show hi - lo + 1 < 1 by omega]⟩

set_option maxHeartbeats 400000 in
theorem range_any (b : Nat) (l : List Nat) (i : Nat) (lo hi : Int) (w : World) (h : CdAt w b l i) (h1 : -4611686018427387904 ≤ lo) (h2 : lo ≤ 4611686018427387900) (h3 : -4611686018427387904 ≤ hi) (h4 : hi ≤ 4611686018427387900) :
    Calls Try.prog 22 #[.pointer (some ⟨b, 0, none⟩), .int .i64 lo, .int .i64 hi] w fun e w' => e = .returned (.int .i64 (lo + (nx l i (hi - lo + 1)).1)) ∧ CdAt w' b l (nx l i (hi - lo + 1)).2 ∧ Only b w w' := by
  have hb := (range_bd l i lo hi).1
  have hz : lo + (nx l i (hi - lo + 1)).1 ≤ 4611686018427387900 := by have := (range_bd l i lo hi).2; omega
  go_enter Try.func22, Try.ntmps22
  go_wp2_with (go_at_call 23; refine (next_any _ _ _ _ _ h (by omega)).mono ?_; rintro e w' ⟨rfl, hc, ho⟩)
  go_ret
  exact ⟨rfl, hc, ho⟩

theorem range_ex (b : Nat) (l : List Nat) (i : Nat) (lo hi : Int) (w : World) (h : CdAt w b l i) (hl : lo ≤ hi) (h1 : -4611686018427387904 ≤ lo) (h4 : hi ≤ 4611686018427387900) :
    Calls Try.prog 22 #[.pointer (some ⟨b, 0, none⟩), .int .i64 lo, .int .i64 hi] w fun e w' => ∃ v : Int, ∃ j : Nat, e = .returned (.int .i64 v) ∧ lo ≤ v ∧ v ≤ hi ∧ CdAt w' b l j ∧ Only b w w' := by
  refine (range_any b l i lo hi w h h1 (by omega) (by omega) h4).mono ?_
  rintro e w' ⟨rfl, hc, ho⟩
  have hb := range_bd l i lo hi
  exact ⟨_, _, rfl, by omega, by omega, hc, ho⟩
theorem next_ex (b : Nat) (l : List Nat) (i : Nat) (n : Int) (w : World) (h : CdAt w b l i) (hl : 1 ≤ n) (h1 : n ≤ 9223372036854775807) :
    Calls Try.prog 23 #[.pointer (some ⟨b, 0, none⟩), .int .i64 n] w fun e w' => ∃ v : Int, ∃ j : Nat, e = .returned (.int .i64 v) ∧ 0 ≤ v ∧ v < n ∧ CdAt w' b l j ∧ Only b w w' := by
  refine (next_any b l i n w h h1).mono ?_
  rintro e w' ⟨rfl, hc, ho⟩
  have hb := nx_bd l i n
  exact ⟨_, _, rfl, hb.1, hb.2 hl, hc, ho⟩

/-- While a sensor is drawn: the codes, the result, the sensor. -/
structure SeS (w : World) (b : Nat) (l : List Nat) (n9 : Nat) (s : Sn) (W : World) : Prop where
  cd : ∃ j, CdAt W b l j
  k8 : Bk W w.heap.size (senL ⟨0, 0, 0, 0, 0, 0, 0, 0⟩).toArray 24
  k9 : Bk W n9 (senL s).toArray 24
  g : w.grownBy W (some b)
  lt : b < w.heap.size
  ln : w.heap.size < n9
theorem SeS.draw {w : World} {b : Nat} {l : List Nat} {n9 : Nat} {s : Sn} {W W' : World} (h : SeS w b l n9 s W) {j : Nat} (c : CdAt W' b l j) (o : W.grownBy W' (some b)) : SeS w b l n9 s W' := by
  have h1 := h.lt
  have h2 := h.ln
  exact ⟨⟨j, c⟩, h.k8.of o (by simp; omega), h.k9.of o (by simp; omega), gb_same h.g o, h.lt, h.ln⟩
theorem SeS.put {w : World} {b : Nat} {l : List Nat} {n9 : Nat} {s s' : Sn} {W W' : World} (h : SeS w b l n9 s W) (o : W.grownBy W' (some n9)) (k : Bk W' n9 (senL s').toArray 24) : SeS w b l n9 s' W' := by
  have h1 := h.lt
  have h2 := h.ln
  obtain ⟨j, c⟩ := h.cd
  exact ⟨⟨j, c.keep o (fun g e => by injection e with e; omega)⟩, h.k8.of o (by simp; omega), k, gb_new h.g o (by omega), h.lt, h.ln⟩
theorem SeS.fin {w : World} {b : Nat} {l : List Nat} {n9 : Nat} {s : Sn} {W : World} (h : SeS w b l n9 s W) : Bk (setC W w.heap.size 0 (senL s)) w.heap.size (senL s).toArray 24 ∧ (∃ j, CdAt (setC W w.heap.size 0 (senL s)) b l j) ∧ w.grownBy (setC W w.heap.size 0 (senL s)) (some b) := by
  have h1 := h.lt
  have o := setC_gb w.heap.size (senL s) W 0
  obtain ⟨j, c⟩ := h.cd
  exact ⟨h.k8.all (senL s) rfl, ⟨j, c.keep o (fun g e => by injection e with e; omega)⟩, gb_new h.g o (Nat.le_refl _)⟩

set_option maxRecDepth 100000 in
set_option maxHeartbeats 8000000 in
theorem sensor_any (b : Nat) (l : List Nat) (i : Nat) (kind addr target : Int) (w : World) (h : CdAt w b l i) :
    Calls Try.prog 21 #[.pointer (some ⟨b, 0, none⟩), .int .i64 kind, .int .i64 addr, .int .i64 target] w fun e w' => ∃ s : Sn, e = .returned (.agg (senL s).toArray) ∧ (s.kind = kind ∧ s.addr = addr ∧ s.target = target) ∧ (1 ≤ s.life ∧ s.life ≤ 200) ∧
      ((4 ≤ kind ∧ s.offset = 0 ∧ s.scale = 1000 ∧ s.error = 0 ∧ s.drift = 0) ∨ (kind < 4 ∧ (-50 ≤ s.offset ∧ s.offset ≤ 20) ∧ (300 ≤ s.scale ∧ s.scale ≤ 2000) ∧ (0 ≤ s.error ∧ s.error ≤ 5) ∧ (0 ≤ s.drift ∧ s.drift ≤ 699))) ∧ (∃ j, CdAt w' b l j) ∧ w.grownBy w' (some b) := by
  have hlt := h.lt
  have h1 : CdAt (w.alloc (.cells (senL ⟨0, 0, 0, 0, 0, 0, 0, 0⟩).toArray 24)) b l i := h.of_block fun k hk => Below.heap_alloc w _ k hk
  have k8 := Bk.new w (senL ⟨0, 0, 0, 0, 0, 0, 0, 0⟩).toArray 24
  have g1 := gb_alloc (gb_refl w (some b)) (.cells (senL ⟨0, 0, 0, 0, 0, 0, 0, 0⟩).toArray 24)
  have H1 := Lib.hid h1
  have K8 := Lib.hid k8
  have G1 := Lib.hid g1
  clear h h1 k8 g1
  unfold senL at H1 K8 G1
  go_enter Try.func21, Try.ntmps21
  go_upto_region 1 with fail
  generalize w.alloc _ = W1 at *
  go_wp2_with fail
  refine (range_ex b l i 1 200 _ H1.out (by omega) (by omega) (by omega)).mono ?_
  rintro e w2 ⟨v1, j1, rfl, a1, b1, c1, ho⟩
  have S2 : SeS w b l w2.heap.size ⟨addr, kind, target, 0, 1000, 0, 0, v1⟩ (w2.alloc (.cells (senL ⟨addr, kind, target, 0, 1000, 0, 0, v1⟩).toArray 24)) := by
    have o2 := gb_alloc (gb_refl w2 none) (.cells (senL ⟨addr, kind, target, 0, 1000, 0, 0, v1⟩).toArray 24)
    have k2 := K8.out.of (gb_only ho) (by simp; omega)
    exact ⟨⟨j1, c1.keep o2 (fun g e => by cases e)⟩, k2.of o2 (by simp), Bk.new _ _ _, gb_none (gb_same G1.out (gb_only ho)) o2, hlt, k2.lt⟩
  have HS2 := Lib.hid S2
  clear S2 c1 ho K8 G1 H1
  unfold senL at HS2
  go_upto_region 2 with fail
  generalize w2.alloc _ = W2 at *
  generalize w2.heap.size = n9 at *
  go_wp2_with fail
  refine (stately_any kind _).mono ?_
  rintro e w3 ⟨rfl, hw3⟩
  subst hw3
  by_cases c0 : 4 ≤ kind
  · rw [decide_eq_true c0]
    have k9c := HS2.out.k9.cell
    have k8c := HS2.out.k8.cell
    have k8f := HS2.out.k8.frozen
    unfold senL at k9c k8c
    have F := HS2.out.fin
    simp only [senL, setC] at F
    have HF9 := Lib.hid F
    clear F
    go_wp2_with fail
    clear k9c k8c k8f
    generalize World.setCell _ ⟨w.heap.size, 7, none⟩ _ = W9 at *
    have f9c := HF9.out.1.cell
    refine bodyPost_ret (v := .agg #[.int .i64 addr, .int .i64 kind, .int .i64 target, .int .i64 0, .int .i64 1000, .int .i64 0, .int .i64 0, .int .i64 v1]) (by simp [results, Try.results21, go_sem, f9c]) rfl ?_
    exact ⟨⟨addr, kind, target, 0, 1000, 0, 0, v1⟩, rfl, ⟨rfl, rfl, rfl⟩, ⟨a1, b1⟩, .inl ⟨c0, rfl, rfl, rfl, rfl⟩, HF9.out.2.1, HF9.out.2.2⟩
  · rw [decide_eq_false c0]
    obtain ⟨j2, c2⟩ := HS2.out.cd
    go_wp2_with fail
    refine (range_ex b l j2 (-50) 20 _ c2 (by omega) (by omega) (by omega)).mono ?_
    rintro e w4 ⟨v2, j3, rfl, a2, b2, c3, ho⟩
    have HS4 := Lib.hid (HS2.out.draw c3 (gb_only ho))
    clear HS2 c2 ho
    go_wp2_with fail
    refine (range_ex b l j3 300 2000 _ c3 (by omega) (by omega) (by omega)).mono ?_
    rintro e w5 ⟨v3, j4, rfl, a3, b3, c4, ho⟩
    have HS5 := Lib.hid (HS4.out.draw c4 (gb_only ho))
    clear HS4 c3 ho
    have o6 := gb_set (gb_set (gb_refl w5 (some n9)) ⟨n9, 3, none⟩ (.inl rfl) (.int .i64 v2)) ⟨n9, 4, none⟩ (.inl rfl) (.int .i64 v3)
    have k6 := (HS5.out.k9.set 3 (.int .i64 v2)).set 4 (.int .i64 v3)
    have HS6 := Lib.hid (HS5.out.put (s' := ⟨addr, kind, target, v2, v3, 0, 0, v1⟩) o6 (by simpa [senL] using k6))
    have k5c := HS5.out.k9.cell
    have k5f := HS5.out.k9.frozen
    clear o6 k6 HS5 c4
    go_upto_region 4 with fail
    generalize World.setCell _ ⟨n9, 4, none⟩ _ = w6 at *
    clear k5c k5f
    obtain ⟨j5, c5⟩ := HS6.out.cd
    go_wp2_with fail
    refine (next_ex b l j5 6 _ c5 (by omega) (by omega)).mono ?_
    rintro e w7 ⟨v4, j6, rfl, a4, b4, c6, ho⟩
    have HS7 := Lib.hid (HS6.out.draw c6 (gb_only ho))
    clear HS6 c5 ho
    go_wp2_with fail
    refine (next_ex b l j6 700 _ c6 (by omega) (by omega)).mono ?_
    rintro e w8 ⟨v5, j7, rfl, a5, b5, c7, ho⟩
    have HS8 := Lib.hid (HS7.out.draw c7 (gb_only ho))
    clear HS7 c6 ho
    have o9 := gb_set (gb_set (gb_refl w8 (some n9)) ⟨n9, 5, none⟩ (.inl rfl) (.int .i64 v4)) ⟨n9, 6, none⟩ (.inl rfl) (.int .i64 v5)
    have k9' := (HS8.out.k9.set 5 (.int .i64 v4)).set 6 (.int .i64 v5)
    have HS2 := Lib.hid (HS8.out.put (s' := ⟨addr, kind, target, v2, v3, v4, v5, v1⟩) o9 (by simpa [senL] using k9'))
    have k8c := HS8.out.k9.cell
    have k8f := HS8.out.k9.frozen
    clear o9 k9' HS8 c7
    go_upto_region 5 with fail
    generalize World.setCell _ ⟨n9, 6, none⟩ _ = w3 at *
    clear k8c k8f
    have k9c := HS2.out.k9.cell
    have k8c := HS2.out.k8.cell
    have k8f := HS2.out.k8.frozen
    unfold senL at k9c k8c
    have F := HS2.out.fin
    simp only [senL, setC] at F
    have HF9 := Lib.hid F
    clear F
    go_wp2_with fail
    clear k9c k8c k8f
    generalize World.setCell _ ⟨w.heap.size, 7, none⟩ _ = W9 at *
    have f9c := HF9.out.1.cell
    refine bodyPost_ret (v := .agg #[.int .i64 addr, .int .i64 kind, .int .i64 target, .int .i64 v2, .int .i64 v3, .int .i64 v4, .int .i64 v5, .int .i64 v1]) (by simp [results, Try.results21, go_sem, f9c]) rfl ?_
    exact ⟨⟨addr, kind, target, v2, v3, v4, v5, v1⟩, rfl, ⟨rfl, rfl, rfl⟩, ⟨a1, b1⟩, .inr ⟨⟨a2, b2⟩, ⟨a3, b3⟩, ⟨a4, by dsimp only; omega⟩, ⟨a5, by dsimp only; omega⟩⟩, HF9.out.2.1, HF9.out.2.2⟩
end Go.Proofs.Ytackckljldpldaa
