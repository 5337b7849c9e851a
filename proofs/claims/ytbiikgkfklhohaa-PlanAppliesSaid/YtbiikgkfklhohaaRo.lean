/- Road: a road drawn from codes. -/
import Derived.Test.YtbiikgkfklhohaaFr
import Derived.Deep.RegionHeld3
import Derived.Deep.DrawnRows
import Derived.Outline
namespace Go.Proofs.Ytbiikgkfklhohaa
open Go.RowKit
attribute [local go_sem ↓] Go.wp_at_zero Go.wp_at_succ

theorem CdAt.alloc {w : World} {b : Nat} {l : List Nat} {i : Nat} (h : CdAt w b l i) (o : Obj) : CdAt (w.alloc o) b l i := h.of_block fun k hk => Below.heap_alloc w o k hk
theorem CdAt.drew {w : World} {b : Nat} {l : List Nat} {i : Nat} (h : CdAt w b l i) : CdAt w.drew b l i := h

structure RdGood (r : Rd) (f t : Int) : Prop where
  f : r.f = f
  t : r.t = t
  len : 1 ≤ r.len ∧ r.len ≤ 400
  area : 4 ≤ r.area ∧ r.area ≤ 30
  closed : r.closed = false
  rest : 1 ≤ r.rest.lo ∧ r.rest.lo ≤ 20 ∧ r.rest.lo ≤ r.rest.hi ∧ r.rest.hi ≤ r.rest.lo + 2
  lift : -300 ≤ r.lift.lo ∧ r.lift.lo ≤ 300 ∧ r.lift.lo ≤ r.lift.hi ∧ r.lift.hi ≤ r.lift.lo + 19

theorem range_ex (b : Nat) (l : List Nat) (i : Nat) (lo hi : Int) (w : World) (h : CdAt w b l i) (hl : lo ≤ hi) (h1 : -4611686018427387904 ≤ lo) (h4 : hi ≤ 4611686018427387900) :
    Calls Try.prog 38 #[.pointer (some ⟨b, 0, none⟩), .int .i64 lo, .int .i64 hi] w fun e w' => ∃ v : Int, ∃ j : Nat, e = .returned (.int .i64 v) ∧ lo ≤ v ∧ v ≤ hi ∧ CdAt w' b l j ∧ Only b w w' := by
  refine (range_any b l i lo hi w h h1 (by omega) (by omega) h4).mono ?_
  rintro e w' ⟨rfl, hc, ho⟩
  have hb := range_bd l i lo hi
  exact ⟨_, _, rfl, by omega, by omega, hc, ho⟩
theorem next_ex (b : Nat) (l : List Nat) (i : Nat) (n : Int) (w : World) (h : CdAt w b l i) (hl : 1 ≤ n) (h1 : n ≤ 9223372036854775807) :
    Calls Try.prog 37 #[.pointer (some ⟨b, 0, none⟩), .int .i64 n] w fun e w' => ∃ v : Int, ∃ j : Nat, e = .returned (.int .i64 v) ∧ 0 ≤ v ∧ v < n ∧ CdAt w' b l j ∧ Only b w w' := by
  refine (next_any b l i n w h h1).mono ?_
  rintro e w' ⟨rfl, hc, ho⟩
  have hb := nx_bd l i n
  exact ⟨_, _, rfl, hb.1, hb.2 hl, hc, ho⟩
theorem one_ex (b : Nat) (l : List Nat) (i : Nat) (n : Int) (w : World) (h : CdAt w b l i) (h1 : -4611686018427387904 ≤ n) (h2 : n ≤ 4611686018427387900) :
    Calls Try.prog 39 #[.pointer (some ⟨b, 0, none⟩), .int .i64 n] w fun e w' => ∃ v : Bool, ∃ j : Nat, e = .returned (.bool v) ∧ CdAt w' b l j ∧ Only b w w' := by
  refine (one_any b l i n w h h1 h2).mono ?_
  rintro e w' ⟨rfl, hc, ho⟩
  exact ⟨_, _, rfl, hc, ho⟩
theorem only_cells {b g : Nat} {w w' : World} (h : Only b w w') (hg : g ≠ b) : (∀ o, w'.cell? ⟨g, o, none⟩ = w.cell? ⟨g, o, none⟩) ∧ (∀ o, w'.frozen? ⟨g, o, none⟩ = w.frozen? ⟨g, o, none⟩) :=
  ⟨fun o => h.cell (p := ⟨g, o, none⟩) hg, fun o => h.frozen (p := ⟨g, o, none⟩) hg⟩

/-- The state in Road: the codes, the result's block, the road's block. -/
structure RoSt (w : World) (b : Nat) (l : List Nat) (n6 n7 : Nat) (cs : Array Value) (W : World) : Prop where
  cd : ∃ j, CdAt W b l j
  k6 : Bk W n6 #[.int .i64 0, .int .i64 0, .int .i64 0, .int .i64 0, .bool false, .bool false, .int .i64 0, .int .i64 0, .int .i64 0, .int .i64 0] 41
  k7 : Bk W n7 cs 41
  g : w.grownBy W (some b)
  lt : b < n6 ∧ n6 < n7
  n6 : w.heap.size = n6
theorem RoSt.drew {w : World} {b : Nat} {l : List Nat} {n6 n7 : Nat} {cs : Array Value} {W : World} (h : RoSt w b l n6 n7 cs W) : RoSt w b l n6 n7 cs W.drew := ⟨h.cd, h.k6, h.k7, gb_drew h.g, h.lt, h.n6⟩
theorem RoSt.only {w : World} {b : Nat} {l : List Nat} {n6 n7 : Nat} {cs : Array Value} {W W' : World} (h : RoSt w b l n6 n7 cs W) (o : Only b W W') {j : Nat} (c : CdAt W' b l j) : RoSt w b l n6 n7 cs W' :=
  ⟨⟨j, c⟩, h.k6.of (gb_only o) (by have := h.lt; simp; omega), h.k7.of (gb_only o) (by have := h.lt; simp; omega), gb_same h.g (gb_only o), h.lt, h.n6⟩
theorem RoSt.set {w : World} {b : Nat} {l : List Nat} {n6 n7 : Nat} {cs : Array Value} {W : World} (h : RoSt w b l n6 n7 cs W) (o : Nat) (v : Value) : RoSt w b l n6 n7 (cs.setIfInBounds o v) (W.setCell ⟨n7, o, none⟩ v) := by
  have g1 : W.grownBy (W.setCell ⟨n7, o, none⟩ v) (some n7) := gb_set (gb_refl _ _) _ (.inl rfl) _
  obtain ⟨j, hc⟩ := h.cd
  exact ⟨⟨j, hc.keep g1 (fun g e => by injection e with e; have := h.lt; omega)⟩, h.k6.of g1 (by have := h.lt; simp; omega), h.k7.set o v, gb_set h.g _ (.inr (by rw [h.n6]; have := h.lt; simp; omega)) _, h.lt, h.n6⟩

theorem RoSt.fin {w : World} {b : Nat} {l : List Nat} {n6 n7 : Nat} {cs : Array Value} {W : World} (h : RoSt w b l n6 n7 cs W) (vs : List Value) (hl : vs.length = 10) :
    Bk (setC W n6 0 vs) n6 vs.toArray 41 ∧ (∃ j, CdAt (setC W n6 0 vs) b l j) ∧ w.grownBy (setC W n6 0 vs) (some b) := by
  have hl2 := h.lt
  obtain ⟨j, hc⟩ := h.cd
  exact ⟨h.k6.all vs (by simp [hl]), ⟨j, hc.keep (setC_gb n6 vs W 0) (fun g e => by injection e with e; omega)⟩, gb_new h.g (setC_gb n6 vs W 0) (by rw [h.n6]; exact Nat.le_refl _)⟩

set_option maxHeartbeats 1000000 in
theorem road_any (b : Nat) (l : List Nat) (i : Nat) (f t : Int) (w : World) (h : CdAt w b l i) :
    Calls Try.prog 35 #[.pointer (some ⟨b, 0, none⟩), .int .i64 f, .int .i64 t] w fun e w' => ∃ r : Rd, e = .returned r.v ∧ RdGood r f t ∧ (∃ j, CdAt w' b l j) ∧ w.grownBy w' (some b) := by
  have hb := h.lt
  go_enter Try.func35, Try.ntmps35
  go_wp2_with fail
  have hC := h.alloc (.cells #[.int .i64 0, .int .i64 0, .int .i64 0, .int .i64 0, .bool false, .bool false, .int .i64 0, .int .i64 0, .int .i64 0, .int .i64 0] 41)
  have hK := Bk.new w #[.int .i64 0, .int .i64 0, .int .i64 0, .int .i64 0, .bool false, .bool false, .int .i64 0, .int .i64 0, .int .i64 0, .int .i64 0] 41
  have hG := gb_alloc (gb_refl w (some b)) (.cells #[.int .i64 0, .int .i64 0, .int .i64 0, .int .i64 0, .bool false, .bool false, .int .i64 0, .int .i64 0, .int .i64 0, .int .i64 0] 41)
  generalize w.alloc _ = W at *
  obtain ⟨n6, hn⟩ : ∃ n6, w.heap.size = n6 := ⟨_, rfl⟩
  rw [hn] at hb hK
  simp only [hn]
  have HN := Lib.hid hn
  clear hn h
  refine (range_ex _ _ _ _ _ _ hC (by omega) (by omega) (by omega)).mono ?_
  rintro e w1 ⟨v1, j1, rfl, a1, b1, hC1, ho⟩
  replace hG := gb_same hG (gb_only ho)
  replace hK := hK.of (gb_only ho) (by simp; omega)
  clear ho hC
  go_wp2_with fail
  refine (range_ex _ _ _ _ _ _ hC1 (by omega) (by omega) (by omega)).mono ?_
  rintro e w2 ⟨v2, j2, rfl, a2, b2, hC2, ho⟩
  replace hG := gb_same hG (gb_only ho)
  replace hK := hK.of (gb_only ho) (by simp; omega)
  clear ho hC1
  go_wp2_with fail
  refine (next_ex _ _ _ _ _ hC2 (by omega) (by omega)).mono ?_
  rintro e w3 ⟨v3, j3, rfl, a3, b3, hC3, ho⟩
  replace hG := gb_same hG (gb_only ho)
  replace hK := hK.of (gb_only ho) (by simp; omega)
  clear ho hC2
  go_wp2_with fail
  refine (range_ex _ _ _ _ _ _ hC3 (by omega) (by omega) (by omega)).mono ?_
  rintro e w4 ⟨v4, j4, rfl, a4, b4, hC4, ho⟩
  replace hG := gb_same hG (gb_only ho)
  replace hK := hK.of (gb_only ho) (by simp; omega)
  clear ho hC3
  go_wp2_with fail
  have S5 : RoSt w b l n6 w4.heap.size #[.int .i64 f, .int .i64 t, .int .i64 v1, .int .i64 v2, .bool (decide (0 < v3)), .bool false, .int .i64 v4, .int .i64 0, .int .i64 0, .int .i64 0] (w4.alloc (.cells #[.int .i64 f, .int .i64 t, .int .i64 v1, .int .i64 v2, .bool (decide (0 < v3)), .bool false, .int .i64 v4, .int .i64 0, .int .i64 0, .int .i64 0] 41)) :=
    ⟨⟨_, hC4.alloc _⟩, hK.of (gb_alloc (gb_refl _ none) _) (by simp), Bk.new _ _ _, gb_alloc hG _, ⟨hb, hK.lt⟩, HN.out⟩
  clear hC4 hK hG
  generalize w4.alloc _ = w5 at *
  generalize w4.heap.size = n7 at *
  have c6 : w5.cell? ⟨n7, 6, none⟩ = some (.int .i64 v4) := S5.k7.cell 6
  obtain ⟨jc, hC5⟩ := S5.cd
  have hHC := Lib.hid hC5
  have hne : n7 ≠ b := by have := S5.lt; omega
  clear hC5
  go_region_held3 (fun w' => w'.cell? ⟨n7, 6, none⟩ = some (.int .i64 v4))
    (first | go_keep | (exact q6) | (exact (S6.set 7 _).k7.cell 6))
    ((go_at_call 37; refine (next_ex _ _ _ _ _ (CdAt.drew hHC.out) (by omega) (by omega)).mono ?_; rintro e w6 ⟨v5, j5, rfl, a5, b5, hC6, ho⟩; have S6 := S5.drew.only ho hC6; have q7 : w6.cell? ⟨n7, 7, none⟩ = some (.int .i64 0) := S6.k7.cell 7; have q7f : w6.frozen? ⟨n7, 7, none⟩ = false := S6.k7.frozen 7; have q6 : w6.cell? ⟨n7, 6, none⟩ = some (.int .i64 v4) := S6.k7.cell 6; clear ho hC6))
  clear c6 hHC S5 q6 q7 q7f
  go_wp2_with fail
  have S7 := S6.set 7 (.int .i64 (v4 + v5))
  clear S6
  generalize w6.setCell _ _ = w7 at *
  obtain ⟨jd, hC7⟩ := S7.cd
  refine (range_ex _ _ _ _ _ _ hC7 (by omega) (by omega) (by omega)).mono ?_
  rintro e w8 ⟨v6, j6, rfl, a6, b6, hC8, ho⟩
  have S8 := S7.only ho hC8
  clear S7 hC7 hC8 ho
  have q8 : w8.cell? ⟨n7, 8, none⟩ = some (.int .i64 0) := S8.k7.cell 8
  have q8f : w8.frozen? ⟨n7, 8, none⟩ = false := S8.k7.frozen 8
  go_wp2_with fail
  clear q8 q8f
  replace S8 := S8.set 8 (.int .i64 v6)
  generalize w8.setCell _ _ = w9 at *
  have c8 : w9.cell? ⟨n7, 8, none⟩ = some (.int .i64 v6) := S8.k7.cell 8
  obtain ⟨je, hC9⟩ := S8.cd
  have hHC := Lib.hid hC9
  clear hC9
  go_region_held3 (fun w' => w'.cell? ⟨n7, 8, none⟩ = some (.int .i64 v6))
    (first | go_keep | (exact q8) | (exact (S10.set 9 _).k7.cell 8))
    ((go_at_call 37; refine (next_ex _ _ _ _ _ (CdAt.drew hHC.out) (by omega) (by omega)).mono ?_; rintro e w10 ⟨v7, j7, rfl, a7, b7, hC10, ho⟩; have S10 := S8.drew.only ho hC10; have q9 : w10.cell? ⟨n7, 9, none⟩ = some (.int .i64 0) := S10.k7.cell 9; have q9f : w10.frozen? ⟨n7, 9, none⟩ = false := S10.k7.frozen 9; have q8 : w10.cell? ⟨n7, 8, none⟩ = some (.int .i64 v6) := S10.k7.cell 8; clear ho hC10))
  clear c8 hHC S8 q8 q9 q9f
  simp only [IntWalk.i64_in (v6 + v7) (by omega)]
  replace S10 := S10.set 9 (.int .i64 (v6 + v7))
  generalize w10.setCell ⟨n7, 9, none⟩ (.int .i64 (v6 + v7)) = w11 at *
  have k7 := S10.k7
  simp only [List.setIfInBounds_toArray, List.set_cons_succ, List.set_cons_zero] at k7
  have k7c := k7.cell
  have k6c := S10.k6.cell
  have k6f := S10.k6.frozen
  go_wp2_with fail
  obtain ⟨hk, hc, hg⟩ := S10.fin [.int .i64 f, .int .i64 t, .int .i64 v1, .int .i64 v2, .bool (decide (0 < v3)), .bool false, .int .i64 v4, .int .i64 (v4 + v5), .int .i64 v6, .int .i64 (v6 + v7)] rfl
  simp only [setC] at hk hc hg
  generalize World.setCell _ ⟨n6, 9, none⟩ _ = W12 at *
  have hkc := hk.cell
  clear k6c k6f k7c k7 S10
  refine bodyPost_ret (v := .agg #[.int .i64 f, .int .i64 t, .int .i64 v1, .int .i64 v2, .bool (decide (0 < v3)), .bool false, .int .i64 v4, .int .i64 (v4 + v5), .int .i64 v6, .int .i64 (v6 + v7)]) (by simp [results, Try.results35, go_sem, hkc]) rfl ?_
  exact ⟨⟨f, t, v1, v2, decide (0 < v3), false, ⟨v4, v4 + v5⟩, ⟨v6, v6 + v7⟩⟩, rfl, ⟨rfl, rfl, ⟨a1, b1⟩, ⟨a2, b2⟩, rfl, ⟨a4, b4, by simp; omega, by simp; omega⟩, ⟨a6, b6, by simp; omega, by simp; omega⟩⟩, hc, hg⟩
end Go.Proofs.Ytbiikgkfklhohaa
