/- Stage 5, bytes, a telegram, a drawn telegram. -/
import Derived.Test.YtackckljldpldaaD5
import Derived.Laws.BitsLemmas
namespace Go.Proofs.Ytackckljldpldaa
open Go.RowKit
attribute [local go_sem ↓] Go.wp_at_zero Go.wp_at_succ

theorem wraps_i64 (n : Int) (h₀ : 0 ≤ n) (h₁ : n < 2 ^ 31) : IntKind.i64.wrap n = n := by rw [IntKind.wrap_i64]; omega
def bytes (l : List Nat) : List Value := l.map fun (x : Nat) => Value.int .u8 (x : Int)
theorem bytes_len (l : List Nat) : (bytes l).length = l.length * 1 := by simp [bytes]
/-- A telegram. -/
structure Fr where
  addr : Int
  kind : Int
  data : List Nat
theorem or_i64 (x y : Nat) (hx : x < 256) (hy : y < 256) : bits .or .i64 ((x : Int) * 256) (y : Int) = (x : Int) * 256 + (y : Int) :=
  bits_join .i64 31 (by decide) wraps_i64 8 _ _ (by omega) (by omega) (by omega) (by omega) (by omega) (by omega)
theorem sl_cell {w : World} {g off n cap : Nat} {l : List Nat} (h : Sl w (.slice (some ⟨g, off, none⟩) n cap) 1 n (bytes l)) (i : Nat) (hi : i < n) (hl : l.length = n) : w.cell? ⟨g, off + i, none⟩ = some (.int .u8 (l.getD i 0 : Nat)) := by
  obtain ⟨a, c, e, hn, hm, hc⟩ := h.shape
  injection e with e1 e2 e3
  rcases hc with h0 | ⟨g', off', e', hcell⟩
  · omega
  · subst e1
    injection e' with e'
    injection e' with e1 e2 e3
    subst e1 e2
    have := hcell i (by omega)
    rw [this]
    simp [bytes, List.getD_eq_getElem?_getD, List.getElem?_eq_getElem (show i < l.length by omega)]
theorem CdAt.alloc {w : World} {b : Nat} {l : List Nat} {i : Nat} (h : CdAt w b l i) (o : Obj) : CdAt (w.alloc o) b l i := h.of_block fun k hk => Below.heap_alloc w o k hk
theorem CdAt.drew {w : World} {b : Nat} {l : List Nat} {i : Nat} (h : CdAt w b l i) : CdAt w.drew b l i := h
/-- While a telegram is drawn: the codes, the result's block. -/
structure FmS (w : World) (b : Nat) (l : List Nat) (W : World) : Prop where
  cd : ∃ j, CdAt W b l j
  k2 : Bk W w.heap.size #[.int .i64 0, .int .i64 0, .slice none 0 0] 34
  g : w.grownBy W (some b)
  lt : b < w.heap.size
theorem FmS.draw {w : World} {b : Nat} {l : List Nat} {W W' : World} (h : FmS w b l W) {j : Nat} (c : CdAt W' b l j) (o : W.grownBy W' (some b)) : FmS w b l W' := by
  have hl := h.lt
  exact ⟨⟨j, c⟩, h.k2.of o (by simp; omega), gb_same h.g o, h.lt⟩
theorem FmS.by_ {w : World} {b : Nat} {l : List Nat} {W W' : World} (h : FmS w b l W) (o : W.grownBy W' none) : FmS w b l W' :=
  let ⟨j, c⟩ := h.cd
  ⟨⟨j, c.keep o (fun g e => by cases e)⟩, h.k2.of o (by simp), gb_none h.g o, h.lt⟩
theorem FmS.new {w : World} {b : Nat} {l : List Nat} {W W' : World} {g : Nat} (h : FmS w b l W) (o : W.grownBy W' (some g)) (hg : w.heap.size < g) : FmS w b l W' := by
  have hl := h.lt
  obtain ⟨j, c⟩ := h.cd
  exact ⟨⟨j, c.keep o (fun g' e => by injection e with e; omega)⟩, h.k2.of o (by simp; omega), gb_new h.g o (by omega), h.lt⟩
theorem FmS.fin {w : World} {b : Nat} {l : List Nat} {W : World} (h : FmS w b l W) (x y z : Value) : Bk (setC W w.heap.size 0 [x, y, z]) w.heap.size #[x, y, z] 34 ∧ (∃ j, CdAt (setC W w.heap.size 0 [x, y, z]) b l j) ∧ w.grownBy (setC W w.heap.size 0 [x, y, z]) (some b) ∧ W.grownBy (setC W w.heap.size 0 [x, y, z]) (some w.heap.size) := by
  have hl := h.lt
  have o := setC_gb w.heap.size [x, y, z] W 0
  obtain ⟨j, c⟩ := h.cd
  exact ⟨h.k2.all [x, y, z] rfl, ⟨j, c.keep o (fun g' e => by injection e with e; omega)⟩, gb_new h.g o (Nat.le_refl _), o⟩
/-- The data of a block of two bytes, or its beginning. -/
theorem data_sl {W : World} {g x y : Nat} (k : Bk W g #[.int .u8 x, .int .u8 y] 5) (n : Nat) (hn : n ≤ 2) : Sl W (.slice (some ⟨g, 0, none⟩) n 2) 1 n (bytes ([x, y].take n)) := by
  refine ⟨by rw [bytes_len, List.length_take]; simp; omega, .inr ⟨g, 0, 2, rfl, hn, by simp [maxLen], fun j hj => ?_⟩⟩
  rw [Nat.zero_add, k.cell]
  have hj2 : j < n := by omega
  have hn3 : n = 0 ∨ n = 1 ∨ n = 2 := by omega
  rcases hn3 with rfl | rfl | rfl
  · omega
  · obtain rfl : j = 0 := by omega
    rfl
  · obtain rfl | rfl : j = 0 ∨ j = 1 := by omega
    · rfl
    · rfl

set_option maxRecDepth 100000 in
set_option maxHeartbeats 4000000 in
theorem frame_any (b : Nat) (l : List Nat) (i : Nat) (w : World) (h : CdAt w b l i) :
    Calls Try.prog 24 #[.pointer (some ⟨b, 0, none⟩)] w fun e w' => ∃ (f : Fr) (dv : Value), e = .returned (.agg #[.int .i64 f.addr, .int .i64 f.kind, dv]) ∧ Sl w' dv 1 f.data.length (bytes f.data) ∧ (∀ x ∈ f.data, x < 256) ∧ (0 ≤ f.addr ∧ f.addr ≤ 5) ∧ (0 ≤ f.kind ∧ f.kind ≤ 3) ∧ f.data.length ≤ 2 ∧ (∃ j, CdAt w' b l j) ∧ w.grownBy w' (some b) := by
  have hb := h.lt
  have S : FmS w b l (w.alloc (.cells #[.int .i64 0, .int .i64 0, .slice none 0 0] 34)) := ⟨⟨i, h.alloc _⟩, Bk.new _ _ _, gb_alloc (gb_refl _ _) _, hb⟩
  clear h
  go_enter Try.func24, Try.ntmps24
  go_wp2_with fail
  generalize w.alloc _ = W0 at *
  obtain ⟨j0, c0⟩ := S.cd
  refine (next_ex _ _ _ _ _ c0 (by omega) (by omega)).mono ?_
  rintro e w1 ⟨v1, j1, rfl, a1, b1, c1, ho⟩
  replace S := S.draw c1 (gb_only ho)
  clear ho c0
  go_wp2_with fail
  refine (next_ex _ _ _ _ _ c1 (by omega) (by omega)).mono ?_
  rintro e w2 ⟨v2, j2, rfl, a2, b2, c2, ho⟩
  replace S := S.draw c2 (gb_only ho)
  clear ho c1
  go_wp2_with fail
  refine (next_ex _ _ _ _ _ c2 (by omega) (by omega)).mono ?_
  rintro e w3 ⟨v3, j3, rfl, a3, b3, c3, ho⟩
  replace S := S.draw c3 (gb_only ho)
  clear ho c2 c3
  obtain ⟨x, rfl⟩ : ∃ x : Nat, v2 = x := ⟨v2.toNat, by omega⟩
  obtain ⟨y, rfl⟩ : ∃ y : Nat, v3 = y := ⟨v3.toNat, by omega⟩
  have u1 : IntKind.u8.wrap (x : Int) = (x : Int) := wraps_u8 _ (by omega) (by omega)
  have u2 : IntKind.u8.wrap (y : Int) = (y : Int) := wraps_u8 _ (by omega) (by omega)
  have hk2 := S.k2.lt
  have kd := (Bk.new w3 #[.int .u8 x, .int .u8 y] 5).of (gb_alloc (gb_refl _ none) (.cells #[.int .i64 v1, .int .i64 1, .slice (some ⟨w3.heap.size, 0, none⟩) 2 2] 34)) (by simp)
  have k3 := Bk.new (w3.alloc (.cells #[.int .u8 x, .int .u8 y] 5)) #[.int .i64 v1, .int .i64 1, .slice (some ⟨w3.heap.size, 0, none⟩) 2 2] 34
  rw [World.size_alloc] at k3
  replace S := S.by_ (gb_alloc (gb_alloc (gb_refl _ none) (.cells #[.int .u8 x, .int .u8 y] 5)) (.cells #[.int .i64 v1, .int .i64 1, .slice (some ⟨w3.heap.size, 0, none⟩) 2 2] 34))
  go_upto_region 2 with fail
  generalize (w3.alloc _).alloc _ = W4 at *
  generalize w3.heap.size = n4 at *
  obtain ⟨j4, c4⟩ := S.cd
  go_wp2_with fail
  refine (next_ex _ _ _ _ _ c4 (by omega) (by omega)).mono ?_
  rintro e w5 ⟨v4, j5, rfl, a4, b4, c5, ho⟩
  have hbb := S.lt
  replace S := S.draw c5 (gb_only ho)
  replace kd := kd.of (gb_only ho) (by simp; omega)
  replace k3 := k3.of (gb_only ho) (by simp; omega)
  clear ho c4 u1 u2
  have e7 : v4 = 5 ∨ v4 = 6 ∨ v4 = 7 ∨ (v4 ≠ 5 ∧ v4 ≠ 6 ∧ v4 ≠ 7) := by omega
  rcases e7 with rfl | rfl | rfl | e8
  · have o := gb_set (gb_set (gb_refl w5 (some (n4 + 1))) ⟨n4 + 1, 1, none⟩ (.inl rfl) (.int .i64 2)) ⟨n4 + 1, 2, none⟩ (.inl rfl) (.slice none 0 0)
    have k3c := k3.cell
    have k3f := k3.frozen
    have k3' := (k3.set 1 (.int .i64 2)).set 2 (.slice none 0 0)
    simp only [List.setIfInBounds_toArray, List.set_cons_succ, List.set_cons_zero] at k3'
    replace S := S.new o (by omega)
    replace kd := kd.of o (by simp)
    clear k3
    have k3 := k3'
    clear k3' o
    go_upto_region 9 with fail
    generalize World.setCell _ _ _ = W9 at *
    have k3c := k3.cell
    have k2c := S.k2.cell
    have k2f := S.k2.frozen
    have F := S.fin (.int .i64 v1) (.int .i64 2) (.slice none 0 0)
    simp only [setC] at F
    have HF := Lib.hid F
    have HD := Lib.hid kd
    clear F S kd k3
    go_wp2_with fail
    obtain ⟨fk, fc, fg, fo⟩ := HF.out
    generalize World.setCell _ ⟨w.heap.size, 2, none⟩ _ = W10 at *
    have fkc := fk.cell
    clear k3c k2c k2f
    have hd := HD.out.of fo (by simp; omega)
    refine bodyPost_ret (v := .agg #[.int .i64 v1, .int .i64 2, .slice none 0 0]) (by simp [results, Try.results24, go_sem, fkc]) rfl ?_
    exact ⟨⟨v1, 2, []⟩, _, rfl, ⟨rfl, .inl ⟨rfl, .inl rfl⟩⟩, by intro z hz; simp at hz <;> omega, ⟨by dsimp only; omega, by dsimp only; omega⟩, ⟨by dsimp only; omega, by dsimp only; omega⟩, by simp, fc, fg⟩
  · go_wp2_with fail
    refine (next_ex _ _ _ _ _ c5 (by omega) (by omega)).mono ?_
    rintro e w6 ⟨v6, j6, rfl, a6, b6, c6, ho⟩
    replace S := S.draw c6 (gb_only ho)
    replace kd := kd.of (gb_only ho) (by simp; omega)
    replace k3 := k3.of (gb_only ho) (by simp; omega)
    clear ho c5 c6
    have o := gb_set (gb_refl w6 (some (n4 + 1))) ⟨n4 + 1, 1, none⟩ (.inl rfl) (.int .i64 v6)
    have k3c := k3.cell
    have k3f := k3.frozen
    have k3' := k3.set 1 (.int .i64 v6)
    simp only [List.setIfInBounds_toArray, List.set_cons_succ, List.set_cons_zero] at k3'
    replace S := S.new o (by omega)
    replace kd := kd.of o (by simp)
    clear k3
    have k3 := k3'
    clear k3' o
    go_upto_region 9 with fail
    generalize World.setCell _ _ _ = W9 at *
    have k3c := k3.cell
    have k2c := S.k2.cell
    have k2f := S.k2.frozen
    have F := S.fin (.int .i64 v1) (.int .i64 v6) (.slice (some ⟨n4, 0, none⟩) 2 2)
    simp only [setC] at F
    have HF := Lib.hid F
    have HD := Lib.hid kd
    clear F S kd k3
    go_wp2_with fail
    obtain ⟨fk, fc, fg, fo⟩ := HF.out
    generalize World.setCell _ ⟨w.heap.size, 2, none⟩ _ = W10 at *
    have fkc := fk.cell
    clear k3c k2c k2f
    have hd := HD.out.of fo (by simp; omega)
    refine bodyPost_ret (v := .agg #[.int .i64 v1, .int .i64 v6, .slice (some ⟨n4, 0, none⟩) 2 2]) (by simp [results, Try.results24, go_sem, fkc]) rfl ?_
    exact ⟨⟨v1, v6, [x, y]⟩, _, rfl, data_sl hd 2 (by omega), by intro z hz; simp at hz <;> omega, ⟨by dsimp only; omega, by dsimp only; omega⟩, ⟨by dsimp only; omega, by dsimp only; omega⟩, by simp, fc, fg⟩
  · go_upto_region 8 with fail
    have k3c : w5.cell? ⟨n4 + 1, 2, none⟩ = some (.slice (some ⟨n4, 0, none⟩) 2 2) := k3.cell 2
    have HSx := Lib.hid S
    have HKd := Lib.hid kd
    have HK3 := Lib.hid k3
    clear S kd k3
    go_region_law (first
      | (go_simp; go_at_call 23; refine (next_ex _ _ _ _ _ c5.drew (by omega) (by omega)).mono ?_; rintro e w6 ⟨v6, j6, rfl, a6, b6, c6, ho⟩; have S6 := (HSx.out.by_ (gb_drew (gb_refl _ _))).draw c6 (gb_only ho); have kd6 := (HKd.out.of (gb_drew (gb_refl _ none)) (by simp)).of (gb_only ho) (by simp; omega); have k36 := (HK3.out.of (gb_drew (gb_refl _ none)) (by simp)).of (gb_only ho) (by simp; omega); obtain ⟨v, hv⟩ : ∃ v : Nat, v6 = v := ⟨v6.toNat, by omega⟩; subst hv; have hv2 : (v : Int) ≤ 2 := (by omega); have m6 : w6.cell? ⟨n4 + 1, 2, none⟩ = some (.slice (some ⟨n4, 0, none⟩) 2 2) := k36.cell 2; have m6f := k36.frozen 2; clear ho))
    all_goals
      have o := gb_set (gb_refl w6 (some (n4 + 1))) ⟨n4 + 1, 2, none⟩ (.inl rfl) (.slice (some ⟨n4, 0, none⟩) v 2)
      have k3 := k36.set 2 (.slice (some ⟨n4, 0, none⟩) v 2)
      simp only [List.setIfInBounds_toArray, List.set_cons_succ, List.set_cons_zero] at k3
      have S := S6.new o (by omega)
      have kd := kd6.of o (by simp)
      have hv : v ≤ 2 := by omega
      clear o S6 kd6 k36
      go_upto_region 9 with fail
      generalize World.setCell _ _ _ = W9 at *
      have k3c := k3.cell
      have k2c := S.k2.cell
      have k2f := S.k2.frozen
      have F := S.fin (.int .i64 v1) (.int .i64 1) (.slice (some ⟨n4, 0, none⟩) v 2)
      simp only [setC] at F
      have HF := Lib.hid F
      have HD := Lib.hid kd
      clear F S kd k3
      go_wp2_with fail
      obtain ⟨fk, fc, fg, fo⟩ := HF.out
      generalize World.setCell _ ⟨w.heap.size, 2, none⟩ _ = W10 at *
      have fkc := fk.cell
      clear k3c k2c k2f
      have hd := HD.out.of fo (by simp; omega)
      refine bodyPost_ret (v := .agg #[.int .i64 v1, .int .i64 1, .slice (some ⟨n4, 0, none⟩) v 2]) (by simp [results, Try.results24, go_sem, fkc]) rfl ?_
      have e9 : ([x, y].take v).length = v := by simp; omega
      refine ⟨⟨v1, 1, [x, y].take v⟩, _, rfl, ?_, ?_, ⟨by dsimp only; omega, by dsimp only; omega⟩, ⟨by dsimp only; omega, by dsimp only; omega⟩, by dsimp only; omega, fc, fg⟩
      · dsimp only
        rw [e9]
        exact data_sl hd v hv
      · intro z hz
        have := List.mem_of_mem_take hz
        simp at this
        omega
  · have q5 : (v4 == 5) = false := by simp; omega
    have q6 : (v4 == 6) = false := by simp; omega
    have q7 : (v4 == 7) = false := by simp; omega
    clear e8
    go_upto_region 9 with fail
    have k3c := k3.cell
    have k2c := S.k2.cell
    have k2f := S.k2.frozen
    have F := S.fin (.int .i64 v1) (.int .i64 1) (.slice (some ⟨n4, 0, none⟩) 2 2)
    simp only [setC] at F
    have HF := Lib.hid F
    have HD := Lib.hid kd
    clear F S kd k3
    go_wp2_with fail
    obtain ⟨fk, fc, fg, fo⟩ := HF.out
    generalize World.setCell _ ⟨w.heap.size, 2, none⟩ _ = W10 at *
    have fkc := fk.cell
    clear k3c k2c k2f
    have hd := HD.out.of fo (by simp; omega)
    refine bodyPost_ret (v := .agg #[.int .i64 v1, .int .i64 1, .slice (some ⟨n4, 0, none⟩) 2 2]) (by simp [results, Try.results24, go_sem, fkc]) rfl ?_
    exact ⟨⟨v1, 1, [x, y]⟩, _, rfl, data_sl hd 2 (by omega), by intro z hz; simp at hz <;> omega, ⟨by dsimp only; omega, by dsimp only; omega⟩, ⟨by dsimp only; omega, by dsimp only; omega⟩, by simp, fc, fg⟩
end Go.Proofs.Ytackckljldpldaa
