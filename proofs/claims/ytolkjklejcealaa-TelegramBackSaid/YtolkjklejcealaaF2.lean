/- A drawn telegram, with the block of its data. -/
import Derived.Test.YtolkjklejcealaaPm
namespace Go.Proofs.Ytolkjklejcealaa
open Go.RowKit
attribute [local go_sem ↓] Go.wp_at_zero Go.wp_at_succ

/-- Data that are nil, or the beginning of a block of two bytes. -/
def DataK (W : World) (dv : Value) (l : List Nat) : Prop := (dv = .slice none 0 0 ∧ l = []) ∨ ∃ (g x y n : Nat), dv = .slice (some ⟨g, 0, none⟩) n 2 ∧ Bk W g #[.int .u8 x, .int .u8 y] 5 ∧ n ≤ 2 ∧ l = [x, y].take n
theorem DataK.sl {W : World} {dv : Value} {l : List Nat} (h : DataK W dv l) : Sl W dv 1 l.length (bytes l) := by
  rcases h with ⟨rfl, rfl⟩ | ⟨g, x, y, n, rfl, hk, hn, rfl⟩
  · exact sl_nil W
  · have := data_sl hk n hn
    rw [show ([x, y].take n).length = n by simp; omega]
    exact this
theorem DataK.of {W W' : World} {dv : Value} {l : List Nat} (h : DataK W dv l) {r : Option Nat} (o : W.grownBy W' r) (hr : ∀ g x y, Bk W g #[.int .u8 x, .int .u8 y] 5 → r ≠ some g) : DataK W' dv l := by
  rcases h with h | ⟨g, x, y, n, hv, hk, hn, hl⟩
  · exact .inl h
  · exact .inr ⟨g, x, y, n, hv, hk.of o (hr g _ _ hk), hn, hl⟩
theorem DataK.by_ {W W' : World} {dv : Value} {l : List Nat} (h : DataK W dv l) (o : W.grownBy W' none) : DataK W' dv l := h.of o (fun _ _ _ _ e => by cases e)
/-- A list of more than two bytes lies in no block of two. -/
theorem own_big {W : World} {base n : Nat} {v : Value} {xs : List Value} (h : W.ownsRow base 5 1 v n xs) (hn : n = 0 ∧ v = .slice none 0 0 ∨ 3 ≤ n) {g : Nat} {x y : Value} (k : Bk W g #[x, y] 5) : v.ownBlock ≠ some g := by
  rcases hn with ⟨_, rfl⟩ | hn
  · simp [Value.ownBlock]
  rcases h.2 with ⟨_, h0⟩ | ⟨g', cap, cur, rfl, _, hg, hnc, _, hc, _⟩
  · omega
  · intro e
    simp [Value.ownBlock] at e
    subst e
    have k' : W.heap[g']? = some (.cells #[x, y] 5 (0, 0)) := k
    rw [hg] at k'
    injection k' with k'
    injection k' with k1
    subst k1
    simp at hc
    omega

set_option maxRecDepth 100000 in
set_option maxHeartbeats 4000000 in
theorem frame2_any (b : Nat) (l : List Nat) (i : Nat) (w : World) (h : CdAt w b l i) :
    Calls Try.prog 11 #[.pointer (some ⟨b, 0, none⟩)] w fun e w' => ∃ (f : Fr) (dv : Value), e = .returned (.agg #[.int .i64 f.addr, .int .i64 f.kind, dv]) ∧ DataK w' dv f.data ∧ (∀ x ∈ f.data, x < 256) ∧ (0 ≤ f.addr ∧ f.addr ≤ 5) ∧ (0 ≤ f.kind ∧ f.kind ≤ 3) ∧ f.data.length ≤ 2 ∧ (∃ j, CdAt w' b l j) ∧ w.grownBy w' (some b) := by
  have hb := h.lt
  have S : FmS w b l (w.alloc (.cells #[.int .i64 0, .int .i64 0, .slice none 0 0] 24)) := ⟨⟨i, h.alloc _⟩, Bk.new _ _ _, gb_alloc (gb_refl _ _) _, hb⟩
  clear h
  go_enter Try.func11, Try.ntmps11
  go_wp2_with fail
  generalize w.alloc _ = W0 at *
  obtain ⟨j0, c0⟩ := S.cd
  refine (next_ex _ _ _ _ _ c0 (by omega) (by omega)).mono ?_
  rintro e w1 ⟨v1, j1, rfl, a1, b1, c1, ho⟩
  replace S := S.draw c1 (gb_only ho)
  clear ho c0
  go_wp2_with fail
  refine (next_ex _ _ _ _ _ c1 (by omega) (by omega)).mono ?_
  rintro e w2 ⟨v2, j2, rfl, a2, b2, c2, ho⟩
  replace S := S.draw c2 (gb_only ho)
  clear ho c1
  go_wp2_with fail
  refine (next_ex _ _ _ _ _ c2 (by omega) (by omega)).mono ?_
  rintro e w3 ⟨v3, j3, rfl, a3, b3, c3, ho⟩
  replace S := S.draw c3 (gb_only ho)
  clear ho c2 c3
  obtain ⟨x, rfl⟩ : ∃ x : Nat, v2 = x := ⟨v2.toNat, by omega⟩
  obtain ⟨y, rfl⟩ : ∃ y : Nat, v3 = y := ⟨v3.toNat, by omega⟩
  have u1 : IntKind.u8.wrap (x : Int) = (x : Int) := wraps_u8 _ (by omega) (by omega)
  have u2 : IntKind.u8.wrap (y : Int) = (y : Int) := wraps_u8 _ (by omega) (by omega)
  have hk2 := S.k2.lt
  have kd := (Bk.new w3 #[.int .u8 x, .int .u8 y] 5).of (gb_alloc (gb_refl _ none) (.cells #[.int .i64 v1, .int .i64 1, .slice (some ⟨w3.heap.size, 0, none⟩) 2 2] 24)) (by simp)
  have k3 := Bk.new (w3.alloc (.cells #[.int .u8 x, .int .u8 y] 5)) #[.int .i64 v1, .int .i64 1, .slice (some ⟨w3.heap.size, 0, none⟩) 2 2] 24
  rw [World.size_alloc] at k3
  replace S := S.by_ (gb_alloc (gb_alloc (gb_refl _ none) (.cells #[.int .u8 x, .int .u8 y] 5)) (.cells #[.int .i64 v1, .int .i64 1, .slice (some ⟨w3.heap.size, 0, none⟩) 2 2] 24))
  go_upto_region 2 with fail
  generalize (w3.alloc _).alloc _ = W4 at *
  generalize w3.heap.size = n4 at *
  obtain ⟨j4, c4⟩ := S.cd
  go_wp2_with fail
  refine (next_ex _ _ _ _ _ c4 (by omega) (by omega)).mono ?_
  rintro e w5 ⟨v4, j5, rfl, a4, b4, c5, ho⟩
  have hbb := S.lt
  replace S := S.draw c5 (gb_only ho)
  replace kd := kd.of (gb_only ho) (by simp; omega)
  replace k3 := k3.of (gb_only ho) (by simp; omega)
  clear ho c4 u1 u2
  have e7 : v4 = 5 ∨ v4 = 6 ∨ v4 = 7 ∨ (v4 ≠ 5 ∧ v4 ≠ 6 ∧ v4 ≠ 7) := by omega
  rcases e7 with rfl | rfl | rfl | e8
  · have o := gb_set (gb_set (gb_refl w5 (some (n4 + 1))) ⟨n4 + 1, 1, none⟩ (.inl rfl) (.int .i64 2)) ⟨n4 + 1, 2, none⟩ (.inl rfl) (.slice none 0 0)
    have k3c := k3.cell
    have k3f := k3.frozen
    have k3' := (k3.set 1 (.int .i64 2)).set 2 (.slice none 0 0)
    simp only [List.setIfInBounds_toArray, List.set_cons_succ, List.set_cons_zero] at k3'
    replace S := S.new o (by omega)
    replace kd := kd.of o (by simp)
    clear k3
    have k3 := k3'
    clear k3' o
    go_upto_region 9 with fail
    generalize World.setCell _ _ _ = W9 at *
    have k3c := k3.cell
    have k2c := S.k2.cell
    have k2f := S.k2.frozen
    have F := S.fin (.int .i64 v1) (.int .i64 2) (.slice none 0 0)
    simp only [setC] at F
    have HF := Lib.hid F
    have HD := Lib.hid kd
    clear F S kd k3
    go_wp2_with fail
    obtain ⟨fk, fc, fg, fo⟩ := HF.out
    generalize World.setCell _ ⟨w.heap.size, 2, none⟩ _ = W10 at *
    have fkc := fk.cell
    clear k3c k2c k2f
    have hd := HD.out.of fo (by simp; omega)
    refine bodyPost_ret (v := .agg #[.int .i64 v1, .int .i64 2, .slice none 0 0]) (by simp [results, Try.results11, go_sem, fkc]) rfl ?_
    exact ⟨⟨v1, 2, []⟩, _, rfl, .inl ⟨rfl, rfl⟩, by intro z hz; simp at hz <;> omega, ⟨by dsimp only; omega, by dsimp only; omega⟩, ⟨by dsimp only; omega, by dsimp only; omega⟩, by simp, fc, fg⟩
  · go_wp2_with fail
    refine (next_ex _ _ _ _ _ c5 (by omega) (by omega)).mono ?_
    rintro e w6 ⟨v6, j6, rfl, a6, b6, c6, ho⟩
    replace S := S.draw c6 (gb_only ho)
    replace kd := kd.of (gb_only ho) (by simp; omega)
    replace k3 := k3.of (gb_only ho) (by simp; omega)
    clear ho c5 c6
    have o := gb_set (gb_refl w6 (some (n4 + 1))) ⟨n4 + 1, 1, none⟩ (.inl rfl) (.int .i64 v6)
    have k3c := k3.cell
    have k3f := k3.frozen
    have k3' := k3.set 1 (.int .i64 v6)
    simp only [List.setIfInBounds_toArray, List.set_cons_succ, List.set_cons_zero] at k3'
    replace S := S.new o (by omega)
    replace kd := kd.of o (by simp)
    clear k3
    have k3 := k3'
    clear k3' o
    go_upto_region 9 with fail
    generalize World.setCell _ _ _ = W9 at *
    have k3c := k3.cell
    have k2c := S.k2.cell
    have k2f := S.k2.frozen
    have F := S.fin (.int .i64 v1) (.int .i64 v6) (.slice (some ⟨n4, 0, none⟩) 2 2)
    simp only [setC] at F
    have HF := Lib.hid F
    have HD := Lib.hid kd
    clear F S kd k3
    go_wp2_with fail
    obtain ⟨fk, fc, fg, fo⟩ := HF.out
    generalize World.setCell _ ⟨w.heap.size, 2, none⟩ _ = W10 at *
    have fkc := fk.cell
    clear k3c k2c k2f
    have hd := HD.out.of fo (by simp; omega)
    refine bodyPost_ret (v := .agg #[.int .i64 v1, .int .i64 v6, .slice (some ⟨n4, 0, none⟩) 2 2]) (by simp [results, Try.results11, go_sem, fkc]) rfl ?_
    exact ⟨⟨v1, v6, [x, y]⟩, _, rfl, .inr ⟨_, x, y, 2, rfl, hd, by omega, rfl⟩, by intro z hz; simp at hz <;> omega, ⟨by dsimp only; omega, by dsimp only; omega⟩, ⟨by dsimp only; omega, by dsimp only; omega⟩, by simp, fc, fg⟩
  · go_upto_region 8 with fail
    have k3c : w5.cell? ⟨n4 + 1, 2, none⟩ = some (.slice (some ⟨n4, 0, none⟩) 2 2) := k3.cell 2
    have HSx := Lib.hid S
    have HKd := Lib.hid kd
    have HK3 := Lib.hid k3
    clear S kd k3
    go_region_law (first
      | (go_simp; go_at_call 21; refine (next_ex _ _ _ _ _ c5.drew (by omega) (by omega)).mono ?_; rintro e w6 ⟨v6, j6, rfl, a6, b6, c6, ho⟩; have S6 := (HSx.out.by_ (gb_drew (gb_refl _ _))).draw c6 (gb_only ho); have kd6 := (HKd.out.of (gb_drew (gb_refl _ none)) (by simp)).of (gb_only ho) (by simp; omega); have k36 := (HK3.out.of (gb_drew (gb_refl _ none)) (by simp)).of (gb_only ho) (by simp; omega); obtain ⟨v, hv⟩ : ∃ v : Nat, v6 = v := ⟨v6.toNat, by omega⟩; subst hv; have hv2 : (v : Int) ≤ 2 := (by omega); have m6 : w6.cell? ⟨n4 + 1, 2, none⟩ = some (.slice (some ⟨n4, 0, none⟩) 2 2) := k36.cell 2; have m6f := k36.frozen 2; clear ho))
    all_goals
      have o := gb_set (gb_refl w6 (some (n4 + 1))) ⟨n4 + 1, 2, none⟩ (.inl rfl) (.slice (some ⟨n4, 0, none⟩) v 2)
      have k3 := k36.set 2 (.slice (some ⟨n4, 0, none⟩) v 2)
      simp only [List.setIfInBounds_toArray, List.set_cons_succ, List.set_cons_zero] at k3
      have S := S6.new o (by omega)
      have kd := kd6.of o (by simp)
      have hv : v ≤ 2 := by omega
      clear o S6 kd6 k36
      go_upto_region 9 with fail
      generalize World.setCell _ _ _ = W9 at *
      have k3c := k3.cell
      have k2c := S.k2.cell
      have k2f := S.k2.frozen
      have F := S.fin (.int .i64 v1) (.int .i64 1) (.slice (some ⟨n4, 0, none⟩) v 2)
      simp only [setC] at F
      have HF := Lib.hid F
      have HD := Lib.hid kd
      clear F S kd k3
      go_wp2_with fail
      obtain ⟨fk, fc, fg, fo⟩ := HF.out
      generalize World.setCell _ ⟨w.heap.size, 2, none⟩ _ = W10 at *
      have fkc := fk.cell
      clear k3c k2c k2f
      have hd := HD.out.of fo (by simp; omega)
      refine bodyPost_ret (v := .agg #[.int .i64 v1, .int .i64 1, .slice (some ⟨n4, 0, none⟩) v 2]) (by simp [results, Try.results11, go_sem, fkc]) rfl ?_
      have e9 : ([x, y].take v).length = v := by simp; omega
      refine ⟨⟨v1, 1, [x, y].take v⟩, _, rfl, ?_, ?_, ⟨by dsimp only; omega, by dsimp only; omega⟩, ⟨by dsimp only; omega, by dsimp only; omega⟩, by dsimp only; omega, fc, fg⟩
      · dsimp only
        exact .inr ⟨_, x, y, v, rfl, hd, hv, rfl⟩
      · intro z hz
        have := List.mem_of_mem_take hz
        simp at this
        omega
  · have q5 : (v4 == 5) = false := by simp; omega
    have q6 : (v4 == 6) = false := by simp; omega
    have q7 : (v4 == 7) = false := by simp; omega
    clear e8
    go_upto_region 9 with fail
    have k3c := k3.cell
    have k2c := S.k2.cell
    have k2f := S.k2.frozen
    have F := S.fin (.int .i64 v1) (.int .i64 1) (.slice (some ⟨n4, 0, none⟩) 2 2)
    simp only [setC] at F
    have HF := Lib.hid F
    have HD := Lib.hid kd
    clear F S kd k3
    go_wp2_with fail
    obtain ⟨fk, fc, fg, fo⟩ := HF.out
    generalize World.setCell _ ⟨w.heap.size, 2, none⟩ _ = W10 at *
    have fkc := fk.cell
    clear k3c k2c k2f
    have hd := HD.out.of fo (by simp; omega)
    refine bodyPost_ret (v := .agg #[.int .i64 v1, .int .i64 1, .slice (some ⟨n4, 0, none⟩) 2 2]) (by simp [results, Try.results11, go_sem, fkc]) rfl ?_
    exact ⟨⟨v1, 1, [x, y]⟩, _, rfl, .inr ⟨_, x, y, 2, rfl, hd, by omega, rfl⟩, by intro z hz; simp at hz <;> omega, ⟨by dsimp only; omega, by dsimp only; omega⟩, ⟨by dsimp only; omega, by dsimp only; omega⟩, by simp, fc, fg⟩

set_option maxRecDepth 100000 in
set_option maxHeartbeats 4000000 in
/-- Same of two lists of one telegram each: an answer. -/
theorem same_gen (v v' : Value) (f f' : Fr) (w : World) (h : FrsV w v [f]) (h' : FrsV w v' [f']) :
    Calls Try.prog 20 #[v, v'] w fun e w' => (∃ b, e = .returned (.bool b)) ∧ ∃ q, w' = w.drewN q := by
  obtain ⟨a, c, rfl, hn, hm, h3⟩ := h
  obtain ⟨a', c', rfl, hn', hm', h3'⟩ := h'
  unfold maxLen at hm hm'
  rcases h3 with h3 | ⟨g, off, rfl, hc⟩
  · simp at h3
  rcases h3' with h3' | ⟨g', off', rfl, hc'⟩
  · simp at h3'
  obtain ⟨e0, e1, dv, e2, hd⟩ := hc 0 (by simp)
  obtain ⟨f0, f1, dv', f2, hd'⟩ := hc' 0 (by simp)
  simp only [Nat.zero_mul, Nat.add_zero, List.getD_cons_zero] at e0 e1 e2 hd f0 f1 f2 hd'
  obtain ⟨da, dc, rfl, _⟩ := hd.shape
  obtain ⟨da', dc', rfl, _⟩ := hd'.shape
  have cv : ∀ q, (convert 22 9 (.slice da f.data.length dc)).run Try.prog (w.drewN q) = .ok (.string (strB f.data)) (w.drewN q) := fun q => conv_any (hd.by_ (gb_drewN (gb_refl _ _) q))
  have cv' : ∀ q, (convert 22 9 (.slice da' f'.data.length dc')).run Try.prog (w.drewN q) = .ok (.string (strB f'.data)) (w.drewN q) := fun q => conv_any (hd'.by_ (gb_drewN (gb_refl _ _) q))
  clear hc hc' hd hd'
  generalize strB f.data = s at *
  generalize strB f'.data = s' at *
  go_enter Try.func20, Try.ntmps20
  go_wp2_with fail
  go_loopw [5] (fun i wr => ∃ k q : Nat, k ≤ 1 ∧ i = .int .i64 k ∧ wr = w.drewN q) (fun i _ => 1 - (intOf i).toNat)
  case atStart => exact ⟨0, 0, Nat.zero_le _, rfl, rfl⟩
  case round =>
    obtain ⟨k, q, hk, rfl, rfl⟩ := hrel
    obtain rfl | rfl : k = 0 ∨ k = 1 := by omega
    · by_cases c1 : f.addr = f'.addr
      · have c1' : (f.addr != f'.addr) = false := by simp [c1]
        by_cases c2 : f.kind = f'.kind
        · have c2' : (f.kind != f'.kind) = false := by simp [c2]
          by_cases c3 : s = s'
          · subst c3
            go_wp2_with fail
            go_quiet (fail)
            go_wp2_with fail
            go_roundw
            case rel => exact ⟨1, _, by omega, by go_num, rfl⟩
            case measure => decide
          · go_wp2_with fail
            go_quiet (fail)
            go_wp2_with fail
            · go_ret
              exact ⟨⟨_, rfl⟩, _, by first | rfl | exact World.drewN_drewN _ _ _⟩
            · exact ⟨⟨1, _, by omega, rfl, rfl⟩, by decide⟩
        · have c2' : (f.kind != f'.kind) = true := by simp [c2]
          go_wp2_with fail
          go_quiet (fail)
          go_wp2_with fail
          go_ret
          exact ⟨⟨_, rfl⟩, _, by first | rfl | exact World.drewN_drewN _ _ _⟩
      · have c1' : (f.addr != f'.addr) = true := by simp [c1]
        go_wp2_with fail
        go_quiet (fail)
        go_wp2_with fail
        go_ret
        exact ⟨⟨_, rfl⟩, _, by first | rfl | exact World.drewN_drewN _ _ _⟩
    · go_wp2_with fail
      go_ret
      exact ⟨⟨_, rfl⟩, _, by first | rfl | exact World.drewN_drewN _ _ _⟩
end Go.Proofs.Ytolkjklejcealaa
