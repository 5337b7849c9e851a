/- part, over the two mines of the sanity check. -/
import Derived.Test.YtbiikgkfklhohaaSo
namespace Go.Proofs.Ytbiikgkfklhohaa
open Go.RowKit
attribute [local go_sem ↓] Go.wp_at_zero Go.wp_at_succ

/-- The mines of the sanity check: two places, a road between them. -/
def aRd (c : Bool) : Rd := ⟨0, 1, 1, 1, false, c, ⟨1, 1⟩, ⟨0, 0⟩⟩
def aMn (c : Bool) : Mn := ⟨[⟨0, true⟩, ⟨0, false⟩], [aRd c]⟩

structure PtS (w : World) (c : Bool) (gs : Nat) (b0 b1 : Bool) (pv rv : Value) (lv : Value) (L : List Nat) (W : World) : Prop where
  k : Bk W w.heap.size #[pv, rv] 26
  m : MnV W (.agg #[pv, rv]) (aMn c)
  seen : Bk W gs #[.bool b0, .bool b1] 4
  l : W.ownsRow w.heap.size 3 1 lv L.length (ints L)
  g : w.grownBy W (some gs)
  lt : gs < w.heap.size
section
variable {w : World} {c : Bool} {gs : Nat} {b0 b1 : Bool} {pv rv lv : Value} {L : List Nat} {W : World}
theorem PtS.by_ {W' : World} (h : PtS w c gs b0 b1 pv rv lv L W) (o : W.grownBy W' none) : PtS w c gs b0 b1 pv rv lv L W' :=
  ⟨h.k.of o (by simp), h.m.by_ o, h.seen.of o (by simp), own_by h.l o, gb_none h.g o, h.lt⟩
theorem PtS.drew (h : PtS w c gs b0 b1 pv rv lv L W) : PtS w c gs b0 b1 pv rv lv L W.drew := h.by_ (gb_drew (gb_refl _ _))
end

theorem Sl.setBool {W : World} {v : Value} {sz n : Nat} {xs : List Value} (h : Sl W v sz n xs) (hn : 0 < n * sz) {x : Int} (hx : xs.getD 0 undef = .int .i64 x) {gs : Nat} {b0 b1 : Bool} {T : TypeId} (k : Bk W gs #[.bool b0, .bool b1] T) (o : Nat) (u : Value) :
    Sl (W.setCell ⟨gs, o, none⟩ u) v sz n xs := by
  refine ⟨h.1, ?_⟩
  rcases h.2 with h2 | ⟨g, off, cap, hv, h3, h4, hc⟩
  · exact .inl h2
  · refine .inr ⟨g, off, cap, hv, h3, h4, fun j hj => ?_⟩
    have hg : g ≠ gs := by
      rintro rfl
      have e := hc 0 hn
      rw [hx, k.cell] at e
      have : off = 0 ∨ off = 1 ∨ 2 ≤ off := by omega
      rcases this with rfl | rfl | h2
      · simp at e
      · simp at e
      · rw [Array.getElem?_eq_none (by simpa using h2)] at e; cases e
    rw [← hc j hj]
    exact World.cell?_of_block (w := W) (Below.heap_setCell _ _ _ _ hg)
theorem PtS.set0 {w : World} {c : Bool} {gs : Nat} {b0 b1 : Bool} {pv rv lv : Value} {L : List Nat} {W : World} (h : PtS w c gs b0 b1 pv rv lv L W) (u : Bool) : PtS w c gs u b1 pv rv lv L (W.setCell ⟨gs, 0, none⟩ (.bool u)) := by
  have o : W.grownBy (W.setCell ⟨gs, 0, none⟩ (.bool u)) (some gs) := gb_set (gb_refl _ _) ⟨gs, 0, none⟩ (.inl rfl) _
  obtain ⟨x, y, hv, hp, hr⟩ := h.m
  exact ⟨h.k.of o (by have := h.lt; simp; omega), ⟨x, y, hv, hp.setBool (by simp [aMn]) (x := 0) rfl h.seen _ _, hr.setBool (by simp [aMn]) (x := 0) rfl h.seen _ _⟩, by simpa using h.seen.set 0 (.bool u), h.l.kept o (.inr (own_ne h.l h.seen (by decide))), gb_same h.g o, h.lt⟩
theorem PtS.set1 {w : World} {c : Bool} {gs : Nat} {b0 b1 : Bool} {pv rv lv : Value} {L : List Nat} {W : World} (h : PtS w c gs b0 b1 pv rv lv L W) (u : Bool) : PtS w c gs b0 u pv rv lv L (W.setCell ⟨gs, 1, none⟩ (.bool u)) := by
  have o : W.grownBy (W.setCell ⟨gs, 1, none⟩ (.bool u)) (some gs) := gb_set (gb_refl _ _) ⟨gs, 1, none⟩ (.inl rfl) _
  obtain ⟨x, y, hv, hp, hr⟩ := h.m
  exact ⟨h.k.of o (by have := h.lt; simp; omega), ⟨x, y, hv, hp.setBool (by simp [aMn]) (x := 0) rfl h.seen _ _, hr.setBool (by simp [aMn]) (x := 0) rfl h.seen _ _⟩, by simpa using h.seen.set 1 (.bool u), h.l.kept o (.inr (own_ne h.l h.seen (by decide))), gb_same h.g o, h.lt⟩

theorem rdIx_a (c : Bool) (p : Int) (h : p = 0 ∨ p = 1) : rdIx p (aMn c).rs (aMn c).rs.length = [0] := by
  rcases h with rfl | rfl <;> rfl

theorem PtS.start (w W0 : World) (c : Bool) (gs : Nat) (b0 b1 : Bool) (pv rv : Value) (k : Nat) (z : Int) (hk : z = k) (hz : W0.heap.size = w.heap.size) (hg : w.grownBy W0 (some gs)) (hm : MnV W0 (.agg #[pv, rv]) (aMn c)) (hs : Bk W0 gs #[.bool b0, .bool b1] 4) (hlt : gs < w.heap.size) :
    PtS w c gs b0 b1 pv rv (.slice (some ⟨w.heap.size + 1, 0, none⟩) 1 1) [k] ((W0.alloc (.cells #[pv, rv] 26)).alloc (.cells #[.int .i64 z] 3)) := by
  subst hk
  have g2 := gb_alloc (gb_alloc (gb_refl W0 none) (.cells #[pv, rv] 26)) (.cells #[.int .i64 k] 3)
  have hb := Bk.new (W0.alloc (.cells #[pv, rv] 26)) #[.int .i64 k] 3
  have ha := (Bk.new W0 #[pv, rv] 26).of (gb_alloc (gb_refl _ none) (.cells #[.int .i64 k] 3)) (by simp)
  rw [World.size_alloc, hz] at hb
  rw [hz] at ha
  exact ⟨ha, hm.by_ g2, hs.of g2 (by simp), ⟨rfl, .inr ⟨_, 1, _, rfl, by omega, hb, Nat.le_refl _, by simp [maxLen], rfl, rfl⟩⟩, gb_alloc (gb_alloc hg _) _, hlt⟩
theorem MnV.setBool {W : World} {pv rv : Value} {c : Bool} (h : MnV W (.agg #[pv, rv]) (aMn c)) {gs : Nat} {b0 b1 : Bool} {T : TypeId} (k : Bk W gs #[.bool b0, .bool b1] T) (o : Nat) (u : Value) : MnV (W.setCell ⟨gs, o, none⟩ u) (.agg #[pv, rv]) (aMn c) := by
  obtain ⟨x, y, hv, hp, hr⟩ := h
  exact ⟨x, y, hv, hp.setBool (by simp [aMn]) (x := 0) rfl k _ _, hr.setBool (by simp [aMn]) (x := 0) rfl k _ _⟩
/-- The cells that the one road lies in. -/
theorem MnV.road {W : World} {pv : Value} {ra : Option Addr} {rc : Nat} {c : Bool} (h : MnV W (.agg #[pv, .slice ra 1 rc]) (aMn c)) : ∃ g off, ra = some ⟨g, off, none⟩ ∧ W.cell? ⟨g, off + 5, none⟩ = some (.bool c) := by
  obtain ⟨x, y, hv, _, hr⟩ := h
  injection hv with hv
  simp at hv
  obtain ⟨rfl, rfl⟩ := hv
  obtain ⟨a, cap, he, _, _, hx⟩ := hr.shape
  injection he with he1 he2
  rcases hx with hx | ⟨g, off, ha, hc⟩
  · simp [aMn] at hx
  · have h5 := hc 5 (by simp [aMn])
    exact ⟨g, off, by rw [he1, ha], h5⟩
theorem MnV.road5 {W : World} {pv : Value} {g off rc : Nat} {c : Bool} (h : MnV W (.agg #[pv, .slice (some ⟨g, off, none⟩) 1 rc]) (aMn c)) : W.cell? ⟨g, off + 5, none⟩ = some (.bool c) := by
  obtain ⟨g', off', he, h5⟩ := h.road
  injection he with he
  injection he with h1 h2
  rw [h1, h2]
  exact h5
theorem other_a (v : Value) (c : Bool) (p q : Int) (w : World) (h : MnV w v (aMn c)) (hpq : (p = 0 ∧ q = 1) ∨ (p = 1 ∧ q = 0)) :
    Calls Try.prog 27 #[v, .int .i64 0, .int .i64 p] w fun e w' => e = .returned (.int .i64 q) ∧ w.grownBy w' none := by
  refine (other_is v (aMn c) 0 p w h (by simp [aMn])).mono ?_
  rintro e w' ⟨rfl, hb⟩
  refine ⟨?_, gb_b hb⟩
  rcases hpq with ⟨rfl, rfl⟩ | ⟨rfl, rfl⟩ <;> rfl

set_option maxRecDepth 100000 in
set_option maxHeartbeats 4000000 in
/-- The road is closed: the part of the first place. -/
theorem part_closed (gs : Nat) (w : World) (k : Nat) (z : Int) (hk : (k = 0 ∧ z = 0) ∨ (k = 1 ∧ z = 1)) (b0 b1 : Bool) (pa : Option Addr) (pc : Nat) (ra : Option Addr) (rc : Nat) (hm : MnV w (.agg #[.slice pa 2 pc, .slice ra 1 rc]) (aMn true)) (hs : Bk w gs #[.bool b0, .bool b1] 4) :
    Calls Try.prog 51 #[.agg #[.slice pa 2 pc, .slice ra 1 rc], .int .i64 z, .slice (some ⟨gs, 0, none⟩) 2 2] w fun e w' => ∃ v', e = .returned v' ∧ w'.ownsRow w.heap.size 3 1 v' 1 (ints [k]) ∧ Bk w' gs #[.bool (if k = 0 then true else b0), .bool (if k = 1 then true else b1)] 4 ∧ w.grownBy w' (some gs) := by
  obtain ⟨g, off, rfl, _⟩ := hm.road
  have s0 := hs.cell
  have s0f := hs.frozen
  have hlt := hs.lt
  obtain ⟨B0, hB0⟩ : ∃ B, B = (if k = 0 then true else b0) := ⟨_, rfl⟩
  obtain ⟨B1, hB1⟩ : ∃ B, B = (if k = 1 then true else b1) := ⟨_, rfl⟩
  rw [← hB0, ← hB1]
  have S1 : PtS w true gs B0 B1 (.slice pa 2 pc) (.slice (some ⟨g, off, none⟩) 1 rc) (.slice (some ⟨w.heap.size + 1, 0, none⟩) 1 1) [k] (((w.setCell ⟨gs, k, none⟩ (.bool true)).alloc (.cells #[.slice pa 2 pc, .slice (some ⟨g, off, none⟩) 1 rc] 26)).alloc (.cells #[.int .i64 z] 3)) := by
    refine PtS.start w _ true gs B0 B1 _ _ k z (by omega) (by simp) (gb_set (gb_refl _ _) ⟨gs, k, none⟩ (.inl rfl) _) (hm.setBool hs _ _) ?_ hlt
    have := hs.set k (.bool true)
    rcases hk with ⟨rfl, _⟩ | ⟨rfl, _⟩
    · simpa [hB0, hB1] using this
    · simpa [hB0, hB1] using this
  have hR := rdIx_a true z (by omega)
  have HR := Lib.hid hR
  have HS := Lib.hid S1
  clear hB0 hB1 hm hs S1 hR
  have c2 := HS.out.l.cellAt 0 (by decide)
  have C2 : Hid (∀ W, PtS w true gs B0 B1 (.slice pa 2 pc) (.slice (some ⟨g, off, none⟩) 1 rc) (.slice (some ⟨w.heap.size + 1, 0, none⟩) 1 1) [k] W → W.cell? ⟨w.heap.size + 1, 0, none⟩ = some (.int .i64 z)) := Lib.hid fun W h => by
    have e := h.l.cellAt 0 (by decide)
    rw [e]
    simp [ints]; omega
  clear c2
  rcases hk with ⟨rfl, rfl⟩ | ⟨rfl, rfl⟩
  · go_enter Try.func51, Try.ntmps51
    go_wp2_with fail
    have S1 := HS.out
    clear HS s0 s0f
    generalize World.alloc _ (.cells _ 3) = W1 at *
    have c0 : W1.cell? ⟨w.heap.size, 0, none⟩ = some (.slice pa 2 pc) := S1.k.cell 0
    have c1 : W1.cell? ⟨w.heap.size, 1, none⟩ = some (.slice (some ⟨g, off, none⟩) 1 rc) := S1.k.cell 1
    have c2 := C2.out _ S1
    have HS := Lib.hid S1
    clear S1
    refine wp_loop_rounds 2 ?_
    rw [rounds_succ]
    go_wp2_with fail
    go_region_held3 (fun w' => w'.cell? ⟨w.heap.size, 0, none⟩ = some (.slice pa 2 pc) ∧ w'.cell? ⟨w.heap.size, 1, none⟩ = some (.slice (some ⟨g, off, none⟩) 1 rc) ∧ w'.cell? ⟨w.heap.size + 1, 0, none⟩ = some (.int .i64 0))
      (first | (exact ⟨d0, d1, d2⟩) | go_keep)
      ((go_at_call 25; refine (roads_any _ (aMn true) _ _ HS.out.drew.m (by simp [aMn])).mono ?_; rintro e w2 ⟨v2, rfl, ho, hg⟩; have S2 := HS.out.drew.by_ hg; have d0 : w2.cell? ⟨w.heap.size, 0, none⟩ = some (.slice pa 2 pc) := S2.k.cell 0; have d1 : w2.cell? ⟨w.heap.size, 1, none⟩ = some (.slice (some ⟨g, off, none⟩) 1 rc) := S2.k.cell 1; have d2 : w2.cell? ⟨w.heap.size + 1, 0, none⟩ = some (.int .i64 0) := C2.out _ S2; rw [HR.out] at ho; obtain ⟨gr, capr, hv, y1, hcr, y2, y3⟩ := own_open ho (by decide); subst hv; clear y1 y2 y3; have r0 : w2.cell? ⟨gr, 0, none⟩ = some (.int .i64 0) := hcr 0 (by decide); clear ho hcr))
    go_wp2_with fail
    have HS2 := Lib.hid S2
    clear S2 HS c0 c1 c2
    refine wp_loop_rounds 2 ?_
    rw [rounds_succ]
    go_wp2_with fail
    go_region_held3 (fun w' => w'.cell? ⟨w.heap.size, 0, none⟩ = some (.slice pa 2 pc) ∧ w'.cell? ⟨w.heap.size, 1, none⟩ = some (.slice (some ⟨g, off, none⟩) 1 rc) ∧ w'.cell? ⟨w.heap.size + 1, 0, none⟩ = some (.int .i64 0))
      (first | (exact ⟨f0, f1, f2⟩) | go_keep)
      ((go_at_call 27; refine (other_a _ true _ 1 _ HS2.out.drew.m (by omega)).mono ?_; rintro e w3 ⟨rfl, hg3⟩; have S3 := HS2.out.drew.by_ hg3; have f0 : w3.cell? ⟨w.heap.size, 0, none⟩ = some (.slice pa 2 pc) := S3.k.cell 0; have f1 : w3.cell? ⟨w.heap.size, 1, none⟩ = some (.slice (some ⟨g, off, none⟩) 1 rc) := S3.k.cell 1; have f2 : w3.cell? ⟨w.heap.size + 1, 0, none⟩ = some (.int .i64 0) := C2.out _ S3; have f5 := S3.m.road5; have HS3 := Lib.hid S3; clear S3))
    go_wp2_with fail
    clear d0 d1 d2 f0 f1 f2 f5 r0
    rw [rounds_succ]
    go_wp2_with fail
    rw [rounds_succ]
    go_wp2_with (go_at_call 49; refine (sort_short _ _ _ _ (by omega)).mono ?_; rintro e w4 ⟨rfl, rfl⟩)
    go_ret
    have S3 := HS3.out
    exact ⟨_, rfl, S3.l, S3.seen, S3.g⟩
  · go_enter Try.func51, Try.ntmps51
    go_wp2_with fail
    have S1 := HS.out
    clear HS s0 s0f
    generalize World.alloc _ (.cells _ 3) = W1 at *
    have c0 : W1.cell? ⟨w.heap.size, 0, none⟩ = some (.slice pa 2 pc) := S1.k.cell 0
    have c1 : W1.cell? ⟨w.heap.size, 1, none⟩ = some (.slice (some ⟨g, off, none⟩) 1 rc) := S1.k.cell 1
    have c2 := C2.out _ S1
    have HS := Lib.hid S1
    clear S1
    refine wp_loop_rounds 2 ?_
    rw [rounds_succ]
    go_wp2_with fail
    go_region_held3 (fun w' => w'.cell? ⟨w.heap.size, 0, none⟩ = some (.slice pa 2 pc) ∧ w'.cell? ⟨w.heap.size, 1, none⟩ = some (.slice (some ⟨g, off, none⟩) 1 rc) ∧ w'.cell? ⟨w.heap.size + 1, 0, none⟩ = some (.int .i64 1))
      (first | (exact ⟨d0, d1, d2⟩) | go_keep)
      ((go_at_call 25; refine (roads_any _ (aMn true) _ _ HS.out.drew.m (by simp [aMn])).mono ?_; rintro e w2 ⟨v2, rfl, ho, hg⟩; have S2 := HS.out.drew.by_ hg; have d0 : w2.cell? ⟨w.heap.size, 0, none⟩ = some (.slice pa 2 pc) := S2.k.cell 0; have d1 : w2.cell? ⟨w.heap.size, 1, none⟩ = some (.slice (some ⟨g, off, none⟩) 1 rc) := S2.k.cell 1; have d2 : w2.cell? ⟨w.heap.size + 1, 0, none⟩ = some (.int .i64 1) := C2.out _ S2; rw [HR.out] at ho; obtain ⟨gr, capr, hv, y1, hcr, y2, y3⟩ := own_open ho (by decide); subst hv; clear y1 y2 y3; have r0 : w2.cell? ⟨gr, 0, none⟩ = some (.int .i64 0) := hcr 0 (by decide); clear ho hcr))
    go_wp2_with fail
    have HS2 := Lib.hid S2
    clear S2 HS c0 c1 c2
    refine wp_loop_rounds 2 ?_
    rw [rounds_succ]
    go_wp2_with fail
    go_region_held3 (fun w' => w'.cell? ⟨w.heap.size, 0, none⟩ = some (.slice pa 2 pc) ∧ w'.cell? ⟨w.heap.size, 1, none⟩ = some (.slice (some ⟨g, off, none⟩) 1 rc) ∧ w'.cell? ⟨w.heap.size + 1, 0, none⟩ = some (.int .i64 1))
      (first | (exact ⟨f0, f1, f2⟩) | go_keep)
      ((go_at_call 27; refine (other_a _ true _ 0 _ HS2.out.drew.m (by omega)).mono ?_; rintro e w3 ⟨rfl, hg3⟩; have S3 := HS2.out.drew.by_ hg3; have f0 : w3.cell? ⟨w.heap.size, 0, none⟩ = some (.slice pa 2 pc) := S3.k.cell 0; have f1 : w3.cell? ⟨w.heap.size, 1, none⟩ = some (.slice (some ⟨g, off, none⟩) 1 rc) := S3.k.cell 1; have f2 : w3.cell? ⟨w.heap.size + 1, 0, none⟩ = some (.int .i64 1) := C2.out _ S3; have f5 := S3.m.road5; have HS3 := Lib.hid S3; clear S3))
    go_wp2_with fail
    clear d0 d1 d2 f0 f1 f2 f5 r0
    rw [rounds_succ]
    go_wp2_with fail
    rw [rounds_succ]
    go_wp2_with (go_at_call 49; refine (sort_short _ _ _ _ (by omega)).mono ?_; rintro e w4 ⟨rfl, rfl⟩)
    go_ret
    have S3 := HS3.out
    exact ⟨_, rfl, S3.l, S3.seen, S3.g⟩

theorem Sl.through {w W : World} {v : Value} {sz n : Nat} {xs : List Value} (h : Sl w v sz n xs) (hn : 0 < n * sz) {x : Int} (hx : xs.getD 0 undef = .int .i64 x) {gs : Nat} {b0 b1 : Bool} {T : TypeId} (k : Bk w gs #[.bool b0, .bool b1] T) (o : w.grownBy W (some gs)) : Sl W v sz n xs := by
  refine ⟨h.1, ?_⟩
  rcases h.2 with h2 | ⟨g, off, cap, hv, h3, h4, hc⟩
  · exact .inl h2
  · refine .inr ⟨g, off, cap, hv, h3, h4, fun j hj => ?_⟩
    have hg : g ≠ gs := by
      rintro rfl
      have e := hc 0 hn
      rw [hx, k.cell] at e
      have : off = 0 ∨ off = 1 ∨ 2 ≤ off := by omega
      rcases this with rfl | rfl | h2
      · simp at e
      · simp at e
      · rw [Array.getElem?_eq_none (by simpa using h2)] at e; cases e
    have hl := World.block_lt_of_cell? w _ (hc j hj)
    rw [← hc j hj]
    exact World.cell?_of_block (w := w) (o.block g hl (by simpa using hg))
theorem MnV.through {w W : World} {pv rv : Value} {c : Bool} (h : MnV w (.agg #[pv, rv]) (aMn c)) {gs : Nat} {b0 b1 : Bool} {T : TypeId} (k : Bk w gs #[.bool b0, .bool b1] T) (o : w.grownBy W (some gs)) : MnV W (.agg #[pv, rv]) (aMn c) := by
  obtain ⟨x, y, hv, hp, hr⟩ := h
  exact ⟨x, y, hv, hp.through (by simp [aMn]) (x := 0) rfl k o, hr.through (by simp [aMn]) (x := 0) rfl k o⟩
theorem PtS.app {w : World} {c : Bool} {gs : Nat} {b0 b1 d0 d1 : Bool} {pv rv lv lv' : Value} {L : List Nat} {W W' : World} (h : PtS w c gs b0 b1 pv rv lv L W) (hm : MnV w (.agg #[pv, rv]) (aMn c)) (hs : Bk w gs #[.bool d0, .bool d1] 4) (n : Nat) (ho : W'.ownsRow w.heap.size 3 1 lv' (L.length + 1) (ints L ++ ints [n])) (o : W.grownBy W' lv.ownBlock) :
    PtS w c gs b0 b1 pv rv lv' (L ++ [n]) W' := by
  have g := gb_call h.g o (fun g e => .inr (own_base h.l g e))
  refine ⟨h.k.of o (own_ne h.l h.k (by decide)), hm.through hs g, h.seen.of o (own_ne h.l h.seen (by decide)), ?_, g, h.lt⟩
  have e : ints (L ++ [n]) = ints L ++ ints [n] := by simp [ints]
  rw [e, List.length_append]
  exact ho

set_option maxRecDepth 100000 in
set_option maxHeartbeats 4000000 in
/-- The road is open: the part of the first place has both. -/
theorem part_open (gs : Nat) (w : World) (pa : Option Addr) (pc : Nat) (ra : Option Addr) (rc : Nat) (hm : MnV w (.agg #[.slice pa 2 pc, .slice ra 1 rc]) (aMn false)) (hs : Bk w gs #[.bool false, .bool false] 4) :
    Calls Try.prog 51 #[.agg #[.slice pa 2 pc, .slice ra 1 rc], .int .i64 0, .slice (some ⟨gs, 0, none⟩) 2 2] w fun e w' => ∃ v', e = .returned v' ∧ w'.ownsRow w.heap.size 3 1 v' 2 (ints [0, 1]) ∧ Bk w' gs #[.bool true, .bool true] 4 ∧ w.grownBy w' (some gs) := by
  obtain ⟨g, off, rfl, _⟩ := hm.road
  obtain ⟨ii, hii, hii1, hii2, hii3⟩ := info_parts Try.infoInt
  have s0 := hs.cell
  have s0f := hs.frozen
  have hlt := hs.lt
  have S1 : PtS w false gs true false (.slice pa 2 pc) (.slice (some ⟨g, off, none⟩) 1 rc) (.slice (some ⟨w.heap.size + 1, 0, none⟩) 1 1) [0] (((w.setCell ⟨gs, 0, none⟩ (.bool true)).alloc (.cells #[.slice pa 2 pc, .slice (some ⟨g, off, none⟩) 1 rc] 26)).alloc (.cells #[.int .i64 0] 3)) := by
    refine PtS.start w _ false gs true false _ _ 0 0 rfl (by simp) (gb_set (gb_refl _ _) ⟨gs, 0, none⟩ (.inl rfl) _) (hm.setBool hs _ _) ?_ hlt
    simpa using hs.set 0 (.bool true)
  have HM := Lib.hid hm
  have HZ := Lib.hid hs
  have HR := Lib.hid (rdIx_a false 0 (.inl rfl))
  have HR1 := Lib.hid (rdIx_a false 1 (.inr rfl))
  have HS := Lib.hid S1
  clear hm hs S1
  go_enter Try.func51, Try.ntmps51
  go_wp2_with fail
  have S1 := HS.out
  clear HS s0 s0f
  generalize World.alloc _ (.cells _ 3) = W1 at *
  have c0 : W1.cell? ⟨w.heap.size, 0, none⟩ = some (.slice pa 2 pc) := S1.k.cell 0
  have c1 : W1.cell? ⟨w.heap.size, 1, none⟩ = some (.slice (some ⟨g, off, none⟩) 1 rc) := S1.k.cell 1
  have c2 : W1.cell? ⟨w.heap.size + 1, 0, none⟩ = some (.int .i64 0) := S1.l.cellAt 0 (by decide)
  have HS := Lib.hid S1
  clear S1
  refine wp_loop_rounds 3 ?_
  rw [rounds_succ]
  go_wp2_with fail
  go_region_held3 (fun w' => w'.cell? ⟨w.heap.size, 0, none⟩ = some (.slice pa 2 pc) ∧ w'.cell? ⟨w.heap.size, 1, none⟩ = some (.slice (some ⟨g, off, none⟩) 1 rc) ∧ w'.cell? ⟨w.heap.size + 1, 0, none⟩ = some (.int .i64 0))
    (first | (exact ⟨d0, d1, d2⟩) | go_keep)
    ((go_at_call 25; refine (roads_any _ (aMn false) _ _ HS.out.drew.m (by simp [aMn])).mono ?_; rintro e w2 ⟨v2, rfl, ho, hg⟩; have S2 := HS.out.drew.by_ hg; have d0 : w2.cell? ⟨w.heap.size, 0, none⟩ = some (.slice pa 2 pc) := S2.k.cell 0; have d1 : w2.cell? ⟨w.heap.size, 1, none⟩ = some (.slice (some ⟨g, off, none⟩) 1 rc) := S2.k.cell 1; have d2 : w2.cell? ⟨w.heap.size + 1, 0, none⟩ = some (.int .i64 0) := S2.l.cellAt 0 (by decide); rw [HR.out] at ho; obtain ⟨gr, capr, hv, y1, hcr, y2, y3⟩ := own_open ho (by decide); subst hv; clear y1 y2 y3; have r0 : w2.cell? ⟨gr, 0, none⟩ = some (.int .i64 0) := hcr 0 (by decide); clear ho hcr))
  go_wp2_with fail
  have HS2 := Lib.hid S2
  clear S2 HS c0 c1 c2
  refine wp_loop_rounds 2 ?_
  rw [rounds_succ]
  go_wp2_with fail
  go_region_held3 (fun w' => w'.cell? ⟨w.heap.size, 0, none⟩ = some (.slice pa 2 pc) ∧ w'.cell? ⟨w.heap.size, 1, none⟩ = some (.slice (some ⟨g, off, none⟩) 1 rc) ∧ w'.cell? ⟨w.heap.size + 1, 0, none⟩ = some (.int .i64 0))
    (first | (exact ⟨f0, f1, f2⟩) | go_keep)
    ((go_at_call 27; refine (other_a _ false _ 1 _ HS2.out.drew.m (by omega)).mono ?_; rintro e w3 ⟨rfl, hg3⟩; have S3 := HS2.out.drew.by_ hg3; have f0 : w3.cell? ⟨w.heap.size, 0, none⟩ = some (.slice pa 2 pc) := S3.k.cell 0; have f1 : w3.cell? ⟨w.heap.size, 1, none⟩ = some (.slice (some ⟨g, off, none⟩) 1 rc) := S3.k.cell 1; have f2 : w3.cell? ⟨w.heap.size + 1, 0, none⟩ = some (.int .i64 0) := S3.l.cellAt 0 (by decide); have f5 := S3.m.road5; have s1 : w3.cell? ⟨gs, 1, none⟩ = some (.bool false) := S3.seen.cell 1; have s1f : w3.frozen? ⟨gs, 1, none⟩ = false := S3.seen.frozen 1; have hz3 : w.heap.size < w3.heap.size := S3.k.lt; have hgz : gs < w3.heap.size := S3.seen.lt; have HS4 := Lib.hid (S3.set1 true); clear S3))
  clear d0 d1 d2 HS2
  go_wp2_with (at_builtin; go_loud (refine wpList_app _ rfl _ _ 56 rfl w.heap.size 3 ii _ 1 8 Try.underlying56 hii hii1 hii2 hii3 rfl (by omega) (.slice (some ⟨w.heap.size + 1, 0, none⟩) 1 1) 1 (ints [0]) rfl (own_by HS4.out.l (gb_alloc (gb_refl _ none) _)) (.slice (some ⟨w3.heap.size, 0, none⟩) 1 1) 1 (ints [1]) rfl (sl_new _ _ _ _ (by simp) (by simp [maxLen]) rfl) (ints_one _) (by simp [maxLen]) (by omega) (by simp; omega) ?_); intro v' w5 hown hgrow)
  have S5 := (HS4.out.by_ (gb_alloc (gb_refl _ none) (.cells #[.int .i64 1] 3))).app HM.out HZ.out 1 hown hgrow
  clear HS4 hown hgrow f0 f1 f2 f5 s1 s1f r0 hz3 hgz
  obtain ⟨g2, cap2, hv, y1, hl2, y2, y3⟩ := own_open S5.l (by decide)
  subst hv
  clear y1 y2 y3
  have c0 : w5.cell? ⟨w.heap.size, 0, none⟩ = some (.slice pa 2 pc) := S5.k.cell 0
  have c1 : w5.cell? ⟨w.heap.size, 1, none⟩ = some (.slice (some ⟨g, off, none⟩) 1 rc) := S5.k.cell 1
  have c2 : w5.cell? ⟨g2, 1, none⟩ = some (.int .i64 1) := hl2 1 (by decide)
  have HS5 := Lib.hid S5
  clear S5 hl2
  rw [rounds_succ]
  go_wp2_with fail
  rw [rounds_succ]
  go_wp2_with fail
  go_region_held3 (fun w' => w'.cell? ⟨w.heap.size, 0, none⟩ = some (.slice pa 2 pc) ∧ w'.cell? ⟨w.heap.size, 1, none⟩ = some (.slice (some ⟨g, off, none⟩) 1 rc) ∧ w'.cell? ⟨g2, 1, none⟩ = some (.int .i64 1))
    (first | (exact ⟨d0, d1, d2⟩) | go_keep)
    ((go_at_call 25; refine (roads_any _ (aMn false) _ _ HS5.out.drew.m (by simp [aMn])).mono ?_; rintro e w6 ⟨v6, rfl, ho, hg⟩; have S6 := HS5.out.drew.by_ hg; have d0 : w6.cell? ⟨w.heap.size, 0, none⟩ = some (.slice pa 2 pc) := S6.k.cell 0; have d1 : w6.cell? ⟨w.heap.size, 1, none⟩ = some (.slice (some ⟨g, off, none⟩) 1 rc) := S6.k.cell 1; have d2 : w6.cell? ⟨g2, 1, none⟩ = some (.int .i64 1) := S6.l.cellAt 1 (by decide); rw [HR1.out] at ho; obtain ⟨gr, capr, hv, y1, hcr, y2, y3⟩ := own_open ho (by decide); subst hv; clear y1 y2 y3; have r0 : w6.cell? ⟨gr, 0, none⟩ = some (.int .i64 0) := hcr 0 (by decide); clear ho hcr))
  go_wp2_with fail
  have HS6 := Lib.hid S6
  clear S6 HS5 c0 c1 c2
  refine wp_loop_rounds 2 ?_
  rw [rounds_succ]
  go_wp2_with fail
  go_region_held3 (fun w' => w'.cell? ⟨w.heap.size, 0, none⟩ = some (.slice pa 2 pc) ∧ w'.cell? ⟨w.heap.size, 1, none⟩ = some (.slice (some ⟨g, off, none⟩) 1 rc) ∧ w'.cell? ⟨g2, 1, none⟩ = some (.int .i64 1))
    (first | (exact ⟨f0, f1, f2⟩) | go_keep)
    ((go_at_call 27; refine (other_a _ false _ 0 _ HS6.out.drew.m (by omega)).mono ?_; rintro e w7 ⟨rfl, hg3⟩; have S7 := HS6.out.drew.by_ hg3; have f0 : w7.cell? ⟨w.heap.size, 0, none⟩ = some (.slice pa 2 pc) := S7.k.cell 0; have f1 : w7.cell? ⟨w.heap.size, 1, none⟩ = some (.slice (some ⟨g, off, none⟩) 1 rc) := S7.k.cell 1; have f2 : w7.cell? ⟨g2, 1, none⟩ = some (.int .i64 1) := S7.l.cellAt 1 (by decide); have f3 : w7.cell? ⟨g2, 0, none⟩ = some (.int .i64 0) := S7.l.cellAt 0 (by decide); have f5 := S7.m.road5; have s1 : w7.cell? ⟨gs, 0, none⟩ = some (.bool true) := S7.seen.cell 0; have HS7 := Lib.hid S7; clear S7))
  clear d0 d1 d2 HS6
  go_wp2_with fail
  clear f5 r0 s1 f0 f1
  rw [rounds_succ]
  go_wp2_with fail
  rw [rounds_succ]
  go_wp2_with (go_at_call 49; refine (sort_01 _ _ _ _ f3 f2).mono ?_; rintro e w8 ⟨rfl, hg8⟩)
  go_ret
  have S8 := HS7.out.by_ hg8
  exact ⟨_, rfl, S8.l, S8.seen, S8.g⟩

end Go.Proofs.Ytbiikgkfklhohaa
