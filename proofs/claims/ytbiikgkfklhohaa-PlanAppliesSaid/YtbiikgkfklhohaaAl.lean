/- Edits one after the other: the program's All, the document's. -/
import Derived.Test.YtbiikgkfklhohaaRa
import Derived.Test.YtbiikgkfklhohaaOr
namespace Go.Proofs.Ytbiikgkfklhohaa
open Go.RowKit
attribute [local go_sem ↓] Go.wp_at_zero Go.wp_at_succ

def ed0 : Ed := ⟨0, ⟨0, false⟩, rd0, 0, ⟨0, 0⟩⟩
/-- Where it stops, and why. -/
def allMn : Mn → List Ed → Nat → Mn × Nat × Int
  | m, [], i => (m, i, 0)
  | m, d :: l, i => if (applyMn m d).2 = 0 then allMn (applyMn m d).1 l (i + 1) else (m, i, (applyMn m d).2)
theorem allMn_next (m : Mn) (l : List Ed) (k : Nat) (hk : k < l.length) : allMn m (l.drop k) k = if (applyMn m (l.getD k ed0)).2 = 0 then allMn (applyMn m (l.getD k ed0)).1 (l.drop (k + 1)) (k + 1) else (m, k, (applyMn m (l.getD k ed0)).2) := by
  rw [List.drop_eq_getElem_cons hk, allMn]
  simp [List.getD_eq_getElem?_getD, List.getElem?_eq_getElem hk]

/-- The cells of an edit. -/
def EdAt (W : World) (g o : Nat) (d : Ed) : Prop := W.cell? ⟨g, o, none⟩ = some (.int .i64 d.kind) ∧ W.cell? ⟨g, o + 1, none⟩ = some (.int .i64 d.place.h) ∧ W.cell? ⟨g, o + 2, none⟩ = some (.bool d.place.s) ∧ W.cell? ⟨g, o + 3, none⟩ = some (.int .i64 d.new.f) ∧ W.cell? ⟨g, o + 4, none⟩ = some (.int .i64 d.new.t) ∧ W.cell? ⟨g, o + 5, none⟩ = some (.int .i64 d.new.len) ∧ W.cell? ⟨g, o + 6, none⟩ = some (.int .i64 d.new.area) ∧ W.cell? ⟨g, o + 7, none⟩ = some (.bool d.new.walk) ∧ W.cell? ⟨g, o + 8, none⟩ = some (.bool d.new.closed) ∧ W.cell? ⟨g, o + 9, none⟩ = some (.int .i64 d.new.rest.lo) ∧ W.cell? ⟨g, o + 10, none⟩ = some (.int .i64 d.new.rest.hi) ∧ W.cell? ⟨g, o + 11, none⟩ = some (.int .i64 d.new.lift.lo) ∧ W.cell? ⟨g, o + 12, none⟩ = some (.int .i64 d.new.lift.hi) ∧ W.cell? ⟨g, o + 13, none⟩ = some (.int .i64 d.road) ∧ W.cell? ⟨g, o + 14, none⟩ = some (.int .i64 d.span.lo) ∧ W.cell? ⟨g, o + 15, none⟩ = some (.int .i64 d.span.hi)
theorem EdAt.by_ {W W' : World} {g o : Nat} {d : Ed} (h : EdAt W g o d) (q : W.grownBy W' none) : EdAt W' g o d := by
  have k : ∀ {x : Nat} {v : Value}, W.cell? ⟨g, x, none⟩ = some v → W'.cell? ⟨g, x, none⟩ = some v := fun {x v} e => by
    rw [← e]; exact gb_cell q (World.block_lt_of_cell? _ _ e) (by simp) _
  obtain ⟨h0, h1, h2, h3, h4, h5, h6, h7, h8, h9, h10, h11, h12, h13, h14, h15⟩ := h
  exact ⟨k h0, k h1, k h2, k h3, k h4, k h5, k h6, k h7, k h8, k h9, k h10, k h11, k h12, k h13, k h14, k h15⟩
theorem Sl.edAt {w : World} {lv : Value} {l : List Ed} (h : Sl w lv 16 l.length (l.flatMap edL)) {k : Nat} (hk : k < l.length) : ∃ g off cap, lv = .slice (some ⟨g, off, none⟩) l.length cap ∧ cap ≤ maxLen ∧ EdAt w g (off + k * 16) (l.getD k ed0) := by
  obtain ⟨a, cap, rfl, hn, hm, h0⟩ := h.shape
  rcases h0 with h0 | ⟨g, off, rfl, hc⟩
  · omega
  have e := fun j hj => Sl.elem (enc := edL) (sz := 16) (fun _ => rfl) ed0 hc k j hk hj
  exact ⟨g, off, cap, rfl, hm, e 0 (by omega), e 1 (by omega), e 2 (by omega), e 3 (by omega), e 4 (by omega), e 5 (by omega), e 6 (by omega), e 7 (by omega), e 8 (by omega), e 9 (by omega), e 10 (by omega), e 11 (by omega), e 12 (by omega), e 13 (by omega), e 14 (by omega), e 15 (by omega)⟩

/-- The load of an edit as one step. -/
noncomputable def loadE (x : Value) : Sem Value := Instr.loadAt 43 x
theorem loadAt_e (x : Value) : Instr.loadAt 43 x = loadE x := rfl
theorem run_loadE {W : World} {g o : Nat} {d : Ed} (k : EdAt W g o d) : (loadE (.pointer (some ⟨g, o, none⟩))).run Try.prog W = .ok (.agg #[.int .i64 d.kind, .int .i64 d.place.h, .bool d.place.s, .int .i64 d.new.f, .int .i64 d.new.t, .int .i64 d.new.len, .int .i64 d.new.area, .bool d.new.walk, .bool d.new.closed, .int .i64 d.new.rest.lo, .int .i64 d.new.rest.hi, .int .i64 d.new.lift.lo, .int .i64 d.new.lift.hi, .int .i64 d.road, .int .i64 d.span.lo, .int .i64 d.span.hi]) W := by
  obtain ⟨h0, h1, h2, h3, h4, h5, h6, h7, h8, h9, h10, h11, h12, h13, h14, h15⟩ := k
  refine (run_loadAt_mid W g o 43 (edL d) _ (fun j v hv => ?_) Try.underlying43 rfl (by kernel_rfl)).trans rfl
  match j with
  | 0 => cases hv; exact h0
  | 1 => cases hv; exact h1
  | 2 => cases hv; exact h2
  | 3 => cases hv; exact h3
  | 4 => cases hv; exact h4
  | 5 => cases hv; exact h5
  | 6 => cases hv; exact h6
  | 7 => cases hv; exact h7
  | 8 => cases hv; exact h8
  | 9 => cases hv; exact h9
  | 10 => cases hv; exact h10
  | 11 => cases hv; exact h11
  | 12 => cases hv; exact h12
  | 13 => cases hv; exact h13
  | 14 => cases hv; exact h14
  | 15 => cases hv; exact h15
  | n + 16 => cases hv
theorem Bk.edAt {W : World} {g : Nat} {d : Ed} (k : Bk W g (edL d).toArray 43) : EdAt W g 0 d := ⟨k.cell 0, k.cell 1, k.cell 2, k.cell 3, k.cell 4, k.cell 5, k.cell 6, k.cell 7, k.cell 8, k.cell 9, k.cell 10, k.cell 11, k.cell 12, k.cell 13, k.cell 14, k.cell 15⟩

/-- A block of a mine is no block of such cells. -/
theorem Sl.setB {W W' : World} {v : Value} {sz n b : Nat} {xs : List Value} {a1 a2 : Option Addr} {n1 n2 c1 c2 : Nat} {T : TypeId} (h : Sl W v sz n xs) (hs : 0 < sz) (k : Bk W b #[.slice a1 n1 c1, .slice a2 n2 c2] T) (o : W.grownBy W' (some b)) (hx : 0 < n → ∃ z, xs.getD 0 undef = .int .i64 z) : Sl W' v sz n xs := by
  refine h.draw o fun off hc => ?_
  by_cases h0 : n = 0
  · exact h0
  exfalso
  have hpos : 0 < n * sz := Nat.mul_pos (by omega) hs
  have c0 := hc 0 hpos
  obtain ⟨z, hz⟩ := hx (by omega)
  rw [hz, k.cell] at c0
  match off with
  | 0 => simp at c0
  | 1 => simp at c0
  | k + 2 => simp at c0
theorem MnV.setB {W W' : World} {v : Value} {m : Mn} {b : Nat} {a1 a2 : Option Addr} {n1 n2 c1 c2 : Nat} {T : TypeId} (h : MnV W v m) (k : Bk W b #[.slice a1 n1 c1, .slice a2 n2 c2] T) (o : W.grownBy W' (some b)) : MnV W' v m := by
  obtain ⟨x, y, hv, h1, h2⟩ := h
  obtain ⟨ps, rs⟩ := m
  refine ⟨x, y, hv, h1.setB (by omega) k o fun h0 => ?_, h2.setB (by omega) k o fun h0 => ?_⟩
  · cases ps with
    | nil => simp at h0
    | cons p ps => exact ⟨_, rfl⟩
  · cases rs with
    | nil => simp at h0
    | cons p ps => exact ⟨_, rfl⟩
theorem MnV.shape' {W : World} {v : Value} {m : Mn} (h : MnV W v m) : ∃ a c b d, v = .agg #[.slice a m.ps.length c, .slice b m.rs.length d] := by
  obtain ⟨x, y, rfl, hp, hr⟩ := h
  obtain ⟨pa, pc, rfl, _⟩ := hp.shape
  obtain ⟨ra, rc, rfl, _⟩ := hr.shape
  exact ⟨_, _, _, _, rfl⟩

/-- While edits are applied: the result's block, the box of the mine so far, the edits. -/
structure AlS (w : World) (n4 n7 : Nat) (lv : Value) (l : List Ed) (mx : Mn) (pv rv : Value) (W : World) : Prop where
  k4 : Bk W n4 #[.slice none 0 0, .slice none 0 0] 26
  k7 : Bk W n7 #[pv, rv] 26
  m : MnV W (.agg #[pv, rv]) mx
  s : Sl W lv 16 l.length (l.flatMap edL)
  g : w.grownBy W none
  n : w.heap.size ≤ n4 ∧ w.heap.size ≤ n7 ∧ n4 ≠ n7
section
variable {w : World} {n4 n7 : Nat} {lv : Value} {l : List Ed} {mx : Mn} {pv rv : Value} {W W' : World}
theorem AlS.by_ (h : AlS w n4 n7 lv l mx pv rv W) (o : W.grownBy W' none) : AlS w n4 n7 lv l mx pv rv W' :=
  ⟨h.k4.of o (by simp), h.k7.of o (by simp), h.m.by_ o, h.s.by_ o, gb_none h.g o, h.n⟩
theorem edL_int (l : List Ed) (h : 0 < l.length) : ∃ z, (l.flatMap edL).getD 0 undef = .int .i64 z := by
  cases l with
  | nil => simp at h
  | cons d l => exact ⟨_, rfl⟩
theorem AlS.put (h : AlS w n4 n7 lv l mx pv rv W) {x y : Value} {my : Mn} (hm : MnV W (.agg #[x, y]) my) : AlS w n4 n7 lv l my x y (setC W n7 0 [x, y]) := by
  obtain ⟨a, b, c, d, e⟩ := h.m.shape'
  injection e with e
  obtain ⟨rfl, rfl⟩ : pv = .slice a mx.ps.length b ∧ rv = .slice c mx.rs.length d := by simpa using e
  have o := setC_gb n7 [x, y] W 0
  have hn := h.n
  exact ⟨h.k4.of o (by simp; omega), h.k7.all [x, y] rfl, hm.setB h.k7 o, h.s.setB (by omega) h.k7 o (edL_int l), gb_new h.g o hn.2.1, h.n⟩
theorem AlS.fin (h : AlS w n4 n7 lv l mx pv rv W) : Bk (setC W n4 0 [pv, rv]) n4 #[pv, rv] 26 ∧ MnV (setC W n4 0 [pv, rv]) (.agg #[pv, rv]) mx ∧ w.grownBy (setC W n4 0 [pv, rv]) none := by
  have o := setC_gb n4 [pv, rv] W 0
  exact ⟨h.k4.all [pv, rv] rfl, h.m.setB h.k4 o, gb_new h.g o h.n.1⟩
end

attribute [local go_sem ↓] storeAt_ed loadAt_e
attribute [local go_sem] run_storeEd there_new setC_size

set_option maxRecDepth 100000 in
set_option maxHeartbeats 8000000 in
theorem all_any (v lv : Value) (m : Mn) (l : List Ed) (w : World) (h : MnV w v m) (hl : Sl w lv 16 l.length (l.flatMap edL)) (h1 : m.ps.length ≤ 100000) (h2 : m.rs.length ≤ 100000) :
    Calls Try.prog 21 #[v, lv] w fun e w' => ∃ v', e = .returned (.tuple #[v', .int .i64 (allMn m l 0).2.1, .int .i64 (allMn m l 0).2.2]) ∧ MnV w' v' (allMn m l 0).1 ∧ w.grownBy w' none := by
  obtain ⟨pa, pc, ra, rc, rfl⟩ := h.shape'
  obtain ⟨la, lc, rfl, lc1, lc2, _⟩ := hl.shape
  unfold maxLen at lc2
  generalize hA : allMn m l 0 = am
  have HA := Lib.hid hA
  clear hA
  go_enter Try.func21, Try.ntmps21
  go_wp2_with fail
  have k4 := Bk.new (w.alloc (.cells #[.slice pa m.ps.length pc, .slice ra m.rs.length rc] 26)) #[.slice none 0 0, .slice none 0 0] 26
  have g4 := gb_alloc (gb_alloc (gb_refl w none) (.cells #[.slice pa m.ps.length pc, .slice ra m.rs.length rc] 26)) (.cells #[.slice none 0 0, .slice none 0 0] 26)
  rw [World.size_alloc] at k4
  generalize (w.alloc _).alloc _ = W at *
  refine (clone_any _ m _ (h.by_ g4) h1 h2).mono ?_
  rintro e w2 ⟨v2, rfl, hO, g2⟩
  obtain ⟨xa, xc, xb, xd, rfl⟩ := hO.v.shape'
  have g3 := gb_alloc (gb_none g4 g2) (.cells #[.slice xa m.ps.length xc, .slice xb m.rs.length xd] 26)
  have gA := gb_alloc (gb_refl w2 none) (.cells #[.slice xa m.ps.length xc, .slice xb m.rs.length xd] 26)
  have S : AlS w (w.heap.size + 1) w2.heap.size (.slice la l.length lc) l m (.slice xa m.ps.length xc) (.slice xb m.rs.length xd) (w2.alloc (.cells #[.slice xa m.ps.length xc, .slice xb m.rs.length xd] 26)) :=
    ⟨(k4.of g2 (by simp)).of gA (by simp), Bk.new _ _ _, hO.v.by_ gA, hl.by_ g3, g3, ⟨by omega, by have := (gb_none g4 g2).size; omega, by have := (k4.of g2 (by simp)).lt; omega⟩⟩
  clear k4 g4 g2 hO g3 gA h hl h1 h2
  go_wp2_with fail
  generalize w2.alloc _ = W3 at *
  generalize w2.heap.size = n7 at *
  go_loopw [16] (fun i wr => ∃ (k : Nat) (mx : Mn) (pv rv : Value), k ≤ l.length ∧ i = .int .i64 k ∧ am = allMn mx (l.drop k) k ∧ AlS w (w.heap.size + 1) n7 (.slice la l.length lc) l mx pv rv wr) (fun i _ => l.length - (intOf i).toNat)
  case atStart => exact ⟨0, m, _, _, Nat.zero_le _, rfl, HA.out.symm, S⟩
  case round =>
    clear S HA
    obtain ⟨k, mx, pv, rv, hk, rfl, ha, S⟩ := hrel
    have HA := Lib.hid ha
    clear ha
    by_cases hlt : k < l.length
    · obtain ⟨g, off, cap, hlv, hcap, hE⟩ := S.s.edAt hlt
      injection hlv with hl1 _ hl2
      subst hl1
      subst hl2
      have HN := Lib.hid (HA.out.trans (allMn_next mx l k hlt))
      generalize l.getD k ed0 = d at *
      have L1 := run_loadE hE
      have hk0 : (0 : Int) ≤ (k : Int) := by omega
      have hk1 : (k : Int) < (l.length : Int) := by omega
      clear hE
      go_upto_region 5 with fail
      have q : wr.grownBy (setC (wr.alloc (.cells #[.int .i64 0, .int .i64 0, .bool false, .int .i64 0, .int .i64 0, .int .i64 0, .int .i64 0, .bool false, .bool false, .int .i64 0, .int .i64 0, .int .i64 0, .int .i64 0, .int .i64 0, .int .i64 0, .int .i64 0] 43)) wr.heap.size 0 (edL d)) none := gb_new (gb_alloc (gb_refl wr none) _) (setC_gb _ _ _ _) (Nat.le_refl _)
      have k9 : Bk (setC (wr.alloc (.cells #[.int .i64 0, .int .i64 0, .bool false, .int .i64 0, .int .i64 0, .int .i64 0, .int .i64 0, .bool false, .bool false, .int .i64 0, .int .i64 0, .int .i64 0, .int .i64 0, .int .i64 0, .int .i64 0, .int .i64 0] 43)) wr.heap.size 0 (edL d)) wr.heap.size (edL d).toArray 43 := (Bk.new wr #[.int .i64 0, .int .i64 0, .bool false, .int .i64 0, .int .i64 0, .int .i64 0, .int .i64 0, .bool false, .bool false, .int .i64 0, .int .i64 0, .int .i64 0, .int .i64 0, .int .i64 0, .int .i64 0, .int .i64 0] 43).all (edL d) rfl
      simp only [edL] at q k9
      have S5 := S.by_ q
      clear S q L1
      generalize setC _ _ _ _ = W5 at *
      generalize wr.heap.size = n9 at *
      have L2 := run_loadE (Bk.edAt k9)
      have k7c := S5.k7.cell
      clear k9
      go_wp2_with fail
      refine (apply_any _ mx d _ S5.m).mono ?_
      clear L2 k7c
      rintro e w6 ⟨v6, rfl, hO, g6⟩
      have S6 := S5.by_ g6
      clear S5 g6
      obtain ⟨ya, yc, yb, yd, rfl⟩ := hO.v.shape'
      have g7 := gb_alloc (gb_refl w6 none) (.cells #[.slice ya (applyMn mx d).1.ps.length yc, .slice yb (applyMn mx d).1.rs.length yd] 26)
      have S7 := S6.by_ g7
      have m7 := hO.v.by_ g7
      have k10 := Bk.new w6 #[.slice ya (applyMn mx d).1.ps.length yc, .slice yb (applyMn mx d).1.rs.length yd] 26
      clear S6 hO g7
      go_upto_region 6 with fail
      generalize w6.alloc _ = W7 at *
      generalize w6.heap.size = n10 at *
      by_cases hc : (applyMn mx d).2 = 0
      · have hn := HN.out
        rw [if_pos hc] at hn
        replace HN := Lib.hid hn
        clear hn
        have F := S7.put m7
        simp only [setC] at F
        have HF := Lib.hid F
        clear F
        rw [hc]
        clear hc
        have k7c := S7.k7.cell
        have k7f := S7.k7.frozen
        have k10c := k10.cell
        clear S7 m7
        go_wp2_with fail
        go_roundw
        case rel => exact ⟨k + 1, (applyMn mx d).1, _, _, by omega, by go_num, HN.out, HF.out⟩
        case measure => simp [intOf]; omega
      · have hn := HN.out
        rw [if_neg hc] at hn
        replace HN := Lib.hid hn
        clear hn
        have n1 : ((applyMn mx d).2 == 0) = false := by simpa using hc
        have n2 : ((applyMn mx d).2 != 0) = true := by simpa using hc
        obtain ⟨a7, b7, c7, d7, e7⟩ := S7.m.shape'
        injection e7 with e7
        obtain ⟨rfl, rfl⟩ : pv = .slice a7 mx.ps.length b7 ∧ rv = .slice c7 mx.rs.length d7 := by simpa using e7
        clear hc m7 k10 e7
        have F := S7.fin
        simp only [setC] at F
        have k4c := S7.k4.cell
        have k4f := S7.k4.frozen
        have k7c := S7.k7.cell
        have HF := Lib.hid F
        clear F S7
        go_wp2_with fail
        obtain ⟨fk, fm, fg⟩ := HF.out
        generalize World.setCell _ ⟨w.heap.size + 1, 1, none⟩ _ = W9 at *
        have fkc := fk.cell
        clear k4c k4f k7c
        refine bodyPost_ret (v := .tuple #[.agg #[.slice a7 mx.ps.length b7, .slice c7 mx.rs.length d7], .int .i64 k, .int .i64 (applyMn mx d).2]) (by simp [results, Try.results21, go_sem, fkc]) rfl ?_
        rw [HN.out]
        exact ⟨_, rfl, fm, fg⟩
    · obtain rfl : k = l.length := by omega
      have hn := HA.out
      rw [List.drop_length, allMn] at hn
      have HN := Lib.hid hn
      clear hn HA hlt
      obtain ⟨a7, b7, c7, d7, e7⟩ := S.m.shape'
      injection e7 with e7
      obtain ⟨rfl, rfl⟩ : pv = .slice a7 mx.ps.length b7 ∧ rv = .slice c7 mx.rs.length d7 := by simpa using e7
      clear e7
      have F := S.fin
      simp only [setC] at F
      have k4c := S.k4.cell
      have k4f := S.k4.frozen
      have k7c := S.k7.cell
      have HF := Lib.hid F
      clear F S
      go_wp2_with fail
      obtain ⟨fk, fm, fg⟩ := HF.out
      generalize World.setCell _ ⟨w.heap.size + 1, 1, none⟩ _ = W9 at *
      have fkc := fk.cell
      clear k4c k4f k7c
      refine bodyPost_ret (v := .tuple #[.agg #[.slice a7 mx.ps.length b7, .slice c7 mx.rs.length d7], .int .i64 l.length, .int .i64 0]) (by simp [results, Try.results21, go_sem, fkc]) rfl ?_
      rw [HN.out]
      exact ⟨_, rfl, fm, fg⟩
end Go.Proofs.Ytbiikgkfklhohaa
