/- PlanApplies: the walk. -/
import Derived.Test.YtbiikgkfklhohaaAm
import Derived.Test.YtbiikgkfklhohaaEs
import Derived.Test.YtbiikgkfklhohaaSm
import Derived.Test.YtbiikgkfklhohaaAw
import Derived.Deep.CutRange
namespace Go.Proofs.Ytbiikgkfklhohaa
open Go.RowKit
attribute [local go_sem ↓] Go.wp_at_zero Go.wp_at_succ

theorem EsS.list {w W3 : World} {b : Nat} {l : List Nat} {n6 : Nat} {pv rv : Value} {m : Mn} {ds es : List Ed} {lv lv' : Value} {W W' : World} (h : EsS w W3 b l n6 pv rv m ds lv W) (o : W'.ownsRow W.heap.size 43 16 lv' es.length (es.flatMap edL)) (c : ∃ j, CdAt W' b l j) (g : W.grownBy W' (some b)) : EsS w W3 b l n6 pv rv m es lv' W' := by
  have hl := h.lt
  exact ⟨h.m3, h.c3, gb_same h.k3 g, c, h.k6.of g (by simp; omega), own_mono o h.k3.size, gb_same h.g g, h.lt⟩
theorem EsS.adds {w W3 : World} {b : Nat} {l : List Nat} {n6 : Nat} {pv rv : Value} {m : Mn} {ds : List Ed} {lv : Value} {W W' : World} (h : EsS w W3 b l n6 pv rv m ds lv W) (es : List Ed) {lv' : Value} (hp : W'.ownsRow W3.heap.size 43 16 lv' (ds.length + es.length) (ds.flatMap edL ++ es.flatMap edL)) (o : W.grownBy W' lv.ownBlock) :
    EsS w W3 b l n6 pv rv m (ds ++ es) lv' W' := by
  have hl := h.lt
  have hb : ∀ g, lv.ownBlock = some g → W3.heap.size ≤ g := own_base h.o
  obtain ⟨j, c⟩ := h.cd
  refine ⟨h.m3, h.c3, gb_call h.k3 o (fun g e => .inr (hb g e)), ⟨j, c.keep o (fun g e => by have := hb g e; omega)⟩, h.k6.of o (own_ne h.o h.k6 (by decide)), ?_, gb_call h.g o (fun g e => .inr (by have := hb g e; omega)), h.lt⟩
  have e : (ds ++ es).flatMap edL = ds.flatMap edL ++ es.flatMap edL := by simp
  rw [e, List.length_append]
  exact hp
theorem EsS.edit {w W3 : World} {b : Nat} {l : List Nat} {n6 : Nat} {pv rv : Value} {m : Mn} {ds : List Ed} {lv : Value} {W : World} (h : EsS w W3 b l n6 pv rv m ds lv W) :
    Calls Try.prog 17 #[.pointer (some ⟨b, 0, none⟩), .agg #[pv, rv]] W fun e w' => ∃ d : Ed, e = .returned (.agg #[.int .i64 d.kind, .int .i64 d.place.h, .bool d.place.s, .int .i64 d.new.f, .int .i64 d.new.t, .int .i64 d.new.len, .int .i64 d.new.area, .bool d.new.walk, .bool d.new.closed, .int .i64 d.new.rest.lo, .int .i64 d.new.rest.hi, .int .i64 d.new.lift.lo, .int .i64 d.new.lift.hi, .int .i64 d.road, .int .i64 d.span.lo, .int .i64 d.span.hi]) ∧ (∃ j, CdAt w' b l j) ∧ W.grownBy w' (some b) ∧ EsS w W3 b l n6 pv rv m ds lv w' := by
  obtain ⟨j, c⟩ := h.cd
  refine (drawEdit_any b l j _ m W c h.mn).mono ?_
  rintro e w' ⟨d, rfl, hc, hg⟩
  exact ⟨d, rfl, hc, hg, h.draw hc hg⟩
theorem edL_ones (l : List Ed) : ∀ u ∈ l.flatMap edL, u.oneCell' = true := by
  intro u hu
  obtain ⟨d, _, hd⟩ := List.mem_flatMap.1 hu
  exact edL_one d u hd
theorem sl_two (W : World) (cs : Array Value) (T : TypeId) (n : Nat) (hn : W.heap.size = n) {sz : Nat} (hs : cs.size = 2 * sz) : Sl (W.alloc (.cells cs T)) (.slice (some ⟨n, 0, none⟩) 2 2) sz 2 cs.toList := by
  subst hn
  refine ⟨by simpa using hs, .inr ⟨_, 0, 2, rfl, Nat.le_refl _, by simp [maxLen], fun j hj => ?_⟩⟩
  rw [Nat.zero_add, (Bk.new W cs T).cell j, List.getD_eq_getElem?_getD, Array.getElem?_toList, Array.getElem?_eq_getElem (by omega)]
  rfl

/-- While the edits are tried: the mine's box, the mine, the edits. -/
structure ApT (w : World) (n6 : Nat) (lv : Value) (l : List Ed) (pv rv : Value) (m : Mn) (W : World) : Prop where
  k6 : Bk W n6 #[pv, rv] 26
  m : MnV W (.agg #[pv, rv]) m
  s : Sl W lv 16 l.length (l.flatMap edL)
  g : w.grownBy W none
theorem ApT.by_ {w : World} {n6 : Nat} {lv : Value} {l : List Ed} {pv rv : Value} {m : Mn} {W W' : World} (h : ApT w n6 lv l pv rv m W) (o : W.grownBy W' none) : ApT w n6 lv l pv rv m W' :=
  ⟨h.k6.of o (by simp), h.m.by_ o, h.s.by_ o, gb_none h.g o⟩

/-- Beside them one edit that is read. -/
structure ApE (w : World) (n6 : Nat) (lv : Value) (l : List Ed) (pv rv : Value) (m : Mn) (g o : Nat) (d : Ed) (W : World) : Prop where
  t : ApT w n6 lv l pv rv m W
  e : EdAt W g o d
section
variable {w : World} {n6 : Nat} {lv : Value} {l : List Ed} {pv rv : Value} {m : Mn} {g o : Nat} {d : Ed} {W W' : World}
theorem ApE.by_ (h : ApE w n6 lv l pv rv m g o d W) (q : W.grownBy W' none) : ApE w n6 lv l pv rv m g o d W' := ⟨h.t.by_ q, h.e.by_ q⟩
theorem ApE.three (h : ApE w n6 lv l pv rv m g o d W) : W.cell? ⟨n6, 0, none⟩ = some pv ∧ W.cell? ⟨n6, 1, none⟩ = some rv ∧ (loadE (.pointer (some ⟨g, o, none⟩))).run Try.prog W = .ok (.agg #[.int .i64 d.kind, .int .i64 d.place.h, .bool d.place.s, .int .i64 d.new.f, .int .i64 d.new.t, .int .i64 d.new.len, .int .i64 d.new.area, .bool d.new.walk, .bool d.new.closed, .int .i64 d.new.rest.lo, .int .i64 d.new.rest.hi, .int .i64 d.new.lift.lo, .int .i64 d.new.lift.hi, .int .i64 d.road, .int .i64 d.span.lo, .int .i64 d.span.hi]) W :=
  ⟨h.t.k6.cell 0, h.t.k6.cell 1, run_loadE h.e⟩
end

attribute [local go_sem ↓] loadAt_e
set_option maxRecDepth 100000 in
set_option maxHeartbeats 8000000 in
theorem planApplies_walk (ca : Option Addr) (clen ccap : Nat) (l : List Nat) (q : Ed) (w : World) (hlen : l.length = clen) (hcap : clen ≤ ccap) (hb : ∀ x ∈ l, x < 256)
    (hx : l = [] ∨ ∃ g off, ca = some ⟨g, off, none⟩ ∧ ∀ j, j < l.length → w.cell? ⟨g, off + j, none⟩ = some (.int .u8 (l.getD j 0 : Nat))) :
    Calls Try.prog 4 #[.slice ca clen ccap, .agg #[.int .i64 q.kind, .int .i64 q.place.h, .bool q.place.s, .int .i64 q.new.f, .int .i64 q.new.t, .int .i64 q.new.len, .int .i64 q.new.area, .bool q.new.walk, .bool q.new.closed, .int .i64 q.new.rest.lo, .int .i64 q.new.rest.hi, .int .i64 q.new.lift.lo, .int .i64 q.new.lift.hi, .int .i64 q.road, .int .i64 q.span.lo, .int .i64 q.span.hi]] w fun e w' => e = .returned (.bool true) ∧ w.grownBy w' none := by
  obtain ⟨ie, hie, hie1, hie2, hie3⟩ := info_parts Try.infoEdit
  have HX := Lib.hid hx
  have HL := Lib.hid hlen
  have HB := Lib.hid hb
  clear hx hlen hb
  go_enter Try.func4, Try.ntmps4
  go_wp2_with fail
  have k1 := Bk.new w #[.int .i64 q.kind, .int .i64 q.place.h, .bool q.place.s, .int .i64 q.new.f, .int .i64 q.new.t, .int .i64 q.new.len, .int .i64 q.new.area, .bool q.new.walk, .bool q.new.closed, .int .i64 q.new.rest.lo, .int .i64 q.new.rest.hi, .int .i64 q.new.lift.lo, .int .i64 q.new.lift.hi, .int .i64 q.road, .int .i64 q.span.lo, .int .i64 q.span.hi] 43
  have g1 := gb_alloc (gb_refl w none) (.cells #[.int .i64 q.kind, .int .i64 q.place.h, .bool q.place.s, .int .i64 q.new.f, .int .i64 q.new.t, .int .i64 q.new.len, .int .i64 q.new.area, .bool q.new.walk, .bool q.new.closed, .int .i64 q.new.rest.lo, .int .i64 q.new.rest.hi, .int .i64 q.new.lift.lo, .int .i64 q.new.lift.hi, .int .i64 q.road, .int .i64 q.span.lo, .int .i64 q.span.hi] 43)
  generalize w.alloc _ = W1 at *
  refine (new_any ca clen ccap l _ HL.out hcap HB.out ?_).mono ?_
  · rcases HX.out with h | ⟨g, off, h, hc⟩
    · exact .inl h
    · refine .inr ⟨g, off, h, fun j hj => ?_⟩
      rw [← hc j hj]
      exact gb_cell g1 (World.block_lt_of_cell? w _ (hc j hj)) (by simp) _
  rintro e w2 ⟨rfl, hC, hs2, hbl⟩
  have g2 := gb_none g1 (gb_b hbl)
  have k2 := k1.of (gb_b hbl) (by simp)
  have hs1 := g1.size
  have hs1' := k1.lt
  clear k1 g1 hbl HX HL HB
  generalize l.take 300 = lc at *
  generalize hnb : W1.heap.size = nb at *
  clear hnb
  go_wp2_with fail
  refine (mine_any nb lc _ _ hC).mono ?_
  rintro e w3 ⟨m, v, rfl, hm, _, hp2, hp7, hr8, hC3, g3⟩
  obtain ⟨pa, pc, ra, rc, rfl⟩ := hm.shape'
  have S4 : EsS w2 w3 nb lc w3.heap.size (.slice pa m.ps.length pc) (.slice ra m.rs.length rc) m [] (.slice none 0 0) (w3.alloc (.cells #[.slice pa m.ps.length pc, .slice ra m.rs.length rc] 26)) := by
    obtain ⟨j, c⟩ := hC3
    exact ⟨hm, ⟨j, c⟩, gb_alloc (gb_refl _ _) _, ⟨j, c.alloc _⟩, Bk.new _ _ _, World.ownsRow_nil _ _ _ _, gb_alloc g3 _, ⟨by omega, g3.size, Nat.le_refl _⟩⟩
  have k4 := (k2.of g3 (by simp; omega)).of (gb_alloc (gb_refl _ none) (.cells #[.slice pa m.ps.length pc, .slice ra m.rs.length rc] 26)) (by simp)
  have hs3 := g3.size
  clear hC hC3 hm g3 k2
  go_upto_region 3 with fail
  generalize w3.alloc _ = W at *
  generalize hn6 : w3.heap.size = n6 at *
  go_cut [7] from 19 (fun lv wx => ∃ ls : List Ed, ls.length ≤ 10 ∧ ∃ a c, lv = .slice a ls.length c ∧ ApT w n6 lv ls (.slice pa m.ps.length pc) (.slice ra m.rs.length rc) m wx)
  case first =>
    have SD := S4.by_ (gb_drew (gb_refl _ none))
    have kD := k4.of (gb_drew (gb_refl _ none)) (by simp)
    have f0 : W.drew.cell? ⟨n6, 0, none⟩ = some (.slice pa m.ps.length pc) := SD.k6.cell 0
    have f1 : W.drew.cell? ⟨n6, 1, none⟩ = some (.slice ra m.rs.length rc) := SD.k6.cell 1
    have L0 := run_loadE (Bk.edAt kD)
    have hk4 := k4.lt
    obtain ⟨jd, cd⟩ := SD.cd
    clear S4 k4
    go_region_held3 (fun w' => w'.cell? ⟨n6, 0, none⟩ = some (.slice pa m.ps.length pc) ∧ w'.cell? ⟨n6, 1, none⟩ = some (.slice ra m.rs.length rc) ∧ (loadE (.pointer (some ⟨w.heap.size, 0, none⟩))).run Try.prog w' = .ok (.agg #[.int .i64 q.kind, .int .i64 q.place.h, .bool q.place.s, .int .i64 q.new.f, .int .i64 q.new.t, .int .i64 q.new.len, .int .i64 q.new.area, .bool q.new.walk, .bool q.new.closed, .int .i64 q.new.rest.lo, .int .i64 q.new.rest.hi, .int .i64 q.new.lift.lo, .int .i64 q.new.lift.hi, .int .i64 q.road, .int .i64 q.span.lo, .int .i64 q.span.hi]) w')
      (first | (with_reducible exact ⟨f0, f1, L0⟩) | (exact ⟨(S7.alloc _).k6.cell 0, (S7.alloc _).k6.cell 1, run_loadE (Bk.edAt (k7r.of (gb_alloc (gb_refl _ none) _) (by simp)))⟩) | fail)
      ((first
        | (go_at_call 16; refine (edits_any nb lc jd _ cd).mono ?_; rintro e w6 ⟨ds, lv, rfl, hd8, ho, hc6, hg6⟩; have S6 := SD.list ho hc6 hg6; have k6r := kD.of hg6 (by simp; omega); obtain ⟨la, lcp, hle⟩ := own_slc ho; subst hle; clear ho hc6 hg6; have f0 : w6.cell? ⟨n6, 0, none⟩ = some (.slice pa m.ps.length pc) := S6.k6.cell 0; have f1 : w6.cell? ⟨n6, 1, none⟩ = some (.slice ra m.rs.length rc) := S6.k6.cell 1; have L0 := run_loadE (Bk.edAt k6r))
        | (go_at_call 17; refine (EsS.edit S6).mono ?_; rintro e w7 ⟨d, rfl, hc7, hg7, S7⟩; have k7r := k6r.of hg7 (by simp; omega); clear hc7 hg7; have f0 : w7.cell? ⟨n6, 0, none⟩ = some (.slice pa m.ps.length pc) := S7.k6.cell 0; have f1 : w7.cell? ⟨n6, 1, none⟩ = some (.slice ra m.rs.length rc) := S7.k6.cell 1; have L0 := run_loadE (Bk.edAt k7r))
        | (refine step_app _ (by rfl) _ _ 44 (by rfl) w3.heap.size 43 ie _ 16 120 Try.underlying44 hie hie1 hie2 hie3 rfl (by omega) (.slice la ds.length lcp) ds.length (ds.flatMap edL) (by rfl) (S7.alloc _).o (.slice (some ⟨w7.heap.size, 0, none⟩) 2 2) 2 ([q, d].flatMap edL) (by rfl) (sl_two _ #[.int .i64 q.kind, .int .i64 q.place.h, .bool q.place.s, .int .i64 q.new.f, .int .i64 q.new.t, .int .i64 q.new.len, .int .i64 q.new.area, .bool q.new.walk, .bool q.new.closed, .int .i64 q.new.rest.lo, .int .i64 q.new.rest.hi, .int .i64 q.new.lift.lo, .int .i64 q.new.lift.hi, .int .i64 q.road, .int .i64 q.span.lo, .int .i64 q.span.hi, .int .i64 d.kind, .int .i64 d.place.h, .bool d.place.s, .int .i64 d.new.f, .int .i64 d.new.t, .int .i64 d.new.len, .int .i64 d.new.area, .bool d.new.walk, .bool d.new.closed, .int .i64 d.new.rest.lo, .int .i64 d.new.rest.hi, .int .i64 d.new.lift.lo, .int .i64 d.new.lift.hi, .int .i64 d.road, .int .i64 d.span.lo, .int .i64 d.span.hi] 43 _ rfl rfl) (edL_ones _) (by simp [maxLen]; omega) (by omega) (by have := S7.k3.size; simp; omega) ?_; intro lv' w8 hown8 hg8; obtain ⟨xa, xc, hxe⟩ := own_slc hown8; subst hxe; have S8 := (S7.alloc (.cells #[.int .i64 q.kind, .int .i64 q.place.h, .bool q.place.s, .int .i64 q.new.f, .int .i64 q.new.t, .int .i64 q.new.len, .int .i64 q.new.area, .bool q.new.walk, .bool q.new.closed, .int .i64 q.new.rest.lo, .int .i64 q.new.rest.hi, .int .i64 q.new.lift.lo, .int .i64 q.new.lift.hi, .int .i64 q.road, .int .i64 q.span.lo, .int .i64 q.span.hi, .int .i64 d.kind, .int .i64 d.place.h, .bool d.place.s, .int .i64 d.new.f, .int .i64 d.new.t, .int .i64 d.new.len, .int .i64 d.new.area, .bool d.new.walk, .bool d.new.closed, .int .i64 d.new.rest.lo, .int .i64 d.new.rest.hi, .int .i64 d.new.lift.lo, .int .i64 d.new.lift.hi, .int .i64 d.road, .int .i64 d.span.lo, .int .i64 d.span.hi] 43)).adds [q, d] hown8 hg8; have k8r := (k7r.of (gb_alloc (gb_refl _ none) (.cells #[.int .i64 q.kind, .int .i64 q.place.h, .bool q.place.s, .int .i64 q.new.f, .int .i64 q.new.t, .int .i64 q.new.len, .int .i64 q.new.area, .bool q.new.walk, .bool q.new.closed, .int .i64 q.new.rest.lo, .int .i64 q.new.rest.hi, .int .i64 q.new.lift.lo, .int .i64 q.new.lift.hi, .int .i64 q.road, .int .i64 q.span.lo, .int .i64 q.span.hi, .int .i64 d.kind, .int .i64 d.place.h, .bool d.place.s, .int .i64 d.new.f, .int .i64 d.new.t, .int .i64 d.new.len, .int .i64 d.new.area, .bool d.new.walk, .bool d.new.closed, .int .i64 d.new.rest.lo, .int .i64 d.new.rest.hi, .int .i64 d.new.lift.lo, .int .i64 d.new.lift.hi, .int .i64 d.road, .int .i64 d.span.lo, .int .i64 d.span.hi] 43)) (by simp)).of hg8 (fun e => by have := own_base (S7.alloc (.cells #[.int .i64 q.kind, .int .i64 q.place.h, .bool q.place.s, .int .i64 q.new.f, .int .i64 q.new.t, .int .i64 q.new.len, .int .i64 q.new.area, .bool q.new.walk, .bool q.new.closed, .int .i64 q.new.rest.lo, .int .i64 q.new.rest.hi, .int .i64 q.new.lift.lo, .int .i64 q.new.lift.hi, .int .i64 q.road, .int .i64 q.span.lo, .int .i64 q.span.hi, .int .i64 d.kind, .int .i64 d.place.h, .bool d.place.s, .int .i64 d.new.f, .int .i64 d.new.t, .int .i64 d.new.len, .int .i64 d.new.area, .bool d.new.walk, .bool d.new.closed, .int .i64 d.new.rest.lo, .int .i64 d.new.rest.hi, .int .i64 d.new.lift.lo, .int .i64 d.new.lift.hi, .int .i64 d.road, .int .i64 d.span.lo, .int .i64 d.span.hi] 43)).o _ e; omega); clear hown8 hg8; have f0 : w8.cell? ⟨n6, 0, none⟩ = some (.slice pa m.ps.length pc) := S8.k6.cell 0; have f1 : w8.cell? ⟨n6, 1, none⟩ = some (.slice ra m.rs.length rc) := S8.k6.cell 1; have L0 := run_loadE (Bk.edAt k8r))))
    all_goals go_wp2_with fail
    all_goals go_meet
    all_goals exact ⟨ds ++ [q, d], by simp; omega, xa, xc, by rw [List.length_append]; rfl, S8.k6, S8.mn, own_sl S8.o, gb_new g2 S8.g (by omega)⟩
  case rest =>
    clear S4 k4 g2 hs1 hs1' hs2 hs3
    obtain ⟨ls, hls, la, lcp, rfl, T⟩ := hcut
    go_wp2_with fail
    go_loopw [8] (fun i wr => ∃ k : Nat, k ≤ ls.length ∧ i = .int .i64 k ∧ ApT w n6 (.slice la ls.length lcp) ls (.slice pa m.ps.length pc) (.slice ra m.rs.length rc) m wr) (fun i _ => ls.length - (intOf i).toNat)
    case atStart => exact ⟨0, Nat.zero_le _, rfl, T⟩
    case round =>
      clear T
      obtain ⟨k, hk, rfl, T⟩ := hrel
      by_cases hlt : k < ls.length
      · obtain ⟨g, off, cap, hlv, hcap9, hE⟩ := T.s.edAt hlt
        injection hlv with hl1 _ hl2
        subst hl1
        subst hl2
        generalize ls.getD k ed0 = d at *
        have hk0 : (0 : Int) ≤ (k : Int) := by omega
        have hk1 : (k : Int) < (ls.length : Int) := by omega
        replace T : ApE w n6 _ ls _ _ m g (off + k * 16) d wr := ⟨T, hE⟩
        clear hE
        have HT := Lib.hid T
        obtain ⟨f0, f1, L0⟩ := (T.by_ (gb_drew (gb_refl _ none))).three
        have hn6r := T.t.k6.lt
        clear T
        go_upto_region 7 with fail
        go_cut [9, 10] from 31 to 63 (fun sa sb wx => ∃ (nx : Nat) (x y : Value), sa = .pointer (some ⟨nx, 0, none⟩) ∧ sb = .int .i64 (applyMn m d).2 ∧ ApE w n6 (.slice (some ⟨g, off, none⟩) ls.length lcp) ls (.slice pa m.ps.length pc) (.slice ra m.rs.length rc) m g (off + k * 16) d wx ∧ MnV wx (.agg #[x, y]) (applyMn m d).1 ∧ Bk wx nx #[x, y] 26)
        case first =>
          go_region_held3 (fun w' => w'.cell? ⟨n6, 0, none⟩ = some (.slice pa m.ps.length pc) ∧ w'.cell? ⟨n6, 1, none⟩ = some (.slice ra m.rs.length rc) ∧ (loadE (.pointer (some ⟨g, off + k * 16, none⟩))).run Try.prog w' = .ok (.agg #[.int .i64 d.kind, .int .i64 d.place.h, .bool d.place.s, .int .i64 d.new.f, .int .i64 d.new.t, .int .i64 d.new.len, .int .i64 d.new.area, .bool d.new.walk, .bool d.new.closed, .int .i64 d.new.rest.lo, .int .i64 d.new.rest.hi, .int .i64 d.new.lift.lo, .int .i64 d.new.lift.hi, .int .i64 d.road, .int .i64 d.span.lo, .int .i64 d.span.hi]) w')
            (first | (with_reducible exact ⟨f0, f1, L0⟩) | (exact (HT.out.by_ (gb_drew (gb_alloc (gb_refl _ none) _))).three) | (exact (HT.out.by_ (gb_alloc (gb_refl _ none) _)).three) | (exact (T6.by_ (gb_alloc (gb_refl _ none) _)).three) | (exact T7.three) | fail)
            ((go_at_call 18; (first
              | (have qq : wr.grownBy _ none := gb_drew (gb_refl _ none); refine (apply_any _ m d _ (HT.out.by_ qq).t.m).mono ?_; rintro e w6 ⟨v6, rfl, hO, g6⟩; have q6 := gb_none qq g6; have T6 := HT.out.by_ q6; obtain ⟨ya, yc, yb, yd, rfl⟩ := hO.v.shape'; obtain ⟨f0, f1, L0⟩ := T6.three)
              | (have qq : wr.grownBy _ none := gb_drew (gb_alloc (gb_refl _ none) (.cells #[.slice none 0 0, .slice none 0 0] 26)); refine (apply_any _ m d _ (HT.out.by_ qq).t.m).mono ?_; rintro e w6 ⟨v6, rfl, hO, g6⟩; have q6 := gb_none qq g6; have T6 := HT.out.by_ q6; obtain ⟨ya, yc, yb, yd, rfl⟩ := hO.v.shape'; obtain ⟨f0, f1, L0⟩ := T6.three; have kz := (Bk.new wr #[.slice none 0 0, .slice none 0 0] 26).of (gb_none (gb_drew (gb_refl _ none)) g6) (by simp); have kzc := kz.cell; have kzf := kz.frozen; have q7 := gb_new q6 (setC_gb wr.heap.size [.slice ya (applyMn m d).1.ps.length yc, .slice yb (applyMn m d).1.rs.length yd] w6 0) (Nat.le_refl _); simp only [setC] at q7; have T7 := HT.out.by_ q7))))
          all_goals go_wp2_with fail
          all_goals go_meet
          all_goals first
            | (have q9 := gb_alloc q6 (.cells #[.slice ya (applyMn m d).1.ps.length yc, .slice yb (applyMn m d).1.rs.length yd] 26); exact ⟨_, _, _, rfl, rfl, HT.out.by_ q9, hO.v.by_ (gb_alloc (gb_refl _ none) _), Bk.new _ _ _⟩)
            | (have m8 := hO.v.setB kz (setC_gb wr.heap.size [.slice ya (applyMn m d).1.ps.length yc, .slice yb (applyMn m d).1.rs.length yd] w6 0); have k8 := kz.all [.slice ya (applyMn m d).1.ps.length yc, .slice yb (applyMn m d).1.rs.length yd] rfl; simp only [setC] at m8 k8; exact ⟨_, _, _, rfl, rfl, T7, m8, k8⟩)
        case rest =>
          clear HT f0 f1 L0 hn6r
          obtain ⟨n9, x9, y9, rfl, rfl, T, m9, k9⟩ := hcut
          obtain ⟨a8, b8, c8, d8, e8⟩ := m9.shape'
          injection e8 with e8
          obtain ⟨rfl, rfl⟩ : x9 = .slice a8 (applyMn m d).1.ps.length b8 ∧ y9 = .slice c8 (applyMn m d).1.rs.length d8 := by simpa using e8
          clear e8
          have HX := Lib.hid (And.intro m9 k9)
          clear m9 k9
          have HT := Lib.hid T
          obtain ⟨f0, f1, L0⟩ := (T.by_ (gb_drew (gb_refl _ none))).three
          have hn6r := T.t.k6.lt
          clear T
          go_upto_region 8 with fail
          go_cut [11, 12] from 31 to 63 (fun sa sb wx => ∃ (nx : Nat) (x y : Value), sa = .pointer (some ⟨nx, 0, none⟩) ∧ sb = .int .i64 (applyMn m d).2 ∧ ApE w n6 (.slice (some ⟨g, off, none⟩) ls.length lcp) ls (.slice pa m.ps.length pc) (.slice ra m.rs.length rc) m g (off + k * 16) d wx ∧ MnV wx (.agg #[x, y]) (applyMn m d).1 ∧ Bk wx nx #[x, y] 26 ∧ MnV wx (.agg #[.slice a8 (applyMn m d).1.ps.length b8, .slice c8 (applyMn m d).1.rs.length d8]) (applyMn m d).1 ∧ Bk wx n9 #[.slice a8 (applyMn m d).1.ps.length b8, .slice c8 (applyMn m d).1.rs.length d8] 26)
          case first =>
            go_region_held3 (fun w' => w'.cell? ⟨n6, 0, none⟩ = some (.slice pa m.ps.length pc) ∧ w'.cell? ⟨n6, 1, none⟩ = some (.slice ra m.rs.length rc) ∧ (loadE (.pointer (some ⟨g, off + k * 16, none⟩))).run Try.prog w' = .ok (.agg #[.int .i64 d.kind, .int .i64 d.place.h, .bool d.place.s, .int .i64 d.new.f, .int .i64 d.new.t, .int .i64 d.new.len, .int .i64 d.new.area, .bool d.new.walk, .bool d.new.closed, .int .i64 d.new.rest.lo, .int .i64 d.new.rest.hi, .int .i64 d.new.lift.lo, .int .i64 d.new.lift.hi, .int .i64 d.road, .int .i64 d.span.lo, .int .i64 d.span.hi]) w')
              (first | (with_reducible exact ⟨f0, f1, L0⟩) | (exact (HT.out.by_ (gb_drew (gb_alloc (gb_refl _ none) _))).three) | (exact (HT.out.by_ (gb_alloc (gb_refl _ none) _)).three) | (exact (T6.by_ (gb_alloc (gb_refl _ none) _)).three) | (exact T7.three) | fail)
              ((go_at_call 19; (first
                | (have qq : wc.grownBy _ none := gb_drew (gb_refl _ none); refine (refApply_any _ m d _ (HT.out.by_ qq).t.m).mono ?_; rintro e w6 ⟨v6, rfl, hO, g6⟩; have q6 := gb_none qq g6; have T6 := HT.out.by_ q6; obtain ⟨ya, yc, yb, yd, rfl⟩ := hO.v.shape'; obtain ⟨f0, f1, L0⟩ := T6.three)
                | (have qq : wc.grownBy _ none := gb_drew (gb_alloc (gb_refl _ none) (.cells #[.slice none 0 0, .slice none 0 0] 26)); refine (refApply_any _ m d _ (HT.out.by_ qq).t.m).mono ?_; rintro e w6 ⟨v6, rfl, hO, g6⟩; have q6 := gb_none qq g6; have T6 := HT.out.by_ q6; obtain ⟨ya, yc, yb, yd, rfl⟩ := hO.v.shape'; obtain ⟨f0, f1, L0⟩ := T6.three; have kz := (Bk.new wc #[.slice none 0 0, .slice none 0 0] 26).of (gb_none (gb_drew (gb_refl _ none)) g6) (by simp); have kzc := kz.cell; have kzf := kz.frozen; have q7 := gb_new q6 (setC_gb wc.heap.size [.slice ya (applyMn m d).1.ps.length yc, .slice yb (applyMn m d).1.rs.length yd] w6 0) (Nat.le_refl _); simp only [setC] at q7; have T7 := HT.out.by_ q7))))
            all_goals go_wp2_with fail
            all_goals go_meet
            all_goals first
              | (have q9 := gb_alloc q6 (.cells #[.slice ya (applyMn m d).1.ps.length yc, .slice yb (applyMn m d).1.rs.length yd] 26); exact ⟨_, _, _, rfl, rfl, HT.out.by_ q9, hO.v.by_ (gb_alloc (gb_refl _ none) _), Bk.new _ _ _, HX.out.1.by_ q9, HX.out.2.of q9 (by simp)⟩)
              | (have m8 := hO.v.setB kz (setC_gb wc.heap.size [.slice ya (applyMn m d).1.ps.length yc, .slice yb (applyMn m d).1.rs.length yd] w6 0); have k8 := kz.all [.slice ya (applyMn m d).1.ps.length yc, .slice yb (applyMn m d).1.rs.length yd] rfl; simp only [setC] at m8 k8; exact ⟨_, _, _, rfl, rfl, T7, m8, k8, HX.out.1.by_ q7, HX.out.2.of q7 (by simp)⟩)
          case rest =>
            clear HT HX f0 f1 L0 hn6r
            rename_i wd _
            obtain ⟨n11, x9, y9, rfl, rfl, T, m11, k11, m9, k9⟩ := hcut
            obtain ⟨a7, b7, c7, d7, e8⟩ := m11.shape'
            injection e8 with e8
            obtain ⟨rfl, rfl⟩ : x9 = .slice a7 (applyMn m d).1.ps.length b7 ∧ y9 = .slice c7 (applyMn m d).1.rs.length d7 := by simpa using e8
            clear e8
            have k9c := k9.cell
            have k11c := k11.cell
            go_wp2_with fail
            refine (same_any _ _ (applyMn m d).1 _ m9 m11).mono ?_
            rintro e w14 ⟨rfl, hb⟩
            replace T := T.by_ (gb_b hb)
            clear hb k9c k11c m9 m11 k9 k11
            go_wp2_with fail
            go_roundw
            case rel => exact ⟨k + 1, by omega, by go_num, T.t⟩
            case measure => simp [intOf]; omega
      · have f0 : wr.cell? ⟨n6, 0, none⟩ = some (.slice pa m.ps.length pc) := T.k6.cell 0
        have f1 : wr.cell? ⟨n6, 1, none⟩ = some (.slice ra m.rs.length rc) := T.k6.cell 1
        go_wp2_with fail
        refine (all_any _ _ m ls _ T.m T.s (by omega) (by omega)).mono ?_
        clear f0 f1
        rintro e w6 ⟨v6, rfl, hM, g6⟩
        replace T := T.by_ g6
        clear g6
        generalize hA : allMn m ls 0 = A at *
        have HA := Lib.hid hA
        clear hA
        obtain ⟨mA, nA, cA⟩ := A
        dsimp only at hM ⊢
        obtain ⟨ya, yc, yb, yd, rfl⟩ := hM.shape'
        have g7 := gb_alloc (gb_refl w6 none) (.cells #[.slice ya mA.ps.length yc, .slice yb mA.rs.length yd] 26)
        replace T := T.by_ g7
        replace hM := hM.by_ g7
        have k13 := Bk.new w6 #[.slice ya mA.ps.length yc, .slice yb mA.rs.length yd] 26
        clear g7
        go_upto_region 12 with fail
        generalize w6.alloc _ = W7 at *
        generalize w6.heap.size = n13 at *
        have f0 : W7.cell? ⟨n6, 0, none⟩ = some (.slice pa m.ps.length pc) := T.k6.cell 0
        have f1 : W7.cell? ⟨n6, 1, none⟩ = some (.slice ra m.rs.length rc) := T.k6.cell 1
        go_wp2_with fail
        refine (refAll_any _ _ m ls _ T.m T.s).mono ?_
        clear f0 f1
        rintro e w8 ⟨v8, rfl, hN, g8⟩
        rw [HA.out] at hN ⊢
        clear HA
        dsimp only at hN ⊢
        replace T := T.by_ g8
        replace hM := hM.by_ g8
        replace k13 := k13.of g8 (by simp)
        clear g8
        obtain ⟨za, zc, zb, zd, rfl⟩ := hN.shape'
        have g9 := gb_alloc (gb_refl w8 none) (.cells #[.slice za mA.ps.length zc, .slice zb mA.rs.length zd] 26)
        replace T := T.by_ g9
        replace hM := hM.by_ g9
        replace hN := hN.by_ g9
        replace k13 := k13.of g9 (by simp)
        have k16 := Bk.new w8 #[.slice za mA.ps.length zc, .slice zb mA.rs.length zd] 26
        clear g9
        go_upto_region 13 with fail
        generalize w8.alloc _ = W9 at *
        generalize w8.heap.size = n16 at *
        have k13c := k13.cell
        have k16c := k16.cell
        go_wp2_with fail
        refine (same_any _ _ mA _ hM hN).mono ?_
        clear k13c k16c hM hN k13 k16
        rintro e w10 ⟨rfl, hb⟩
        replace T := T.by_ (gb_b hb)
        clear hb
        go_wp2_with fail
        refine (awake_any _).mono ?_
        rintro e w11 ⟨rfl, hb⟩
        replace T := T.by_ hb
        clear hb
        go_wp2_with fail
        go_ret
        exact ⟨rfl, T.g⟩
end Go.Proofs.Ytbiikgkfklhohaa
