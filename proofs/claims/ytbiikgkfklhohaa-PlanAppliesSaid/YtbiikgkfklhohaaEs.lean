/- Drawn edits: a list of at most eight. -/
import Derived.Test.YtbiikgkfklhohaaOr
import Derived.Test.YtbiikgkfklhohaaAl
namespace Go.Proofs.Ytbiikgkfklhohaa
open Go.RowKit
attribute [local go_sem ↓] Go.wp_at_zero Go.wp_at_succ

theorem Try.infoEdit : (Try.prog.info? 43).map (fun i => (i.zero, i.size, i.bytes)) = some (some (.agg #[.int .i64 0, .int .i64 0, .bool false, .int .i64 0, .int .i64 0, .int .i64 0, .int .i64 0, .bool false, .bool false, .int .i64 0, .int .i64 0, .int .i64 0, .int .i64 0, .int .i64 0, .int .i64 0, .int .i64 0]), 16, 120) := by kernel_rfl
theorem edL_one (d : Ed) : ∀ u ∈ edL d, u.oneCell' = true := by
  intro u hu
  simp [edL] at hu
  rcases hu with rfl | rfl | rfl | rfl | rfl | rfl | rfl | rfl | rfl | rfl | rfl | rfl | rfl | rfl | rfl | rfl <;> rfl

/-- While edits are drawn: the codes, the mine's box, the list. -/
structure EsS (w W3 : World) (b : Nat) (l : List Nat) (n6 : Nat) (pv rv : Value) (m : Mn) (ds : List Ed) (lv : Value) (W : World) : Prop where
  m3 : MnV W3 (.agg #[pv, rv]) m
  c3 : ∃ j, CdAt W3 b l j
  k3 : W3.grownBy W (some b)
  cd : ∃ j, CdAt W b l j
  k6 : Bk W n6 #[pv, rv] 26
  o : W.ownsRow W3.heap.size 43 16 lv ds.length (ds.flatMap edL)
  g : w.grownBy W (some b)
  lt : b < w.heap.size ∧ w.heap.size ≤ W3.heap.size ∧ W3.heap.size ≤ n6
section
variable {w W3 : World} {b : Nat} {l : List Nat} {n6 : Nat} {pv rv : Value} {m : Mn} {ds : List Ed} {lv : Value} {W W' : World}
theorem EsS.mn (h : EsS w W3 b l n6 pv rv m ds lv W) : MnV W (.agg #[pv, rv]) m := let ⟨_, c⟩ := h.c3; h.m3.draw c h.k3
theorem EsS.by_ (h : EsS w W3 b l n6 pv rv m ds lv W) (o : W.grownBy W' none) : EsS w W3 b l n6 pv rv m ds lv W' :=
  let ⟨j, c⟩ := h.cd
  ⟨h.m3, h.c3, gb_none h.k3 o, ⟨j, c.keep o (fun g e => by cases e)⟩, h.k6.of o (by simp), own_by h.o o, gb_none h.g o, h.lt⟩
theorem EsS.alloc (h : EsS w W3 b l n6 pv rv m ds lv W) (o : Obj) : EsS w W3 b l n6 pv rv m ds lv (W.alloc o) := h.by_ (gb_alloc (gb_refl _ _) _)
theorem EsS.draw (h : EsS w W3 b l n6 pv rv m ds lv W) (c : ∃ j, CdAt W' b l j) (o : W.grownBy W' (some b)) : EsS w W3 b l n6 pv rv m ds lv W' := by
  have hl := h.lt
  exact ⟨h.m3, h.c3, gb_same h.k3 o, c, h.k6.of o (by simp; omega), h.o.kept o (.inr fun e => by have := own_base h.o b e; omega), gb_same h.g o, h.lt⟩
theorem EsS.add (h : EsS w W3 b l n6 pv rv m ds lv W) (d : Ed) {lv' : Value} (hp : W'.ownsRow W3.heap.size 43 16 lv' (ds.length + 1) (ds.flatMap edL ++ edL d)) (o : W.grownBy W' lv.ownBlock) :
    EsS w W3 b l n6 pv rv m (ds ++ [d]) lv' W' := by
  have hl := h.lt
  have hb : ∀ g, lv.ownBlock = some g → W3.heap.size ≤ g := own_base h.o
  obtain ⟨j, c⟩ := h.cd
  refine ⟨h.m3, h.c3, gb_call h.k3 o (fun g e => .inr (hb g e)), ⟨j, c.keep o (fun g e => by have := hb g e; omega)⟩, h.k6.of o (own_ne h.o h.k6 (by decide)), ?_, gb_call h.g o (fun g e => .inr (by have := hb g e; omega)), h.lt⟩
  have e : (ds ++ [d]).flatMap edL = ds.flatMap edL ++ edL d := by simp
  rw [e, List.length_append]
  exact hp
end

set_option maxRecDepth 100000 in
set_option maxHeartbeats 8000000 in
theorem edits_any (b : Nat) (l : List Nat) (i : Nat) (w : World) (h : CdAt w b l i) :
    Calls Try.prog 16 #[.pointer (some ⟨b, 0, none⟩), .int .i64 8] w fun e w' => ∃ ds : List Ed, ∃ lv, e = .returned lv ∧ ds.length ≤ 8 ∧ w'.ownsRow w.heap.size 43 16 lv ds.length (ds.flatMap edL) ∧ (∃ j, CdAt w' b l j) ∧ w.grownBy w' (some b) := by
  have hb := h.lt
  obtain ⟨ie, hie, hie1, hie2, hie3⟩ := info_parts Try.infoEdit
  go_enter Try.func16, Try.ntmps16
  go_wp2_with fail
  refine (mine_any b l i w h).mono ?_
  rintro e w3 ⟨m, v, rfl, hm, _, hp2, hp7, hr8, hC3, g3⟩
  obtain ⟨pa, pc, pb, pd, rfl⟩ := hm.shape'
  have gA := gb_alloc (gb_refl w3 none) (.cells #[.slice pa m.ps.length pc, .slice pb m.rs.length pd] 26)
  have S : EsS w w3 b l w3.heap.size (.slice pa m.ps.length pc) (.slice pb m.rs.length pd) m [] (.slice none 0 0) (w3.alloc (.cells #[.slice pa m.ps.length pc, .slice pb m.rs.length pd] 26)) := by
    obtain ⟨j, c⟩ := hC3
    exact ⟨hm, ⟨j, c⟩, gb_alloc (gb_refl _ _) _, ⟨j, c.alloc _⟩, Bk.new _ _ _, World.ownsRow_nil _ _ _ _, gb_alloc g3 _, ⟨hb, g3.size, Nat.le_refl _⟩⟩
  clear h hm hC3 gA
  go_wp2_with fail
  generalize w3.alloc _ = W4 at *
  generalize hn6 : w3.heap.size = n6 at *
  clear hn6
  obtain ⟨j0, c0⟩ := S.cd
  refine (next_ex _ _ _ _ _ c0 (by omega) (by omega)).mono ?_
  rintro e w5 ⟨n, j1, rfl, a1, b1, c1, ho⟩
  have S1 := S.draw ⟨j1, c1⟩ (gb_only ho)
  clear S ho c1 c0
  go_wp2_with fail
  go_loopw [5, 7] (fun lv x wr => ∃ (k : Int) (ds : List Ed), x = .int .i64 k ∧ 0 ≤ k ∧ ds.length + k ≤ 8 ∧ EsS w w3 b l n6 (.slice pa m.ps.length pc) (.slice pb m.rs.length pd) m ds lv wr) (fun _ x _ => (intOf x).toNat)
  case atStart => exact ⟨_, [], rfl, by omega, by simp; omega, S1⟩
  case round =>
    clear S1
    obtain ⟨k, ds, rfl, hk0, hk8, S⟩ := hrel
    by_cases hlt : 0 < k
    · have k6c := S.k6.cell
      obtain ⟨j, c⟩ := S.cd
      obtain ⟨la, lc, hlv⟩ := own_slc S.o
      subst hlv
      go_wp2_with fail
      refine (drawEdit_any b l j _ m _ c S.mn).mono ?_
      rintro e w6 ⟨d, rfl, hc, hg⟩
      have S6 := S.draw hc hg
      have hb6 : w3.heap.size ≤ w6.heap.size := S6.k3.size
      clear S k6c c hc hg
      have HS := Lib.hid S6
      clear S6
      unfold Ed.v
      go_wp2_with (at_builtin; go_loud (refine wpList_app _ rfl _ _ 44 rfl w3.heap.size 43 ie _ 16 120 Try.underlying44 hie hie1 hie2 hie3 rfl (by omega) (.slice la ds.length lc) ds.length (ds.flatMap edL) rfl (HS.out.alloc _).o (.slice (some ⟨w6.heap.size, 0, none⟩) 1 1) 1 (edL d) rfl (sl_new _ _ _ _ rfl (by simp [maxLen]) rfl) (edL_one d) (by simp [maxLen]; omega) (by omega) (by simp; omega) ?_); intro lv' w8 hown hgrow; have HS8 := Lib.hid ((HS.out.alloc (.cells #[.int .i64 d.kind, .int .i64 d.place.h, .bool d.place.s, .int .i64 d.new.f, .int .i64 d.new.t, .int .i64 d.new.len, .int .i64 d.new.area, .bool d.new.walk, .bool d.new.closed, .int .i64 d.new.rest.lo, .int .i64 d.new.rest.hi, .int .i64 d.new.lift.lo, .int .i64 d.new.lift.hi, .int .i64 d.road, .int .i64 d.span.lo, .int .i64 d.span.hi] 43)).add d hown hgrow); clear hown hgrow)
      exact ⟨⟨k - 1, ds ++ [d], rfl, by omega, by simp; omega, HS8.out⟩, by simp [intOf]; omega⟩
    · have S2 := Lib.hid S
      clear S
      go_wp2_with fail
      go_ret
      have S := S2.out
      exact ⟨ds, _, rfl, by omega, own_mono S.o S.lt.2.1, S.cd, S.g⟩
end Go.Proofs.Ytbiikgkfklhohaa
