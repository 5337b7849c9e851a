/- Edits: hasRoad, checkEdit, edit, Apply. -/
import Derived.Test.YtbiikgkfklhohaaCl
namespace Go.Proofs.Ytbiikgkfklhohaa
open Go.RowKit
attribute [local go_sem ↓] Go.wp_at_zero Go.wp_at_succ

structure Ed where
  kind : Int
  place : Pl
  new : Rd
  road : Int
  span : Sp
def Ed.v (e : Ed) : Value := .agg #[.int .i64 e.kind, .int .i64 e.place.h, .bool e.place.s, .int .i64 e.new.f, .int .i64 e.new.t, .int .i64 e.new.len, .int .i64 e.new.area, .bool e.new.walk, .bool e.new.closed,
  .int .i64 e.new.rest.lo, .int .i64 e.new.rest.hi, .int .i64 e.new.lift.lo, .int .i64 e.new.lift.hi, .int .i64 e.road, .int .i64 e.span.lo, .int .i64 e.span.hi]
def ckEd (m : Mn) (e : Ed) : Int :=
  if e.kind = 1 ∨ e.kind = 2 then 0
  else if e.kind = 3 ∨ e.kind = 4 ∨ e.kind = 5 ∨ e.kind = 6 then
    if e.road < 0 ∨ m.rs.length ≤ e.road then 4
    else if (e.kind = 3 ∧ (m.rs.getD e.road.toNat rd0).closed = true) ∨ (e.kind = 4 ∧ (m.rs.getD e.road.toNat rd0).closed = false) then 10 else 0
  else 5
def Rd.shut (r : Rd) (c : Bool) : Rd := ⟨r.f, r.t, r.len, r.area, r.walk, c, r.rest, r.lift⟩
def Rd.rested (r : Rd) (s : Sp) : Rd := ⟨r.f, r.t, r.len, r.area, r.walk, r.closed, s, r.lift⟩
def Rd.lifted (r : Rd) (s : Sp) : Rd := ⟨r.f, r.t, r.len, r.area, r.walk, r.closed, r.rest, s⟩
def edMn (m : Mn) (e : Ed) : Mn :=
  let r := m.rs.getD e.road.toNat rd0
  if e.kind = 1 then ⟨m.ps ++ [e.place], m.rs⟩
  else if e.kind = 2 then ⟨m.ps, m.rs ++ [e.new]⟩
  else if e.kind = 3 then ⟨m.ps, m.rs.set e.road.toNat (r.shut true)⟩
  else if e.kind = 4 then ⟨m.ps, m.rs.set e.road.toNat (r.shut false)⟩
  else if e.kind = 5 then ⟨m.ps, m.rs.set e.road.toNat (r.rested e.span)⟩
  else ⟨m.ps, m.rs.set e.road.toNat (r.lifted e.span)⟩

set_option maxHeartbeats 400000 in
theorem hasRoad_any (v : Value) (m : Mn) (n : Int) (w : World) (h : MnV w v m) :
    Calls Try.prog 46 #[v, .int .i64 n] w fun e w' => e = .returned (.bool (wi n 0 (m.rs.length - 1))) ∧ Below w.heap.size w w' := by
  obtain ⟨a, b, rfl, hp, hr⟩ := h
  obtain ⟨pa, pc, rfl, pc1, pc2, hpc⟩ := hp.shape
  obtain ⟨ra, rc, rfl, rc1, rc2, hrc⟩ := hr.shape
  have hB := Lib.hid ((Below.refl w.heap.size w).alloc (Nat.le_refl _) (.cells #[.slice pa m.ps.length pc, .slice ra m.rs.length rc] 26))
  clear hpc hrc hp hr
  unfold maxLen at rc2
  go_enter Try.func46, Try.ntmps46
  go_wp2_with (go_at_call 40; refine (within_any _ _ _ _).mono ?_; rintro e w' ⟨rfl, rfl⟩)
  go_ret
  exact ⟨rfl, hB.out⟩

set_option maxHeartbeats 2000000 in
theorem checkEdit_any (v : Value) (m : Mn) (d : Ed) (w : World) (h : MnV w v m) :
    Calls Try.prog 43 #[v, d.v] w fun e w' => e = .returned (.int .i64 (ckEd m d)) ∧ Below w.heap.size w w' := by
  obtain ⟨a, b, rfl, hp, hr⟩ := h
  obtain ⟨pa, pc, rfl, pc1, pc2, hpc⟩ := hp.shape
  obtain ⟨ra, rc, rfl, rc1, rc2, hrc⟩ := hr.shape
  obtain ⟨kind, ⟨ph, pb⟩, ⟨rf, rt, rlen, rarea, rwalk, rclosed, ⟨r1, r2⟩, ⟨r3, r4⟩⟩, road, ⟨lo, hi⟩⟩ := d
  unfold Ed.v
  dsimp only
  have hB := (Below.refl w.heap.size w).alloc (Nat.le_refl _) (.cells #[.slice pa m.ps.length pc, .slice ra m.rs.length rc] 26)
  have hB2 := bl_alloc hB (.cells #[.int .i64 kind, .int .i64 ph, .bool pb, .int .i64 rf, .int .i64 rt, .int .i64 rlen, .int .i64 rarea, .bool rwalk, .bool rclosed, .int .i64 r1, .int .i64 r2, .int .i64 r3, .int .i64 r4, .int .i64 road, .int .i64 lo, .int .i64 hi] 43)
  have HM := Lib.hid (MnV.below (show MnV w (.agg #[.slice pa m.ps.length pc, .slice ra m.rs.length rc]) m from ⟨_, _, rfl, hp, hr⟩) hB2)
  have HR := Lib.hid hrc
  have HB := Lib.hid hB2
  clear hpc hrc hp hr hB hB2
  unfold maxLen at rc2
  generalize hE : ckEd m ⟨kind, ⟨ph, pb⟩, ⟨rf, rt, rlen, rarea, rwalk, rclosed, ⟨r1, r2⟩, ⟨r3, r4⟩⟩, road, ⟨lo, hi⟩⟩ = code
  unfold ckEd at hE
  dsimp only at hE
  by_cases k12 : kind = 1 ∨ kind = 2
  · rw [if_pos k12] at hE
    subst hE
    rcases k12 with rfl | rfl
    all_goals
      go_enter Try.func43, Try.ntmps43
      go_wp2
      go_ret
      exact ⟨rfl, HB.out⟩
  · rw [if_neg k12] at hE
    by_cases k36 : kind = 3 ∨ kind = 4 ∨ kind = 5 ∨ kind = 6
    · rw [if_pos k36] at hE
      by_cases hr : road < 0 ∨ m.rs.length ≤ road
      · rw [if_pos hr] at hE
        subst hE
        have W := Lib.hid (show wi road 0 (m.rs.length - 1) = false by simp [wi]; omega)
        clear hr k12
        rcases k36 with rfl | rfl | rfl | rfl
        all_goals
          go_enter Try.func43, Try.ntmps43
          go_wp2_with (go_at_call 46; refine (hasRoad_any _ m _ _ HM.out).mono ?_; rw [W.out]; rintro e w' ⟨rfl, hb⟩)
          go_ret
          exact ⟨rfl, bl_call HB.out hb⟩
      · rw [if_neg hr] at hE
        have W := Lib.hid (show wi road 0 (m.rs.length - 1) = true by simp [wi]; omega)
        obtain ⟨k, rfl⟩ : ∃ k : Nat, road = k := ⟨road.toNat, by omega⟩
        rw [Int.toNat_natCast] at hE
        have hk : k < m.rs.length := by omega
        have hk2 : (k : Int) < (m.rs.length : Int) := by omega
        obtain ⟨g, off, rfl, hc⟩ : ∃ g off, ra = some ⟨g, off, none⟩ ∧ ∀ j, j < m.rs.length * 10 → w.cell? ⟨g, off + j, none⟩ = some ((m.rs.flatMap Rd.cells).getD j undef) := by
          rcases HR.out with h | h
          · omega
          · exact h
        obtain ⟨_, _, _, _, _, e5, _⟩ := rd_cells hc k hk
        have E5 := Lib.hid e5
        generalize (m.rs.getD k rd0).closed = cl at *
        clear hr k12 hc e5 HR
        rcases k36 with rfl | rfl | rfl | rfl <;> rcases cl with _ | _
        all_goals
          simp at hE
          subst hE
          go_enter Try.func43, Try.ntmps43
          go_wp2_with (go_at_call 46; refine (hasRoad_any _ m _ _ HM.out).mono ?_; rw [W.out]; rintro e w' ⟨rfl, hb⟩; obtain ⟨hc1, hf1⟩ := bcell hb; have e5 := cellv hb (cellv HB.out E5.out))
          go_ret
          exact ⟨rfl, bl_call HB.out hb⟩
    · rw [if_neg k36] at hE
      subst hE
      have n1 : (kind == 1) = false := beq_eq_false_iff_ne.2 (by omega)
      have n2 : (kind == 2) = false := beq_eq_false_iff_ne.2 (by omega)
      have n3 : (kind == 3) = false := beq_eq_false_iff_ne.2 (by omega)
      have n4 : (kind == 4) = false := beq_eq_false_iff_ne.2 (by omega)
      have n5 : (kind == 5) = false := beq_eq_false_iff_ne.2 (by omega)
      have n6 : (kind == 6) = false := beq_eq_false_iff_ne.2 (by omega)
      clear k12 k36
      go_enter Try.func43, Try.ntmps43
      go_wp2
      go_ret
      exact ⟨rfl, HB.out⟩

section
variable {w : World} {n3 nR : Nat} {m : Mn} {pv rv : Value} {W : World}
theorem SpS.alloc (h : SpS w n3 nR m pv rv W) (o : Obj) : SpS w n3 nR m pv rv (W.alloc o) := h.by_ (gb_alloc (gb_refl _ _) _)
theorem SpS.addP {W' : World} (h : SpS w n3 nR m pv rv W) (p : Pl) {pv' : Value} (hp : W'.ownsRow w.heap.size 37 2 pv' (m.ps.length + 1) (m.ps.flatMap Pl.cells ++ p.cells)) (o : W.grownBy W' pv.ownBlock) (hne : n3 ≠ nR) :
    SpS w n3 nR ⟨m.ps ++ [p], m.rs⟩ pv' rv (W'.setCell ⟨n3, 0, none⟩ pv') := by
  obtain ⟨x, y, kR⟩ := h.kR
  have k' := h.k.of o (own_ne h.p h.k (by decide))
  have kR' := kR.of o (own_ne h.p kR (by decide))
  have g2 : W'.grownBy (W'.setCell ⟨n3, 0, none⟩ pv') (some n3) := gb_set (gb_refl _ _) ⟨n3, 0, none⟩ (.inl rfl) _
  refine ⟨by simpa using k'.set 0 pv', ⟨x, y, kR'.of g2 (by simpa using hne)⟩, ?_, ?_, gb_new (gb_call h.g o (fun g e => .inr (own_base h.p g e))) g2 h.n.1, h.n⟩
  · have e : (m.ps ++ [p]).flatMap Pl.cells = m.ps.flatMap Pl.cells ++ p.cells := by simp
    dsimp only
    rw [e, List.length_append]
    exact hp.kept g2 (.inr (own_ne hp k' (by decide)))
  · have hr := h.r.kept o (own_own h.r h.p (by decide))
    exact hr.kept g2 (.inr (own_ne hr k' (by decide)))
theorem SpS.addR {W' : World} (h : SpS w n3 nR m pv rv W) (r : Rd) {rv' : Value} (hr : W'.ownsRow w.heap.size 41 10 rv' (m.rs.length + 1) (m.rs.flatMap Rd.cells ++ r.cells)) (o : W.grownBy W' rv.ownBlock) (hne : n3 ≠ nR) :
    SpS w n3 nR ⟨m.ps, m.rs ++ [r]⟩ pv rv' (W'.setCell ⟨n3, 1, none⟩ rv') := by
  obtain ⟨x, y, kR⟩ := h.kR
  have k' := h.k.of o (own_ne h.r h.k (by decide))
  have kR' := kR.of o (own_ne h.r kR (by decide))
  have g2 : W'.grownBy (W'.setCell ⟨n3, 1, none⟩ rv') (some n3) := gb_set (gb_refl _ _) ⟨n3, 1, none⟩ (.inl rfl) _
  refine ⟨by simpa using k'.set 1 rv', ⟨x, y, kR'.of g2 (by simpa using hne)⟩, ?_, ?_, gb_new (gb_call h.g o (fun g e => .inr (own_base h.r g e))) g2 h.n.1, h.n⟩
  · have hp := h.p.kept o (own_own h.p h.r (by decide))
    exact hp.kept g2 (.inr (own_ne hp k' (by decide)))
  · have e : (m.rs ++ [r]).flatMap Rd.cells = m.rs.flatMap Rd.cells ++ r.cells := by simp
    dsimp only
    rw [e, List.length_append]
    exact hr.kept g2 (.inr (own_ne hr k' (by decide)))
end

def midRd6 (q : Rd) (lo : Int) : Rd := ⟨q.f, q.t, q.len, q.area, q.walk, q.closed, ⟨lo, q.rest.hi⟩, q.lift⟩
def midRd8 (q : Rd) (lo : Int) : Rd := ⟨q.f, q.t, q.len, q.area, q.walk, q.closed, q.rest, ⟨lo, q.lift.hi⟩⟩
theorem getD_set_eq {α : Type} (l : List α) (k : Nat) (x d : α) (hk : k < l.length) : (l.set k x).getD k d = x := by
  rw [List.getD_eq_getElem?_getD, List.getElem?_set_self hk]; rfl
/-- The one element that is laid for an append. -/
theorem sl_new (W : World) (cs : Array Value) (T : TypeId) (n : Nat) (hn : W.heap.size = n) {sz : Nat} (hm : 1 ≤ maxLen) (hs : cs.size = sz) : Sl (W.alloc (.cells cs T)) (.slice (some ⟨n, 0, none⟩) 1 1) sz 1 cs.toList := by
  subst hn
  refine ⟨by simpa using hs, .inr ⟨_, 0, 1, rfl, Nat.le_refl _, hm, fun j hj => ?_⟩⟩
  rw [Nat.zero_add, (Bk.new W cs T).cell j, List.getD_eq_getElem?_getD, Array.getElem?_toList, Array.getElem?_eq_getElem (by omega)]
  rfl

set_option maxRecDepth 100000 in
set_option maxHeartbeats 4000000 in
theorem edit_any (v : Value) (m : Mn) (d : Ed) (w : World) (h : MnV w v m) (hk : 1 ≤ d.kind ∧ d.kind ≤ 6) (hd : 3 ≤ d.kind → 0 ≤ d.road ∧ d.road < m.rs.length) (h1 : m.ps.length ≤ 100000) (h2 : m.rs.length ≤ 100000) :
    Calls Try.prog 44 #[v, d.v] w fun e w' => ∃ v', e = .returned v' ∧ MnO w' w.heap.size v' (edMn m d) ∧ w.grownBy w' none := by
  obtain ⟨a, b, rfl, hp, hr⟩ := h
  obtain ⟨ip, hip, hip1, hip2, hip3⟩ := info_parts Try.infoPlace
  obtain ⟨ir, hir, hir1, hir2, hir3⟩ := info_parts Try.infoRoad
  obtain ⟨pa, pc, rfl, pc1, pc2, hpc⟩ := hp.shape
  obtain ⟨ra, rc, rfl, rc1, rc2, hrc⟩ := hr.shape
  obtain ⟨kind, ⟨ph, pb⟩, ⟨rf, rt, rlen, rarea, rwalk, rclosed, ⟨r1, r2⟩, ⟨r3, r4⟩⟩, road, ⟨lo, hi⟩⟩ := d
  unfold Ed.v
  dsimp only at *
  have HM := Lib.hid (show MnV w (.agg #[.slice pa m.ps.length pc, .slice ra m.rs.length rc]) m from ⟨_, _, rfl, hp, hr⟩)
  clear hpc hrc hp hr
  go_enter Try.func44, Try.ntmps44
  go_wp2_with fail
  have b2 := Bk.new (w.alloc (.cells #[.slice pa m.ps.length pc, .slice ra m.rs.length rc] 26)) #[.int .i64 kind, .int .i64 ph, .bool pb, .int .i64 rf, .int .i64 rt, .int .i64 rlen, .int .i64 rarea, .bool rwalk, .bool rclosed, .int .i64 r1, .int .i64 r2, .int .i64 r3, .int .i64 r4, .int .i64 road, .int .i64 lo, .int .i64 hi] 43
  have b3 := Bk.new ((w.alloc (.cells #[.slice pa m.ps.length pc, .slice ra m.rs.length rc] 26)).alloc (.cells #[.int .i64 kind, .int .i64 ph, .bool pb, .int .i64 rf, .int .i64 rt, .int .i64 rlen, .int .i64 rarea, .bool rwalk, .bool rclosed, .int .i64 r1, .int .i64 r2, .int .i64 r3, .int .i64 r4, .int .i64 road, .int .i64 lo, .int .i64 hi] 43)) #[.slice none 0 0, .slice none 0 0] 26
  have g3 := gb_alloc (gb_alloc (gb_alloc (gb_refl w none) (.cells #[.slice pa m.ps.length pc, .slice ra m.rs.length rc] 26)) (.cells #[.int .i64 kind, .int .i64 ph, .bool pb, .int .i64 rf, .int .i64 rt, .int .i64 rlen, .int .i64 rarea, .bool rwalk, .bool rclosed, .int .i64 r1, .int .i64 r2, .int .i64 r3, .int .i64 r4, .int .i64 road, .int .i64 lo, .int .i64 hi] 43)) (.cells #[.slice none 0 0, .slice none 0 0] 26)
  replace b2 := b2.of (gb_alloc (gb_refl _ none) (.cells #[.slice none 0 0, .slice none 0 0] 26)) (by simp)
  have hsz : (((w.alloc (.cells #[.slice pa m.ps.length pc, .slice ra m.rs.length rc] 26)).alloc (.cells #[.int .i64 kind, .int .i64 ph, .bool pb, .int .i64 rf, .int .i64 rt, .int .i64 rlen, .int .i64 rarea, .bool rwalk, .bool rclosed, .int .i64 r1, .int .i64 r2, .int .i64 r3, .int .i64 r4, .int .i64 road, .int .i64 lo, .int .i64 hi] 43)).alloc (.cells #[.slice none 0 0, .slice none 0 0] 26)).heap.size = w.heap.size + 3 := by simp
  simp only [World.size_alloc] at b2 b3
  generalize ((w.alloc _).alloc _).alloc _ = W at *
  refine (clone_any _ m _ (by obtain ⟨a, b, hv, hp, hr⟩ := HM.out; exact ⟨a, b, hv, Sl.by_ hp g3, Sl.by_ hr g3⟩) h1 h2).mono ?_
  rintro e w2 ⟨v2, rfl, ⟨pv, rv, rfl, op, or⟩, g2⟩
  obtain ⟨xa, xc, rfl⟩ := own_slc op
  obtain ⟨ya, yc, rfl⟩ := own_slc or
  have hsz2 := g2.size
  have S3 : SpS w w2.heap.size (w.heap.size + 1 + 1) m (.slice xa m.ps.length xc) (.slice ya m.rs.length yc) (w2.alloc (.cells #[.slice xa m.ps.length xc, .slice ya m.rs.length yc] 26)) :=
    ⟨Bk.new _ _ _, ⟨_, _, (b3.of g2 (by simp)).of (gb_alloc (gb_refl _ none) _) (by simp)⟩, own_by (own_mono op g3.size) (gb_alloc (gb_refl _ none) _), own_by (own_mono or g3.size) (gb_alloc (gb_refl _ none) _), gb_alloc (gb_same g3 g2) _, ⟨by omega, by omega⟩⟩
  have B3 := ((b2.of g2 (by simp)).of (gb_alloc (gb_refl _ none) (.cells #[.slice xa m.ps.length xc, .slice ya m.rs.length yc] 26)) (by simp))
  have hne : w2.heap.size ≠ w.heap.size + 1 + 1 := by omega
  clear b2 b3 g2 g3 op or HM hsz hsz2
  go_upto_region 2 with (fail)
  generalize w2.alloc _ = W5 at *
  generalize w2.heap.size = n5 at *
  have hl5 : n5 < W5.heap.size := S3.k.lt
  have hl2 : w.heap.size + 1 < W5.heap.size := B3.lt
  have hl3 : w.heap.size + 1 + 1 < W5.heap.size := by obtain ⟨_, _, k⟩ := S3.kR; exact k.lt
  have hw5 : w.heap.size ≤ W5.heap.size := by omega
  have b2c := B3.cell
  have k5c := S3.k.cell
  have k5f := S3.k.frozen
  have HS := Lib.hid S3
  clear S3 B3
  have hcase : kind = 1 ∨ kind = 2 ∨ (3 ≤ kind ∧ kind ≤ 6) := by omega
  rcases hcase with rfl | rfl | hk3
  · have HE := Lib.hid (show edMn m ⟨1, ⟨ph, pb⟩, ⟨rf, rt, rlen, rarea, rwalk, rclosed, ⟨r1, r2⟩, ⟨r3, r4⟩⟩, road, ⟨lo, hi⟩⟩ = ⟨m.ps ++ [⟨ph, pb⟩], m.rs⟩ by simp [edMn])
    go_wp2_with (at_builtin; go_loud (refine wpList_app _ rfl _ _ 23 rfl w.heap.size 37 ip _ 2 16 Try.underlying23 hip hip1 hip2 hip3 rfl (by omega) (.slice xa m.ps.length xc) m.ps.length (m.ps.flatMap Pl.cells) rfl (HS.out.alloc _).p (.slice (some ⟨W5.heap.size, 0, none⟩) 1 1) 1 (Pl.cells ⟨ph, pb⟩) rfl (sl_new _ _ _ _ rfl (by simp [maxLen]) rfl) (by simp [Pl.cells, Value.oneCell']) (by simp [maxLen]; omega) (by omega) (by simp; omega) ?_); intro pv' w4 hown hgrow; obtain ⟨xa2, xc2, hxe⟩ := own_slc hown; subst hxe; have SA := HS.out.alloc (.cells #[.int .i64 ph, .bool pb] 37); have kM4 := SA.k.of hgrow (own_ne SA.p SA.k (by decide)); have q4 : w4.cell? ⟨n5, 0, none⟩ = some (.slice xa m.ps.length xc) := kM4.cell 0; have q4b : w4.cell? ⟨n5, 1, none⟩ = some (.slice ya m.rs.length yc) := kM4.cell 1; have q4f : w4.frozen? ⟨n5, 0, none⟩ = false := kM4.frozen 0; obtain ⟨x1, y1, kR1⟩ := SA.kR; have kR4 := kR1.of hgrow (own_ne SA.p kR1 (by decide)); have kRc := kR4.cell; have kRf := kR4.frozen; have HS4 := Lib.hid (SA.addP ⟨ph, pb⟩ hown hgrow hne).fin; clear SA kM4 kR1 kR4 hown hgrow b2c k5c k5f)
    have F := HS4.out
    rw [← HE.out] at F
    simp only [setC] at F
    generalize World.setCell _ ⟨w.heap.size + 1 + 1, 1, none⟩ _ = W9 at *
    obtain ⟨fk, fm, fg⟩ := F
    have fkc := fk.cell
    clear kRc kRf
    refine bodyPost_ret (v := .agg #[.slice xa2 (m.ps.length + 1) xc2, .slice ya m.rs.length yc]) (by simp [results, Try.results44, go_sem, fkc]) rfl ?_
    exact ⟨_, rfl, fm, fg⟩
  · have HE := Lib.hid (show edMn m ⟨2, ⟨ph, pb⟩, ⟨rf, rt, rlen, rarea, rwalk, rclosed, ⟨r1, r2⟩, ⟨r3, r4⟩⟩, road, ⟨lo, hi⟩⟩ = ⟨m.ps, m.rs ++ [⟨rf, rt, rlen, rarea, rwalk, rclosed, ⟨r1, r2⟩, ⟨r3, r4⟩⟩]⟩ by simp [edMn])
    go_wp2_with (at_builtin; go_loud (refine wpList_app _ rfl _ _ 24 rfl w.heap.size 41 ir _ 10 72 Try.underlying24 hir hir1 hir2 hir3 rfl (by omega) (.slice ya m.rs.length yc) m.rs.length (m.rs.flatMap Rd.cells) rfl (HS.out.alloc _).r (.slice (some ⟨W5.heap.size, 0, none⟩) 1 1) 1 (Rd.cells ⟨rf, rt, rlen, rarea, rwalk, rclosed, ⟨r1, r2⟩, ⟨r3, r4⟩⟩) rfl (sl_new _ _ _ _ rfl (by simp [maxLen]) rfl) (by simp [Rd.cells, Value.oneCell']) (by simp [maxLen]; omega) (by omega) (by simp; omega) ?_); intro rv' w4 hown hgrow; obtain ⟨ya2, yc2, hxe⟩ := own_slc hown; subst hxe; have SA := HS.out.alloc (.cells #[.int .i64 rf, .int .i64 rt, .int .i64 rlen, .int .i64 rarea, .bool rwalk, .bool rclosed, .int .i64 r1, .int .i64 r2, .int .i64 r3, .int .i64 r4] 41); have kM4 := SA.k.of hgrow (own_ne SA.r SA.k (by decide)); have q4 : w4.cell? ⟨n5, 0, none⟩ = some (.slice xa m.ps.length xc) := kM4.cell 0; have q4b : w4.cell? ⟨n5, 1, none⟩ = some (.slice ya m.rs.length yc) := kM4.cell 1; have q4f : w4.frozen? ⟨n5, 1, none⟩ = false := kM4.frozen 1; obtain ⟨x1, y1, kR1⟩ := SA.kR; have kR4 := kR1.of hgrow (own_ne SA.r kR1 (by decide)); have kRc := kR4.cell; have kRf := kR4.frozen; have HS4 := Lib.hid (SA.addR ⟨rf, rt, rlen, rarea, rwalk, rclosed, ⟨r1, r2⟩, ⟨r3, r4⟩⟩ hown hgrow hne).fin; clear SA kM4 kR1 kR4 hown hgrow b2c k5c k5f)
    have F := HS4.out
    rw [← HE.out] at F
    simp only [setC] at F
    generalize World.setCell _ ⟨w.heap.size + 1 + 1, 1, none⟩ _ = W9 at *
    obtain ⟨fk, fm, fg⟩ := F
    have fkc := fk.cell
    clear kRc kRf
    refine bodyPost_ret (v := .agg #[.slice xa m.ps.length xc, .slice ya2 (m.rs.length + 1) yc2]) (by simp [results, Try.results44, go_sem, fkc]) rfl ?_
    exact ⟨_, rfl, fm, fg⟩
  · obtain ⟨hr0, hr1⟩ := hd hk3.1
    obtain ⟨k, rfl⟩ : ∃ k : Nat, road = k := ⟨road.toNat, by omega⟩
    have hkl : k < m.rs.length := by omega
    have hk0 : (0 : Int) ≤ (k : Int) := by omega
    obtain ⟨g, cap, hv, ⟨cur, hbk⟩, hcell, hfree, _⟩ := own_open HS.out.r (by omega)
    injection hv with hv1 _ hv2
    subst hv1
    subst hv2
    obtain ⟨x1, y1, kR⟩ := HS.out.kR
    have hg1 : g ≠ w.heap.size + 1 + 1 := hbk.ne kR (by decide)
    have hg5 : g ≠ n5 := hbk.ne HS.out.k (by decide)
    have b3c := kR.cell
    have b3f := kR.frozen
    clear hd hbk hr0 kR
    have HL := Lib.hid (show ∀ j, j < 10 → W5.cell? ⟨g, k * 10 + j, none⟩ = some ((m.rs.getD k rd0).cells.getD j undef) from fun j hj => (hcell (k * 10 + j) (by omega)).trans (flat_get_rd m.rs k hkl j hj))
    clear hcell
    have hcase : kind = 3 ∨ kind = 4 ∨ kind = 5 ∨ kind = 6 := by omega
    clear hk3
    rcases hcase with rfl | rfl | rfl | rfl
    · have HE := Lib.hid (show edMn m ⟨3, ⟨ph, pb⟩, ⟨rf, rt, rlen, rarea, rwalk, rclosed, ⟨r1, r2⟩, ⟨r3, r4⟩⟩, (k : Int), ⟨lo, hi⟩⟩ = ⟨m.ps, m.rs.set k ((m.rs.getD k rd0).shut true)⟩ by simp [edMn])
      have q5 := HL.out 5 (by omega)
      have HS4 := Lib.hid (HS.out.setR (u := .bool true) (r' := (m.rs.getD k rd0).shut true) hkl (show 5 < 10 by omega) rfl rfl).fin
      clear HL HS
      go_wp2_with fail
      have F := HS4.out
      rw [← HE.out] at F
      simp only [setC] at F
      generalize World.setCell _ ⟨w.heap.size + 1 + 1, 1, none⟩ _ = W9 at *
      obtain ⟨fk, fm, fg⟩ := F
      have fkc := fk.cell
      clear b2c b3c b3f k5c k5f
      refine bodyPost_ret (v := .agg #[.slice xa m.ps.length xc, .slice (some ⟨g, 0, none⟩) m.rs.length yc]) (by simp [results, Try.results44, go_sem, fkc]) rfl ?_
      exact ⟨_, rfl, fm, fg⟩
    · have HE := Lib.hid (show edMn m ⟨4, ⟨ph, pb⟩, ⟨rf, rt, rlen, rarea, rwalk, rclosed, ⟨r1, r2⟩, ⟨r3, r4⟩⟩, (k : Int), ⟨lo, hi⟩⟩ = ⟨m.ps, m.rs.set k ((m.rs.getD k rd0).shut false)⟩ by simp [edMn])
      have q5 := HL.out 5 (by omega)
      have HS4 := Lib.hid (HS.out.setR (u := .bool false) (r' := (m.rs.getD k rd0).shut false) hkl (show 5 < 10 by omega) rfl rfl).fin
      clear HL HS
      go_wp2_with fail
      have F := HS4.out
      rw [← HE.out] at F
      simp only [setC] at F
      generalize World.setCell _ ⟨w.heap.size + 1 + 1, 1, none⟩ _ = W9 at *
      obtain ⟨fk, fm, fg⟩ := F
      have fkc := fk.cell
      clear b2c b3c b3f k5c k5f
      refine bodyPost_ret (v := .agg #[.slice xa m.ps.length xc, .slice (some ⟨g, 0, none⟩) m.rs.length yc]) (by simp [results, Try.results44, go_sem, fkc]) rfl ?_
      exact ⟨_, rfl, fm, fg⟩
    · have HE := Lib.hid (show edMn m ⟨5, ⟨ph, pb⟩, ⟨rf, rt, rlen, rarea, rwalk, rclosed, ⟨r1, r2⟩, ⟨r3, r4⟩⟩, (k : Int), ⟨lo, hi⟩⟩ = ⟨m.ps, (m.rs.set k (midRd6 (m.rs.getD k rd0) lo)).set k ((m.rs.getD k rd0).rested ⟨lo, hi⟩)⟩ by simp [edMn])
      have q5 := HL.out 6 (by omega)
      have q6 := HL.out 7 (by omega)
      have S4 := HS.out.setR (u := .int .i64 lo) (r' := midRd6 (m.rs.getD k rd0) lo) hkl (show 6 < 10 by omega) rfl rfl
      have S5 := S4.setR (g := g) (cap := yc) (k := k) (u := .int .i64 hi) (r' := (m.rs.getD k rd0).rested ⟨lo, hi⟩) (by simpa using hkl) (show 7 < 10 by omega) (by dsimp only; rw [getD_set_eq _ _ _ _ hkl]; rfl) (by simp)
      have HS4 := Lib.hid S5.fin
      clear HL HS S4 S5
      go_wp2_with fail
      have F := HS4.out
      rw [← HE.out] at F
      simp only [setC] at F
      generalize World.setCell _ ⟨w.heap.size + 1 + 1, 1, none⟩ _ = W9 at *
      obtain ⟨fk, fm, fg⟩ := F
      have fkc := fk.cell
      clear b2c b3c b3f k5c k5f
      refine bodyPost_ret (v := .agg #[.slice xa m.ps.length xc, .slice (some ⟨g, 0, none⟩) m.rs.length yc]) (by simp [results, Try.results44, go_sem, fkc]) rfl ?_
      exact ⟨_, rfl, fm, fg⟩
    · have HE := Lib.hid (show edMn m ⟨6, ⟨ph, pb⟩, ⟨rf, rt, rlen, rarea, rwalk, rclosed, ⟨r1, r2⟩, ⟨r3, r4⟩⟩, (k : Int), ⟨lo, hi⟩⟩ = ⟨m.ps, (m.rs.set k (midRd8 (m.rs.getD k rd0) lo)).set k ((m.rs.getD k rd0).lifted ⟨lo, hi⟩)⟩ by simp [edMn])
      have q5 := HL.out 8 (by omega)
      have q6 := HL.out 9 (by omega)
      have S4 := HS.out.setR (u := .int .i64 lo) (r' := midRd8 (m.rs.getD k rd0) lo) hkl (show 8 < 10 by omega) rfl rfl
      have S5 := S4.setR (g := g) (cap := yc) (k := k) (u := .int .i64 hi) (r' := (m.rs.getD k rd0).lifted ⟨lo, hi⟩) (by simpa using hkl) (show 9 < 10 by omega) (by dsimp only; rw [getD_set_eq _ _ _ _ hkl]; rfl) (by simp)
      have HS4 := Lib.hid S5.fin
      clear HL HS S4 S5
      go_wp2_with fail
      have F := HS4.out
      rw [← HE.out] at F
      simp only [setC] at F
      generalize World.setCell _ ⟨w.heap.size + 1 + 1, 1, none⟩ _ = W9 at *
      obtain ⟨fk, fm, fg⟩ := F
      have fkc := fk.cell
      clear b2c b3c b3f k5c k5f
      refine bodyPost_ret (v := .agg #[.slice xa m.ps.length xc, .slice (some ⟨g, 0, none⟩) m.rs.length yc]) (by simp [results, Try.results44, go_sem, fkc]) rfl ?_
      exact ⟨_, rfl, fm, fg⟩

end Go.Proofs.Ytbiikgkfklhohaa
