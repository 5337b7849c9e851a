/- The document's Apply. -/
import Derived.Test.YtbiikgkfklhohaaAy
import Derived.Deep.Cut
import Derived.Deep.CutBlock
namespace Go.Proofs.Ytbiikgkfklhohaa
open Go.RowKit
attribute [local go_sem ↓] Go.wp_at_zero Go.wp_at_succ

theorem SpS.fin0 {w : World} {n3 nR : Nat} {m : Mn} {pv rv : Value} {W : World} (h : SpS w n3 nR m pv rv W) : Bk (setC W nR 0 [.slice none 0 0, .slice none 0 0]) nR #[.slice none 0 0, .slice none 0 0] 26 ∧ MnO (setC W nR 0 [.slice none 0 0, .slice none 0 0]) w.heap.size (.agg #[.slice none 0 0, .slice none 0 0]) ⟨[], []⟩ ∧ w.grownBy (setC W nR 0 [.slice none 0 0, .slice none 0 0]) none := by
  obtain ⟨x, y, k⟩ := h.kR
  exact ⟨k.all _ rfl, MnO.nil _ _, gb_new h.g (setC_gb _ _ _ _) h.n.2⟩

set_option maxRecDepth 100000 in
set_option maxHeartbeats 8000000 in
theorem refApply_any (v : Value) (m : Mn) (d : Ed) (w : World) (h : MnV w v m) :
    Calls Try.prog 19 #[v, d.v] w fun e w' => ∃ v', e = .returned (.tuple #[v', .int .i64 (applyMn m d).2]) ∧ MnO w' w.heap.size v' (applyMn m d).1 ∧ w.grownBy w' none := by
  obtain ⟨a, b, rfl, hp, hr⟩ := h
  obtain ⟨pa, pc, rfl, pc1, pc2, hpc⟩ := hp.shape
  obtain ⟨ra, rc, rfl, rc1, rc2, hrc⟩ := hr.shape
  have S0 := AyS.start w m (.slice pa m.ps.length pc) (.slice ra m.rs.length rc) #[.int .i64 d.kind, .int .i64 d.place.h, .bool d.place.s, .int .i64 d.new.f, .int .i64 d.new.t, .int .i64 d.new.len, .int .i64 d.new.area, .bool d.new.walk, .bool d.new.closed,
  .int .i64 d.new.rest.lo, .int .i64 d.new.rest.hi, .int .i64 d.new.lift.lo, .int .i64 d.new.lift.hi, .int .i64 d.road, .int .i64 d.span.lo, .int .i64 d.span.hi] ⟨_, _, rfl, hp, hr⟩
  have HE : Hid (d.v = .agg #[.int .i64 d.kind, .int .i64 d.place.h, .bool d.place.s, .int .i64 d.new.f, .int .i64 d.new.t, .int .i64 d.new.len, .int .i64 d.new.area, .bool d.new.walk, .bool d.new.closed,
  .int .i64 d.new.rest.lo, .int .i64 d.new.rest.hi, .int .i64 d.new.lift.lo, .int .i64 d.new.lift.hi, .int .i64 d.road, .int .i64 d.span.lo, .int .i64 d.span.hi]) := Lib.hid rfl
  rw [HE.out]
  clear hpc hrc hp hr
  generalize hA : applyMn m d = am
  have HA := Lib.hid hA
  clear hA
  go_enter Try.func19, Try.ntmps19
  go_wp2_with fail
  generalize ((w.alloc _).alloc _).alloc _ = W at *
  refine (refCheck_any _ m _ S0.m).mono ?_
  rintro e w1 ⟨rfl, hb⟩
  have S1 := S0.by_ (gb_b hb)
  clear S0 hb
  have k4c := S1.k4.cell
  have k4f := S1.k4.frozen
  by_cases c1 : ck m = 0
  · have C1 := Lib.hid c1
    simp only [c1]
    clear k4c k4f
    go_upto_region 4 with fail
    have hln := ck_ok c1
    clear c1
    go_cut [22] from 15 (fun s wx => s = .bool (decide (d.kind < 1 ∨ 6 < d.kind)) ∧ wx = w1)
    case first =>
      have a0 : w1.cell? ⟨w.heap.size + 1, 0, none⟩ = some (.int .i64 d.kind) := S1.k3.cell 0
      clear S1
      by_cases q1 : d.kind < 1
      · have q1' : decide (d.kind < 1) = true := by simpa using q1
        go_wp2_with fail
        go_meet
        exact ⟨by simp [q1], rfl⟩
      have q1' : decide (d.kind < 1) = false := by simpa using q1
      go_wp2_with fail
      go_meet
      exact ⟨congrArg Value.bool (by simp; omega), rfl⟩
    case rest =>
      obtain ⟨rfl, rfl⟩ := hcut
      by_cases hk : d.kind < 1 ∨ 6 < d.kind
      · rw [decide_eq_true hk]
        have F := Lib.hid (S1.fin (.slice none 0 0) (.slice none 0 0) (MnO.nil _ _))
        have E := Lib.hid (show am = (⟨[], []⟩, 5) by rw [← HA.out]; unfold applyMn; rw [if_neg (by rw [C1.out]; simp)]; have hE : ckEd m d = 5 := (by unfold ckEd; rw [if_neg (by omega), if_neg (by omega)]); rw [hE, if_pos (by omega)])
        have k4c := S1.k4.cell
        have k4f := S1.k4.frozen
        clear S1 hk
        go_wp2_with fail
        have F := F.out
        simp only [setC] at F
        generalize World.setCell _ ⟨w.heap.size + 1 + 1, 1, none⟩ _ = W9 at *
        obtain ⟨fk, fm, fg⟩ := F
        have fkc := fk.cell
        clear k4c k4f
        refine bodyPost_ret (v := .tuple #[.agg #[.slice none 0 0, .slice none 0 0], .int .i64 5]) (by simp [results, Try.results19, go_sem, fkc]) rfl ?_
        rw [E.out]
        exact ⟨_, rfl, fm, fg⟩
      · rw [decide_eq_false hk]
        go_upto_region 6 with fail
        go_cut [39] from 23 (fun s wx => s = .bool (decide (3 ≤ d.kind ∧ (d.road < 0 ∨ m.rs.length ≤ d.road))) ∧ wx = wc)
        case first =>
          have a0 : wc.cell? ⟨w.heap.size + 1, 0, none⟩ = some (.int .i64 d.kind) := S1.k3.cell 0
          have a1 : wc.cell? ⟨w.heap.size + 1, 13, none⟩ = some (.int .i64 d.road) := S1.k3.cell 13
          have a2 : wc.cell? ⟨w.heap.size, 1, none⟩ = some (.slice ra m.rs.length rc) := S1.k2.cell 1
          clear S1
          by_cases q1 : 3 ≤ d.kind
          · have q1' : decide (3 ≤ d.kind) = true := by simpa using q1
            by_cases q2 : d.road < 0
            · have q2' : decide (d.road < 0) = true := by simpa using q2
              go_wp2_with fail
              go_meet
              exact ⟨congrArg Value.bool (by rw [decide_eq_true]; omega), rfl⟩
            · have q2' : decide (d.road < 0) = false := by simpa using q2
              go_wp2_with fail
              go_meet
              refine ⟨congrArg Value.bool ?_, rfl⟩
              by_cases q3 : (m.rs.length : Int) ≤ d.road
              · rw [decide_eq_true q3, decide_eq_true]; omega
              · rw [decide_eq_false q3, decide_eq_false]; omega
          · have q1' : decide (3 ≤ d.kind) = false := by simpa using q1
            go_wp2_with fail
            go_meet
            exact ⟨congrArg Value.bool (by rw [decide_eq_false]; omega), rfl⟩
        case rest =>
          rename_i wd _
          obtain ⟨rfl, rfl⟩ := hcut
          by_cases hr : 3 ≤ d.kind ∧ (d.road < 0 ∨ m.rs.length ≤ d.road)
          · rw [decide_eq_true hr]
            have F := Lib.hid (S1.fin (.slice none 0 0) (.slice none 0 0) (MnO.nil _ _))
            have E := Lib.hid (show am = (⟨[], []⟩, 4) by rw [← HA.out]; unfold applyMn; rw [if_neg (by rw [C1.out]; simp)]; have hE : ckEd m d = 4 := (by unfold ckEd; rw [if_neg (by omega), if_pos (by omega), if_pos (by omega)]); rw [hE, if_pos (by omega)])
            have k4c := S1.k4.cell
            have k4f := S1.k4.frozen
            clear S1 hr hk
            go_wp2_with fail
            have F := F.out
            simp only [setC] at F
            generalize World.setCell _ ⟨w.heap.size + 1 + 1, 1, none⟩ _ = W9 at *
            obtain ⟨fk, fm, fg⟩ := F
            have fkc := fk.cell
            clear k4c k4f
            refine bodyPost_ret (v := .tuple #[.agg #[.slice none 0 0, .slice none 0 0], .int .i64 4]) (by simp [results, Try.results19, go_sem, fkc]) rfl ?_
            rw [E.out]
            exact ⟨_, rfl, fm, fg⟩
          · rw [decide_eq_false hr]
            have k2c := S1.k2.cell
            go_wp2_with fail
            refine (copy_any _ m _ S1.m (by omega) (by omega)).mono ?_
            rintro e w2 ⟨v2, rfl, ⟨pv, rv, rfl, op, or⟩, g2⟩
            clear k2c
            obtain ⟨xa, xc, rfl⟩ := own_slc op
            obtain ⟨ya, yc, rfl⟩ := own_slc or
            have hsz := S1.g.size
            have hsz2 := g2.size
            have S3 : SpS w w2.heap.size (w.heap.size + 1 + 1) m (.slice xa m.ps.length xc) (.slice ya m.rs.length yc) (w2.alloc (.cells #[.slice xa m.ps.length xc, .slice ya m.rs.length yc] 26)) :=
              ⟨Bk.new _ _ _, ⟨_, _, (S1.k4.of g2 (by simp)).of (gb_alloc (gb_refl _ none) _) (by simp)⟩, own_by (own_mono op S1.g.size) (gb_alloc (gb_refl _ none) _), own_by (own_mono or S1.g.size) (gb_alloc (gb_refl _ none) _), gb_alloc (gb_same S1.g g2) _, ⟨by omega, by omega⟩⟩
            have B3 := ((S1.k3.of g2 (by simp)).of (gb_alloc (gb_refl _ none) (.cells #[.slice xa m.ps.length xc, .slice ya m.rs.length yc] 26)) (by simp))
            have hne : w2.heap.size ≠ w.heap.size + 1 + 1 := by have := S1.k4.lt; omega
            clear S1 g2 op or hsz hsz2
            go_upto_region 9 with fail
            generalize w2.alloc _ = W5 at *
            generalize w2.heap.size = n5 at *
            by_cases c2 : ckEd m d = 0
            · have a0 : W5.cell? ⟨w.heap.size + 1, 0, none⟩ = some (.int .i64 d.kind) := B3.cell 0
              go_upto_block 0 with fail
              go_cut [7] from 45 (fun s7 wx => s7 = .pointer (some ⟨n5, 0, none⟩) ∧ ∃ pv rv, SpS w n5 (w.heap.size + 1 + 1) (edMn m d) pv rv wx)
              case first =>
                obtain ⟨kind, ⟨ph, pb⟩, ⟨rf, rt, rlen, rarea, rwalk, rclosed, ⟨r1, r2⟩, ⟨r3, r4⟩⟩, road, ⟨lo, hi⟩⟩ := d
                dsimp only at *
                obtain ⟨ip, hip, hip1, hip2, hip3⟩ := info_parts Try.infoPlace
                obtain ⟨ir, hir, hir1, hir2, hir3⟩ := info_parts Try.infoRoad
                have hl5 : n5 < W5.heap.size := S3.k.lt
                have hw5 : w.heap.size ≤ W5.heap.size := by have := B3.lt; omega
                have b2c := B3.cell
                have k5c := S3.k.cell
                have k5f := S3.k.frozen
                have HS := Lib.hid S3
                clear S3 B3 HA HE a0
                have hcase : kind = 1 ∨ kind = 2 ∨ (3 ≤ kind ∧ kind ≤ 6) := by omega
                rcases hcase with rfl | rfl | hk3
                · have HE := Lib.hid (show edMn m ⟨1, ⟨ph, pb⟩, ⟨rf, rt, rlen, rarea, rwalk, rclosed, ⟨r1, r2⟩, ⟨r3, r4⟩⟩, road, ⟨lo, hi⟩⟩ = ⟨m.ps ++ [⟨ph, pb⟩], m.rs⟩ by simp [edMn])
                  clear c2 hk hr
                  go_wp2_with (at_builtin; go_loud (refine wpList_app _ rfl _ _ 23 rfl w.heap.size 37 ip _ 2 16 Try.underlying23 hip hip1 hip2 hip3 rfl (by omega) (.slice xa m.ps.length xc) m.ps.length (m.ps.flatMap Pl.cells) rfl (HS.out.alloc _).p (.slice (some ⟨W5.heap.size, 0, none⟩) 1 1) 1 (Pl.cells ⟨ph, pb⟩) rfl (sl_new _ _ _ _ rfl (by simp [maxLen]) rfl) (by simp [Pl.cells, Value.oneCell']) (by simp [maxLen]; omega) (by omega) (by simp; omega) ?_); intro pv' w4 hown hgrow; obtain ⟨xa2, xc2, hxe⟩ := own_slc hown; subst hxe; have SA := HS.out.alloc (.cells #[.int .i64 ph, .bool pb] 37); have kM4 := SA.k.of hgrow (own_ne SA.p SA.k (by decide)); have q4 : w4.cell? ⟨n5, 0, none⟩ = some (.slice xa m.ps.length xc) := kM4.cell 0; have q4b : w4.cell? ⟨n5, 1, none⟩ = some (.slice ya m.rs.length yc) := kM4.cell 1; have q4f : w4.frozen? ⟨n5, 0, none⟩ = false := kM4.frozen 0; have HS4 := Lib.hid (SA.addP ⟨ph, pb⟩ hown hgrow hne); clear SA kM4 hown hgrow b2c k5c k5f)
                  go_meet
                  rw [HE.out]
                  exact ⟨rfl, _, _, HS4.out⟩
                · have HE := Lib.hid (show edMn m ⟨2, ⟨ph, pb⟩, ⟨rf, rt, rlen, rarea, rwalk, rclosed, ⟨r1, r2⟩, ⟨r3, r4⟩⟩, road, ⟨lo, hi⟩⟩ = ⟨m.ps, m.rs ++ [⟨rf, rt, rlen, rarea, rwalk, rclosed, ⟨r1, r2⟩, ⟨r3, r4⟩⟩]⟩ by simp [edMn])
                  clear c2 hk hr
                  go_wp2_with (at_builtin; go_loud (refine wpList_app _ rfl _ _ 24 rfl w.heap.size 41 ir _ 10 72 Try.underlying24 hir hir1 hir2 hir3 rfl (by omega) (.slice ya m.rs.length yc) m.rs.length (m.rs.flatMap Rd.cells) rfl (HS.out.alloc _).r (.slice (some ⟨W5.heap.size, 0, none⟩) 1 1) 1 (Rd.cells ⟨rf, rt, rlen, rarea, rwalk, rclosed, ⟨r1, r2⟩, ⟨r3, r4⟩⟩) rfl (sl_new _ _ _ _ rfl (by simp [maxLen]) rfl) (by simp [Rd.cells, Value.oneCell']) (by simp [maxLen]; omega) (by omega) (by simp; omega) ?_); intro rv' w4 hown hgrow; obtain ⟨ya2, yc2, hxe⟩ := own_slc hown; subst hxe; have SA := HS.out.alloc (.cells #[.int .i64 rf, .int .i64 rt, .int .i64 rlen, .int .i64 rarea, .bool rwalk, .bool rclosed, .int .i64 r1, .int .i64 r2, .int .i64 r3, .int .i64 r4] 41); have kM4 := SA.k.of hgrow (own_ne SA.r SA.k (by decide)); have q4 : w4.cell? ⟨n5, 0, none⟩ = some (.slice xa m.ps.length xc) := kM4.cell 0; have q4b : w4.cell? ⟨n5, 1, none⟩ = some (.slice ya m.rs.length yc) := kM4.cell 1; have q4f : w4.frozen? ⟨n5, 1, none⟩ = false := kM4.frozen 1; have HS4 := Lib.hid (SA.addR ⟨rf, rt, rlen, rarea, rwalk, rclosed, ⟨r1, r2⟩, ⟨r3, r4⟩⟩ hown hgrow hne); clear SA kM4 hown hgrow b2c k5c k5f)
                  go_meet
                  rw [HE.out]
                  exact ⟨rfl, _, _, HS4.out⟩
                · obtain ⟨k, rfl⟩ : ∃ k : Nat, road = k := ⟨road.toNat, by omega⟩
                  have hkl : k < m.rs.length := by omega
                  have hk0 : (0 : Int) ≤ (k : Int) := by omega
                  have hk1 : (k : Int) < (m.rs.length : Int) := by omega
                  obtain ⟨g, cap, hv, ⟨cur, hbk⟩, hcell, hfree, _⟩ := own_open HS.out.r (by omega)
                  injection hv with hv1 _ hv2
                  subst hv1
                  subst hv2
                  have hg5 : g ≠ n5 := hbk.ne HS.out.k (by decide)
                  clear hbk hk hr
                  have HL := Lib.hid (show ∀ j, j < 10 → W5.cell? ⟨g, k * 10 + j, none⟩ = some ((m.rs.getD k rd0).cells.getD j undef) from fun j hj => (hcell (k * 10 + j) (by omega)).trans (flat_get_rd m.rs k hkl j hj))
                  clear hcell
                  have hcase : kind = 3 ∨ kind = 4 ∨ kind = 5 ∨ kind = 6 := by omega
                  clear hk3
                  rcases hcase with rfl | rfl | rfl | rfl
                  · have HE := Lib.hid (show edMn m ⟨3, ⟨ph, pb⟩, ⟨rf, rt, rlen, rarea, rwalk, rclosed, ⟨r1, r2⟩, ⟨r3, r4⟩⟩, (k : Int), ⟨lo, hi⟩⟩ = ⟨m.ps, m.rs.set k ((m.rs.getD k rd0).shut true)⟩ by simp [edMn])
                    have hcl : (m.rs.getD k rd0).closed = false := by
                      cases h : (m.rs.getD k rd0).closed with
                      | false => rfl
                      | true =>
                        exfalso
                        unfold ckEd at c2
                        dsimp only at c2
                        rw [if_neg (by omega), if_pos (by omega), if_neg (by omega), Int.toNat_natCast, if_pos (.inl ⟨rfl, h⟩)] at c2
                        omega
                    have q5 := HL.out 5 (by omega)
                    rw [show (m.rs.getD k rd0).cells.getD 5 undef = .bool false from congrArg Value.bool hcl] at q5
                    have HS4 := Lib.hid (fun nq => (HS.out.by_ (gb_drewN (gb_refl _ _) nq)).setR (g := g) (cap := yc) (k := k) (u := .bool true) (r' := (m.rs.getD k rd0).shut true) hkl (show 5 < 10 by omega) rfl rfl)
                    clear HL HS c2
                    go_wp2_with fail
                    go_quiet (fail)
                    go_wp2_with fail
                    go_meet
                    rw [HE.out]
                    exact ⟨rfl, _, _, HS4.out _⟩
                  · have HE := Lib.hid (show edMn m ⟨4, ⟨ph, pb⟩, ⟨rf, rt, rlen, rarea, rwalk, rclosed, ⟨r1, r2⟩, ⟨r3, r4⟩⟩, (k : Int), ⟨lo, hi⟩⟩ = ⟨m.ps, m.rs.set k ((m.rs.getD k rd0).shut false)⟩ by simp [edMn])
                    have hcl : (m.rs.getD k rd0).closed = true := by
                      cases h : (m.rs.getD k rd0).closed with
                      | true => rfl
                      | false =>
                        exfalso
                        unfold ckEd at c2
                        dsimp only at c2
                        rw [if_neg (by omega), if_pos (by omega), if_neg (by omega), Int.toNat_natCast, if_pos (.inr ⟨rfl, h⟩)] at c2
                        omega
                    have q5 := HL.out 5 (by omega)
                    rw [show (m.rs.getD k rd0).cells.getD 5 undef = .bool true from congrArg Value.bool hcl] at q5
                    have HS4 := Lib.hid (fun nq => (HS.out.by_ (gb_drewN (gb_refl _ _) nq)).setR (g := g) (cap := yc) (k := k) (u := .bool false) (r' := (m.rs.getD k rd0).shut false) hkl (show 5 < 10 by omega) rfl rfl)
                    clear HL HS c2
                    go_wp2_with fail
                    go_quiet (fail)
                    go_wp2_with fail
                    go_meet
                    rw [HE.out]
                    exact ⟨rfl, _, _, HS4.out _⟩
                  · have HE := Lib.hid (show edMn m ⟨5, ⟨ph, pb⟩, ⟨rf, rt, rlen, rarea, rwalk, rclosed, ⟨r1, r2⟩, ⟨r3, r4⟩⟩, (k : Int), ⟨lo, hi⟩⟩ = ⟨m.ps, (m.rs.set k (midRd6 (m.rs.getD k rd0) lo)).set k ((m.rs.getD k rd0).rested ⟨lo, hi⟩)⟩ by simp [edMn])
                    have q5 := HL.out 6 (by omega)
                    have q6 := HL.out 7 (by omega)
                    have S4 := HS.out.setR (u := .int .i64 lo) (r' := midRd6 (m.rs.getD k rd0) lo) hkl (show 6 < 10 by omega) rfl rfl
                    have HS4 := Lib.hid (S4.setR (g := g) (cap := yc) (k := k) (u := .int .i64 hi) (r' := (m.rs.getD k rd0).rested ⟨lo, hi⟩) (by simpa using hkl) (show 7 < 10 by omega) (by dsimp only; rw [getD_set_eq _ _ _ _ hkl]; rfl) (by simp))
                    clear S4
                    clear HL HS c2
                    go_wp2_with fail
                    go_meet
                    rw [HE.out]
                    exact ⟨rfl, _, _, HS4.out⟩
                  · have HE := Lib.hid (show edMn m ⟨6, ⟨ph, pb⟩, ⟨rf, rt, rlen, rarea, rwalk, rclosed, ⟨r1, r2⟩, ⟨r3, r4⟩⟩, (k : Int), ⟨lo, hi⟩⟩ = ⟨m.ps, (m.rs.set k (midRd8 (m.rs.getD k rd0) lo)).set k ((m.rs.getD k rd0).lifted ⟨lo, hi⟩)⟩ by simp [edMn])
                    have q5 := HL.out 8 (by omega)
                    have q6 := HL.out 9 (by omega)
                    have S4 := HS.out.setR (u := .int .i64 lo) (r' := midRd8 (m.rs.getD k rd0) lo) hkl (show 8 < 10 by omega) rfl rfl
                    have HS4 := Lib.hid (S4.setR (g := g) (cap := yc) (k := k) (u := .int .i64 hi) (r' := (m.rs.getD k rd0).lifted ⟨lo, hi⟩) (by simpa using hkl) (show 9 < 10 by omega) (by dsimp only; rw [getD_set_eq _ _ _ _ hkl]; rfl) (by simp))
                    clear S4
                    clear HL HS c2
                    go_wp2_with fail
                    go_meet
                    rw [HE.out]
                    exact ⟨rfl, _, _, HS4.out⟩
              case rest =>
                obtain ⟨rfl, pv, rv, S⟩ := hcut
                clear S3 B3 a0 hk hr
                obtain ⟨xa2, xc2, rfl⟩ := own_slc S.p
                obtain ⟨ya2, yc2, rfl⟩ := own_slc S.r
                have C2 := Lib.hid c2
                clear c2
                have k5c := S.k.cell
                go_wp2_with fail
                refine (refCheck_any _ (edMn m d) _ ⟨_, _, rfl, own_sl S.p, own_sl S.r⟩).mono ?_
                rintro e w6 ⟨rfl, hb⟩
                have S6 := S.by_ (gb_b hb)
                clear S hb k5c
                have k5c := S6.k.cell
                obtain ⟨x1, y1, kR⟩ := S6.kR
                have kRc := kR.cell
                have kRf := kR.frozen
                by_cases c3 : ck (edMn m d) = 0
                · have E := Lib.hid (show am = (edMn m d, 0) by rw [← HA.out]; unfold applyMn; rw [if_neg (by rw [C1.out]; simp), if_neg (by rw [C2.out]; simp), if_neg (by rw [c3]; simp)])
                  simp only [c3]
                  have F := Lib.hid (S6.fin)
                  clear S6 c3 kR
                  go_wp2_with fail
                  have F := F.out
                  simp only [setC] at F
                  generalize World.setCell _ ⟨w.heap.size + 1 + 1, 1, none⟩ _ = W9 at *
                  obtain ⟨fk, fm, fg⟩ := F
                  have fkc := fk.cell
                  clear k5c kRc kRf
                  refine bodyPost_ret (v := .tuple #[.agg #[.slice xa2 (edMn m d).ps.length xc2, .slice ya2 (edMn m d).rs.length yc2], .int .i64 0]) (by simp [results, Try.results19, go_sem, fkc]) rfl ?_
                  rw [E.out]
                  exact ⟨_, rfl, fm, fg⟩
                · have n1 : (ck (edMn m d) == 0) = false := by simpa using c3
                  have n2 : (ck (edMn m d) != 0) = true := by simpa using c3
                  have E := Lib.hid (show am = (⟨[], []⟩, ck (edMn m d)) by rw [← HA.out]; unfold applyMn; rw [if_neg (by rw [C1.out]; simp), if_neg (by rw [C2.out]; simp), if_pos c3])
                  have F := Lib.hid (S6.fin0)
                  clear S6 c3 kR
                  go_wp2_with fail
                  have F := F.out
                  simp only [setC] at F
                  generalize World.setCell _ ⟨w.heap.size + 1 + 1, 1, none⟩ _ = W9 at *
                  obtain ⟨fk, fm, fg⟩ := F
                  have fkc := fk.cell
                  clear k5c kRc kRf
                  refine bodyPost_ret (v := .tuple #[.agg #[.slice none 0 0, .slice none 0 0], .int .i64 (ck (edMn m d))]) (by simp [results, Try.results19, go_sem, fkc]) rfl ?_
                  rw [E.out]
                  exact ⟨_, rfl, fm, fg⟩
            · have hcode : ckEd m d = 10 ∧ (d.kind = 3 ∧ (m.rs.getD d.road.toNat rd0).closed = true ∨ d.kind = 4 ∧ (m.rs.getD d.road.toNat rd0).closed = false) := by
                unfold ckEd at c2 ⊢
                by_cases k12 : d.kind = 1 ∨ d.kind = 2
                · rw [if_pos k12] at c2; omega
                rw [if_neg k12] at c2 ⊢
                rw [if_pos (by omega), if_neg (by omega)] at c2 ⊢
                by_cases hs : d.kind = 3 ∧ (m.rs.getD d.road.toNat rd0).closed = true ∨ d.kind = 4 ∧ (m.rs.getD d.road.toNat rd0).closed = false
                · rw [if_pos hs]; exact ⟨rfl, hs⟩
                · rw [if_neg hs] at c2; omega
              have E := Lib.hid (show am = (⟨[], []⟩, 10) by rw [← HA.out]; unfold applyMn; rw [if_neg (by rw [C1.out]; simp), hcode.1, if_pos (by omega)])
              replace hcode := hcode.2
              clear c2 HA HE
              obtain ⟨kind, ⟨ph, pb⟩, ⟨rf, rt, rlen, rarea, rwalk, rclosed, ⟨r1, r2⟩, ⟨r3, r4⟩⟩, road, ⟨lo, hi⟩⟩ := d
              dsimp only at *
              have hk34 : kind = 3 ∨ kind = 4 := by omega
              obtain ⟨k, rfl⟩ : ∃ k : Nat, road = k := ⟨road.toNat, by omega⟩
              rw [Int.toNat_natCast] at hcode
              have hkl : k < m.rs.length := by omega
              have hk0 : (0 : Int) ≤ (k : Int) := by omega
              have hk1 : (k : Int) < (m.rs.length : Int) := by omega
              obtain ⟨g, cap, hv, ⟨cur, hbk⟩, hcell, hfree, _⟩ := own_open S3.r (by omega)
              injection hv with hv1 _ hv2
              subst hv1
              subst hv2
              have q5 : W5.cell? ⟨g, k * 10 + 5, none⟩ = some (.bool (m.rs.getD k rd0).closed) := (hcell (k * 10 + 5) (by omega)).trans (flat_get_rd m.rs k hkl 5 (by omega))
              clear hcell hbk hk hr hfree
              have b2c := B3.cell
              have k5c := S3.k.cell
              obtain ⟨x1, y1, kR⟩ := S3.kR
              have kRc := kR.cell
              have kRf := kR.frozen
              have HF := Lib.hid (fun nq => (S3.by_ (gb_drewN (gb_refl _ _) nq)).fin0)
              clear S3 B3 kR
              generalize (m.rs.getD k rd0).closed = cl at *
              rcases hcode with ⟨rfl, rfl⟩ | ⟨rfl, rfl⟩
              all_goals
                clear hk34
                go_wp2_with fail
                go_quiet (fail)
                go_wp2_with fail
                have F := HF.out nq
                simp only [setC] at F
                generalize World.setCell _ ⟨w.heap.size + 1 + 1, 1, none⟩ _ = W9 at *
                obtain ⟨fk, fm, fg⟩ := F
                have fkc := fk.cell
                clear k5c kRc kRf
                refine bodyPost_ret (v := .tuple #[.agg #[.slice none 0 0, .slice none 0 0], .int .i64 10]) (by simp [results, Try.results19, go_sem, fkc]) rfl ?_
                rw [E.out]
                exact ⟨_, rfl, fm, fg⟩
  · have n1 : (ck m == 0) = false := by simpa using c1
    have n2 : (ck m != 0) = true := by simpa using c1
    have F := Lib.hid (S1.fin (.slice none 0 0) (.slice none 0 0) (MnO.nil _ _))
    have E := Lib.hid (show am = (⟨[], []⟩, ck m) by rw [← HA.out]; unfold applyMn; rw [if_pos c1])
    clear S1 c1
    go_wp2_with fail
    have F := F.out
    simp only [setC] at F
    generalize World.setCell _ ⟨w.heap.size + 1 + 1, 1, none⟩ _ = W9 at *
    obtain ⟨fk, fm, fg⟩ := F
    have fkc := fk.cell
    clear k4c k4f
    refine bodyPost_ret (v := .tuple #[.agg #[.slice none 0 0, .slice none 0 0], .int .i64 (ck m)]) (by simp [results, Try.results19, go_sem, fkc]) rfl ?_
    rw [E.out]
    exact ⟨_, rfl, fm, fg⟩
end Go.Proofs.Ytbiikgkfklhohaa
