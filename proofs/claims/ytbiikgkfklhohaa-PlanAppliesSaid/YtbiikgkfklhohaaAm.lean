/- The document's All. -/
import Derived.Test.YtbiikgkfklhohaaAl
import Derived.Deep.CutRange
namespace Go.Proofs.Ytbiikgkfklhohaa
open Go.RowKit
attribute [local go_sem ↓] Go.wp_at_zero Go.wp_at_succ

set_option maxRecDepth 100000 in
set_option maxHeartbeats 8000000 in
theorem refAll_any (v lv : Value) (m : Mn) (l : List Ed) (w : World) (h : MnV w v m) (hl : Sl w lv 16 l.length (l.flatMap edL)) :
    Calls Try.prog 22 #[v, lv] w fun e w' => ∃ v', e = .returned (.tuple #[v', .int .i64 (allMn m l 0).2.1, .int .i64 (allMn m l 0).2.2]) ∧ MnV w' v' (allMn m l 0).1 ∧ w.grownBy w' none := by
  obtain ⟨pa, pc, ra, rc, rfl⟩ := h.shape'
  obtain ⟨la, lc, rfl, lc1, lc2, _⟩ := hl.shape
  unfold maxLen at lc2
  generalize hA : allMn m l 0 = am
  have HA := Lib.hid hA
  clear hA
  go_enter Try.func22, Try.ntmps22
  go_wp2_with fail
  have k2 := (Bk.new w #[.slice pa m.ps.length pc, .slice ra m.rs.length rc] 26).of (gb_alloc (gb_refl _ none) (.cells #[.slice none 0 0, .slice none 0 0] 26)) (by simp)
  have k4 := Bk.new (w.alloc (.cells #[.slice pa m.ps.length pc, .slice ra m.rs.length rc] 26)) #[.slice none 0 0, .slice none 0 0] 26
  have g4 := gb_alloc (gb_alloc (gb_refl w none) (.cells #[.slice pa m.ps.length pc, .slice ra m.rs.length rc] 26)) (.cells #[.slice none 0 0, .slice none 0 0] 26)
  rw [World.size_alloc] at k4
  have S : AlS w (w.heap.size + 1) w.heap.size (.slice la l.length lc) l m (.slice pa m.ps.length pc) (.slice ra m.rs.length rc) ((w.alloc (.cells #[.slice pa m.ps.length pc, .slice ra m.rs.length rc] 26)).alloc (.cells #[.slice none 0 0, .slice none 0 0] 26)) :=
    ⟨k4, k2, h.by_ g4, hl.by_ g4, g4, ⟨by omega, by omega, by omega⟩⟩
  clear k2 k4 g4 h hl
  generalize (w.alloc _).alloc _ = W3 at *
  go_loopw [7] (fun i wr => ∃ (k : Nat) (mx : Mn) (pv rv : Value), k ≤ l.length ∧ i = .int .i64 k ∧ am = allMn mx (l.drop k) k ∧ AlS w (w.heap.size + 1) w.heap.size (.slice la l.length lc) l mx pv rv wr) (fun i _ => l.length - (intOf i).toNat)
  case atStart => exact ⟨0, m, _, _, Nat.zero_le _, rfl, HA.out.symm, S⟩
  case round =>
    clear S HA
    obtain ⟨k, mx, pv, rv, hk, rfl, ha, S⟩ := hrel
    have HA := Lib.hid ha
    clear ha
    by_cases hlt : k < l.length
    · obtain ⟨g, off, cap, hlv, hcap, hE⟩ := S.s.edAt hlt
      injection hlv with hl1 _ hl2
      subst hl1
      subst hl2
      have HN := Lib.hid (HA.out.trans (allMn_next mx l k hlt))
      generalize l.getD k ed0 = d at *
      have hk0 : (0 : Int) ≤ (k : Int) := by omega
      have hk1 : (k : Int) < (l.length : Int) := by omega
      have HE := Lib.hid hE
      obtain ⟨e0, e1, e2, e3, e4, e5, e6, e7, e8, e9, e10, e11, e12, e13, e14, e15⟩ := hE
      have f0 : wr.cell? ⟨w.heap.size, 0, none⟩ = some pv := S.k7.cell 0
      have f1 : wr.cell? ⟨w.heap.size, 1, none⟩ = some rv := S.k7.cell 1
      have HS := Lib.hid S
      have hn := S.k4.lt
      have hn7 := S.k7.lt
      clear S
      go_upto_region 4 with fail
      go_cut [8, 9] from 10 to 30 (fun s8 s9 wx => ∃ (n8 : Nat) (x y : Value), s8 = .pointer (some ⟨n8, 0, none⟩) ∧ s9 = .int .i64 (applyMn mx d).2 ∧ AlS w (w.heap.size + 1) w.heap.size (.slice (some ⟨g, off, none⟩) l.length lc) l mx pv rv wx ∧ MnV wx (.agg #[x, y]) (applyMn mx d).1 ∧ Bk wx n8 #[x, y] 26)
      case first =>
        go_region_held3 (fun w' => w'.cell? ⟨w.heap.size, 0, none⟩ = some pv ∧ w'.cell? ⟨w.heap.size, 1, none⟩ = some rv ∧ w'.cell? ⟨g, off + k * 16, none⟩ = some (.int .i64 d.kind) ∧ w'.cell? ⟨g, off + k * 16 + 1, none⟩ = some (.int .i64 d.place.h) ∧ w'.cell? ⟨g, off + k * 16 + 2, none⟩ = some (.bool d.place.s) ∧ w'.cell? ⟨g, off + k * 16 + 3, none⟩ = some (.int .i64 d.new.f) ∧ w'.cell? ⟨g, off + k * 16 + 4, none⟩ = some (.int .i64 d.new.t) ∧ w'.cell? ⟨g, off + k * 16 + 5, none⟩ = some (.int .i64 d.new.len) ∧ w'.cell? ⟨g, off + k * 16 + 6, none⟩ = some (.int .i64 d.new.area) ∧ w'.cell? ⟨g, off + k * 16 + 7, none⟩ = some (.bool d.new.walk) ∧ w'.cell? ⟨g, off + k * 16 + 8, none⟩ = some (.bool d.new.closed) ∧ w'.cell? ⟨g, off + k * 16 + 9, none⟩ = some (.int .i64 d.new.rest.lo) ∧ w'.cell? ⟨g, off + k * 16 + 10, none⟩ = some (.int .i64 d.new.rest.hi) ∧ w'.cell? ⟨g, off + k * 16 + 11, none⟩ = some (.int .i64 d.new.lift.lo) ∧ w'.cell? ⟨g, off + k * 16 + 12, none⟩ = some (.int .i64 d.new.lift.hi) ∧ w'.cell? ⟨g, off + k * 16 + 13, none⟩ = some (.int .i64 d.road) ∧ w'.cell? ⟨g, off + k * 16 + 14, none⟩ = some (.int .i64 d.span.lo) ∧ w'.cell? ⟨g, off + k * 16 + 15, none⟩ = some (.int .i64 d.span.hi))
          (first | (with_reducible exact ⟨f0, f1, e0, e1, e2, e3, e4, e5, e6, e7, e8, e9, e10, e11, e12, e13, e14, e15⟩) | go_keep | (exact ⟨S7.k7.cell 0, S7.k7.cell 1, HE7.out⟩))
          ((go_at_call 19; (first
            | (have q : wr.grownBy _ none := gb_drew (gb_refl _ none); refine (refApply_any _ mx d _ (HS.out.by_ q).m).mono ?_; rintro e w6 ⟨v6, rfl, hO, g6⟩; have q6 := gb_none q g6; have S6 := HS.out.by_ q6; obtain ⟨ya, yc, yb, yd, rfl⟩ := hO.v.shape'; have f0 : w6.cell? ⟨w.heap.size, 0, none⟩ = some pv := S6.k7.cell 0; have f1 : w6.cell? ⟨w.heap.size, 1, none⟩ = some rv := S6.k7.cell 1; have HE6 := Lib.hid (HE.out.by_ q6); obtain ⟨e0, e1, e2, e3, e4, e5, e6, e7, e8, e9, e10, e11, e12, e13, e14, e15⟩ := HE6.out)
            | (have q : wr.grownBy _ none := gb_drew (gb_alloc (gb_refl _ none) (.cells #[.slice none 0 0, .slice none 0 0] 26)); refine (refApply_any _ mx d _ (HS.out.by_ q).m).mono ?_; rintro e w6 ⟨v6, rfl, hO, g6⟩; have q6 := gb_none q g6; have S6 := HS.out.by_ q6; obtain ⟨ya, yc, yb, yd, rfl⟩ := hO.v.shape'; have f0 : w6.cell? ⟨w.heap.size, 0, none⟩ = some pv := S6.k7.cell 0; have f1 : w6.cell? ⟨w.heap.size, 1, none⟩ = some rv := S6.k7.cell 1; have HE6 := Lib.hid (HE.out.by_ q6); obtain ⟨e0, e1, e2, e3, e4, e5, e6, e7, e8, e9, e10, e11, e12, e13, e14, e15⟩ := HE6.out; have kz := (Bk.new wr #[.slice none 0 0, .slice none 0 0] 26).of (gb_none (gb_drew (gb_refl _ none)) g6) (by simp); have kzc := kz.cell; have kzf := kz.frozen; have q7 := gb_new q6 (setC_gb wr.heap.size [.slice ya (applyMn mx d).1.ps.length yc, .slice yb (applyMn mx d).1.rs.length yd] w6 0) (Nat.le_refl _); simp only [setC] at q7; have S7 := HS.out.by_ q7; have HE7 := Lib.hid (HE.out.by_ q7)))))
        all_goals go_wp2_with fail
        all_goals go_meet
        all_goals first
          | exact ⟨_, _, _, rfl, rfl, S6.by_ (gb_alloc (gb_refl _ none) _), hO.v.by_ (gb_alloc (gb_refl _ none) _), Bk.new _ _ _⟩
          | (have m8 := hO.v.setB kz (setC_gb wr.heap.size [.slice ya (applyMn mx d).1.ps.length yc, .slice yb (applyMn mx d).1.rs.length yd] w6 0); have k8 := kz.all [.slice ya (applyMn mx d).1.ps.length yc, .slice yb (applyMn mx d).1.rs.length yd] rfl; simp only [setC] at m8 k8; exact ⟨_, _, _, rfl, rfl, S7, m8, k8⟩)
      case rest =>
        clear HS HE f0 f1 e0 e1 e2 e3 e4 e5 e6 e7 e8 e9 e10 e11 e12 e13 e14 e15
        obtain ⟨n10, x10, y10, rfl, rfl, S7, m7, k10⟩ := hcut
        obtain ⟨a8, b8, c8, d8, e8⟩ := m7.shape'
        injection e8 with e8
        obtain ⟨rfl, rfl⟩ : x10 = .slice a8 (applyMn mx d).1.ps.length b8 ∧ y10 = .slice c8 (applyMn mx d).1.rs.length d8 := by simpa using e8
        clear e8
        by_cases hc : (applyMn mx d).2 = 0
        · have hn := HN.out
          rw [if_pos hc] at hn
          replace HN := Lib.hid hn
          clear hn
          have F := S7.put m7
          simp only [setC] at F
          have HF := Lib.hid F
          clear F
          rw [hc]
          clear hc
          have k7c := S7.k7.cell
          have k7f := S7.k7.frozen
          have k10c := k10.cell
          clear S7 m7
          go_wp2_with fail
          go_roundw
          case rel => exact ⟨k + 1, (applyMn mx d).1, _, _, by omega, by go_num, HN.out, HF.out⟩
          case measure => simp [intOf]; omega
        · have hn := HN.out
          rw [if_neg hc] at hn
          replace HN := Lib.hid hn
          clear hn
          have n1 : ((applyMn mx d).2 == 0) = false := by simpa using hc
          have n2 : ((applyMn mx d).2 != 0) = true := by simpa using hc
          obtain ⟨a7, b7, c7, d7, e7⟩ := S7.m.shape'
          injection e7 with e7
          obtain ⟨rfl, rfl⟩ : pv = .slice a7 mx.ps.length b7 ∧ rv = .slice c7 mx.rs.length d7 := by simpa using e7
          clear hc m7 k10 e7
          have F := S7.fin
          simp only [setC] at F
          have k4c := S7.k4.cell
          have k4f := S7.k4.frozen
          have k7c := S7.k7.cell
          have HF := Lib.hid F
          clear F S7
          go_wp2_with fail
          obtain ⟨fk, fm, fg⟩ := HF.out
          generalize World.setCell _ ⟨w.heap.size + 1, 1, none⟩ _ = W9 at *
          have fkc := fk.cell
          clear k4c k4f k7c
          refine bodyPost_ret (v := .tuple #[.agg #[.slice a7 mx.ps.length b7, .slice c7 mx.rs.length d7], .int .i64 k, .int .i64 (applyMn mx d).2]) (by simp [results, Try.results22, go_sem, fkc]) rfl ?_
          rw [HN.out]
          exact ⟨_, rfl, fm, fg⟩
    · obtain rfl : k = l.length := by omega
      have hn := HA.out
      rw [List.drop_length, allMn] at hn
      have HN := Lib.hid hn
      clear hn HA hlt
      obtain ⟨a7, b7, c7, d7, e7⟩ := S.m.shape'
      injection e7 with e7
      obtain ⟨rfl, rfl⟩ : pv = .slice a7 mx.ps.length b7 ∧ rv = .slice c7 mx.rs.length d7 := by simpa using e7
      clear e7
      have F := S.fin
      simp only [setC] at F
      have k4c := S.k4.cell
      have k4f := S.k4.frozen
      have k7c := S.k7.cell
      have HF := Lib.hid F
      clear F S
      go_wp2_with fail
      obtain ⟨fk, fm, fg⟩ := HF.out
      generalize World.setCell _ ⟨w.heap.size + 1, 1, none⟩ _ = W9 at *
      have fkc := fk.cell
      clear k4c k4f k7c
      refine bodyPost_ret (v := .tuple #[.agg #[.slice a7 mx.ps.length b7, .slice c7 mx.rs.length d7], .int .i64 l.length, .int .i64 0]) (by simp [results, Try.results22, go_sem, fkc]) rfl ?_
      rw [HN.out]
      exact ⟨_, rfl, fm, fg⟩
end Go.Proofs.Ytbiikgkfklhohaa
