/- PlanOrders: the walk. -/
import Derived.Test.YtbiikgkfklhohaaOr
namespace Go.Proofs.Ytbiikgkfklhohaa
open Go.RowKit
attribute [local go_sem ↓] Go.wp_at_zero Go.wp_at_succ
attribute [local go_sem ↓] storeAt_ed

theorem MnV.shape {W : World} {v : Value} {m : Mn} (h : MnV W v m) : ∃ a c b d, v = .agg #[.slice a m.ps.length c, .slice b m.rs.length d] := by
  obtain ⟨x, y, rfl, hp, hr⟩ := h
  obtain ⟨pa, pc, rfl, _⟩ := hp.shape
  obtain ⟨ra, rc, rfl, _⟩ := hr.shape
  exact ⟨_, _, _, _, rfl⟩
/-- The load of an edit as one step. -/
noncomputable def loadEd (x : Value) : Sem Value := Instr.loadAt 43 x
theorem loadAt_ed (x : Value) : Instr.loadAt 43 x = loadEd x := rfl
attribute [local go_sem ↓] loadAt_ed
theorem run_loadEd {W : World} {g : Nat} {d : Ed} (k : Bk W g (edL d).toArray 43) : (loadEd (.pointer (some ⟨g, 0, none⟩))).run Try.prog W = .ok d.v W := by
  refine (run_loadAt_mid W g 0 43 (edL d) _ (fun j v hv => ?_) Try.underlying43 rfl (by kernel_rfl)).trans rfl
  rw [k.cell, List.getElem?_toArray, Nat.zero_add]
  exact hv

theorem OrS.road {w W3 : World} {b : Nat} {l : List Nat} {n8 n9 n10 : Nat} {pv rv : Value} {m : Mn} {d f : Ed} {W : World} (h : OrS w W3 b l n8 n9 n10 pv rv m d f W) (x y : Int) :
    Calls Try.prog 35 #[.pointer (some ⟨b, 0, none⟩), .int .i64 x, .int .i64 y] W fun e w' => ∃ r : Rd, e = .returned (.agg #[.int .i64 r.f, .int .i64 r.t, .int .i64 r.len, .int .i64 r.area, .bool r.walk, .bool r.closed, .int .i64 r.rest.lo, .int .i64 r.rest.hi, .int .i64 r.lift.lo, .int .i64 r.lift.hi]) ∧ RdGood r x y ∧ OrS w W3 b l n8 n9 n10 pv rv m d f w' := by
  obtain ⟨j, c⟩ := h.cd
  refine (road_any b l j x y W c).mono ?_
  rintro e w' ⟨r, rfl, hr, hc, hg⟩
  exact ⟨r, rfl, hr, h.draw hc hg⟩
theorem far_drew {W : World} {a : Addr} {x : Value} (h : W.cell? a = some x) : W.drew.cell? a = some x := h
/-- A mine with a road more: its roads but the last, the last. -/
theorem mn_more {W : World} {v : Value} {m : Mn} {r : Rd} (h : MnV W v ⟨m.ps, m.rs ++ [r]⟩) : ∃ xa xc g off xd, v = .agg #[.slice xa m.ps.length xc, .slice (some ⟨g, off, none⟩) (m.rs.length + 1) xd] ∧ m.rs.length + 1 ≤ xd ∧ xd ≤ maxLen ∧
    MnV W (.agg #[.slice xa m.ps.length xc, .slice (some ⟨g, off, none⟩) m.rs.length xd]) m ∧ ∀ k, k < 10 → W.cell? ⟨g, off + m.rs.length * 10 + k, none⟩ = some (r.cells.getD k undef) := by
  obtain ⟨x, y, rfl, hp, hr⟩ := h
  obtain ⟨pa, pc, rfl, _, _, _⟩ := hp.shape
  obtain ⟨ra, rc, rfl, hn, hm, h0⟩ := hr.shape
  dsimp only at hn h0 hr hp ⊢
  rw [List.length_append, List.length_singleton] at hn h0 ⊢
  rcases h0 with h0 | ⟨g, off, rfl, hc⟩
  · omega
  have hL : ∀ l : List Rd, (l.flatMap Rd.cells).length = l.length * 10 := fun l => by
    induction l with
    | nil => rfl
    | cons x l ih => rw [List.flatMap_cons, List.length_append, ih, List.length_cons]; simp [Rd.cells]; omega
  refine ⟨pa, pc, g, off, rc, rfl, hn, hm, ⟨_, _, rfl, hp, hL _, .inr ⟨g, off, rc, rfl, by omega, hm, fun j hj => ?_⟩⟩, fun k hk => ?_⟩
  · rw [hc j (by omega), List.flatMap_append, List.getD_eq_getElem?_getD, List.getElem?_append_left (by rw [hL]; exact hj), ← List.getD_eq_getElem?_getD]
  · rw [Nat.add_assoc, hc _ (by omega), List.flatMap_append, List.getD_eq_getElem?_getD, List.getElem?_append_right (by rw [hL]; omega), hL, Nat.add_sub_cancel_left, ← List.getD_eq_getElem?_getD]
    simp

/-- A road was added: the program's mine in n11, the new road in block g from offset o on. -/
structure OrF (w W3 : World) (b : Nat) (l : List Nat) (n8 n9 n10 : Nat) (pv rv : Value) (m : Mn) (d f : Ed) (n11 g o : Nat) (xv yv zv : Value) (r : Rd) (W : World) : Prop where
  s : OrS w W3 b l n8 n9 n10 pv rv m d f W
  k11 : Bk W n11 #[xv, yv] 26
  m' : MnV W (.agg #[xv, zv]) m
  c : ∀ k, k < 10 → W.cell? ⟨g, o + k, none⟩ = some (r.cells.getD k undef)
section
variable {w W3 : World} {b : Nat} {l : List Nat} {n8 n9 n10 : Nat} {pv rv : Value} {m : Mn} {d f : Ed} {n11 g o : Nat} {xv yv zv : Value} {r : Rd} {W W' : World}
theorem OrF.by_ (h : OrF w W3 b l n8 n9 n10 pv rv m d f n11 g o xv yv zv r W) (q : W.grownBy W' none) : OrF w W3 b l n8 n9 n10 pv rv m d f n11 g o xv yv zv r W' :=
  ⟨h.s.by_ q, h.k11.of q (by simp), h.m'.by_ q, fun k hk => by rw [← h.c k hk]; exact gb_cell q (World.block_lt_of_cell? _ _ (h.c k hk)) (by simp) _⟩
theorem OrF.all (h : OrF w W3 b l n8 n9 n10 pv rv m ⟨2, ⟨0, false⟩, r, 0, ⟨0, 0⟩⟩ f n11 g o xv yv zv r W) : W.cell? ⟨n8, 0, none⟩ = some (pv) ∧ W.cell? ⟨n8, 1, none⟩ = some (rv) ∧ W.cell? ⟨n11, 0, none⟩ = some (xv) ∧ W.cell? ⟨n11, 1, none⟩ = some (yv) ∧ W.cell? ⟨g, o, none⟩ = some (.int .i64 r.f) ∧ W.cell? ⟨g, o + 1, none⟩ = some (.int .i64 r.t) ∧ W.cell? ⟨g, o + 2, none⟩ = some (.int .i64 r.len) ∧ W.cell? ⟨g, o + 3, none⟩ = some (.int .i64 r.area) ∧ W.cell? ⟨g, o + 4, none⟩ = some (.bool r.walk) ∧ W.cell? ⟨g, o + 5, none⟩ = some (.bool r.closed) ∧ W.cell? ⟨g, o + 6, none⟩ = some (.int .i64 r.rest.lo) ∧ W.cell? ⟨g, o + 7, none⟩ = some (.int .i64 r.rest.hi) ∧ W.cell? ⟨g, o + 8, none⟩ = some (.int .i64 r.lift.lo) ∧ W.cell? ⟨g, o + 9, none⟩ = some (.int .i64 r.lift.hi) ∧ W.cell? ⟨n9, 3, none⟩ = some (.int .i64 r.f) ∧ W.cell? ⟨n9, 4, none⟩ = some (.int .i64 r.t) ∧ W.cell? ⟨n9, 5, none⟩ = some (.int .i64 r.len) ∧ W.cell? ⟨n9, 6, none⟩ = some (.int .i64 r.area) ∧ W.cell? ⟨n9, 7, none⟩ = some (.bool r.walk) ∧ W.cell? ⟨n9, 8, none⟩ = some (.bool r.closed) ∧ W.cell? ⟨n9, 9, none⟩ = some (.int .i64 r.rest.lo) ∧ W.cell? ⟨n9, 10, none⟩ = some (.int .i64 r.rest.hi) ∧ W.cell? ⟨n9, 11, none⟩ = some (.int .i64 r.lift.lo) ∧ W.cell? ⟨n9, 12, none⟩ = some (.int .i64 r.lift.hi) := by
  have c := fun k hk => h.c k hk
  have e := h.s.k9.cell
  exact ⟨h.s.k8.cell 0, h.s.k8.cell 1, h.k11.cell 0, h.k11.cell 1, c 0 (by omega), c 1 (by omega), c 2 (by omega), c 3 (by omega), c 4 (by omega), c 5 (by omega), c 6 (by omega), c 7 (by omega), c 8 (by omega), c 9 (by omega), e 3, e 4, e 5, e 6, e 7, e 8, e 9, e 10, e 11, e 12⟩
end

theorem run_storeEd2 (W : World) (g n o : Nat) (vs : List Value) (a0 a1 a3 a4 a5 a6 a9 a10 a11 a12 a13 a14 a15 : Int) (a2 a7 a8 : Bool) (h : W.there g 0 16) : (storeEd (.pointer (some ⟨g, 0, none⟩)) (.agg #[.int .i64 a0, .int .i64 a1, .bool a2, .int .i64 a3, .int .i64 a4, .int .i64 a5, .int .i64 a6, .bool a7, .bool a8, .int .i64 a9, .int .i64 a10, .int .i64 a11, .int .i64 a12, .int .i64 a13, .int .i64 a14, .int .i64 a15])).run Try.prog (setC W n o vs) = .ok () (setC (setC W n o vs) g 0 [.int .i64 a0, .int .i64 a1, .bool a2, .int .i64 a3, .int .i64 a4, .int .i64 a5, .int .i64 a6, .bool a7, .bool a8, .int .i64 a9, .int .i64 a10, .int .i64 a11, .int .i64 a12, .int .i64 a13, .int .i64 a14, .int .i64 a15]) :=
  run_storeEd _ g a0 a1 a3 a4 a5 a6 a9 a10 a11 a12 a13 a14 a15 a2 a7 a8 (there_setC h)
theorem there_drew {W : World} {g o n : Nat} : W.drew.there g o n ↔ W.there g o n := Iff.rfl
attribute [local irreducible] setC
attribute [local go_sem] run_storeEd run_storeEd2 setC_size there_new there_new2 there_alloc' there_drew

set_option maxRecDepth 100000 in
set_option maxHeartbeats 8000000 in
theorem planOrders_walk (ca : Option Addr) (clen ccap : Nat) (l : List Nat) (za zb : Int) (w : World) (hlen : l.length = clen) (hcap : clen ≤ ccap) (hb : ∀ x ∈ l, x < 256)
    (hx : l = [] ∨ ∃ g off, ca = some ⟨g, off, none⟩ ∧ ∀ j, j < l.length → w.cell? ⟨g, off + j, none⟩ = some (.int .u8 (l.getD j 0 : Nat)))
    (h1 : -9223372036854775808 ≤ za) (h2 : za ≤ 9223372036854775807) (h3 : -9223372036854775808 ≤ zb) (h4 : zb ≤ 9223372036854775807) :
    Calls Try.prog 8 #[.slice ca clen ccap, .int .i64 za, .int .i64 zb] w fun e w' => e = .returned (.bool true) ∧ w.grownBy w' none := by
  go_enter Try.func8, Try.ntmps8
  go_wp2_with fail
  refine (new_any ca clen ccap l w hlen hcap hb hx).mono ?_
  clear hlen hb hx hcap
  rintro e w2 ⟨rfl, hC, _, hbl⟩
  have g2 := gb_below hbl none
  generalize hnb : w.heap.size = nb at *
  generalize l.take 300 = lc at *
  clear hbl
  go_wp2_with fail
  refine (mine_any nb lc _ _ hC).mono ?_
  rintro e w3 ⟨m, v, rfl, hm, hck, hp2, hp7, hr8, hC3, g3⟩
  obtain ⟨pa, pc, ra, rc, rfl⟩ := hm.shape
  have G3 := gb_new g2 g3 (by omega)
  clear hC g2 g3
  have S4 : EoX w w3 nb lc w3.heap.size (.slice pa m.ps.length pc) (.slice ra m.rs.length rc) m [] [] (w3.alloc (.cells #[.slice pa m.ps.length pc, .slice ra m.rs.length rc] 26)) := by
    obtain ⟨j, c⟩ := hC3
    exact ⟨hm, ⟨j, c⟩, rfl, ⟨j, c.alloc _⟩, gb_alloc (gb_refl _ _) _, Bk.new _ _ _, gb_alloc G3 _, (fun n hn => by cases hn), by omega, c.lt⟩
  clear hC3 G3 hm
  go_upto_region 3 with fail
  generalize w3.alloc _ = W at *
  generalize w3.heap.size = n8 at *
  have HK := Lib.hid hck
  clear hck
  go_cut [7, 8, 9, 10] from 21 (fun s7 s8 s9 s10 wx => ∃ (n9 n10 : Nat) (d f : Ed), n9 ≠ n10 ∧ s7 = .pointer (some ⟨nb, 0, none⟩) ∧ s8 = .pointer (some ⟨n8, 0, none⟩) ∧ s9 = .pointer (some ⟨n9, 0, none⟩) ∧ s10 = .pointer (some ⟨n10, 0, none⟩) ∧ OrS w w3 nb lc n8 n9 n10 (.slice pa m.ps.length pc) (.slice ra m.rs.length rc) m d f wx)
  case first =>
    clear HK
    have e0 : W.cell? ⟨n8, 0, none⟩ = some (.slice pa m.ps.length pc) := S4.k8.cell 0
    have e1 : W.cell? ⟨n8, 1, none⟩ = some (.slice ra m.rs.length rc) := S4.k8.cell 1
    have q8l := S4.k8.lt
    go_region_held3 (fun w' => w'.cell? ⟨n8, 0, none⟩ = some (.slice pa m.ps.length pc) ∧ w'.cell? ⟨n8, 1, none⟩ = some (.slice ra m.rs.length rc))
      (first | (with_reducible exact ⟨e0, e1⟩) | (refine ⟨?_, ?_⟩ <;> (repeat (first | (with_reducible assumption) | (with_reducible refine far_drew ?_) | (with_reducible refine far_setC ?_ (Nat.ne_of_lt (by with_reducible assumption))) | (with_reducible refine far_setC ?_ (Nat.ne_of_lt (Nat.lt_succ_of_lt (by with_reducible assumption)))) | (with_reducible refine far_alloc ?_ _)))))
      ((go_at_call 17; (first | refine (EoX.edit (by assumption)).mono ?_ | refine (EoX.edit (EoX.alloc (by assumption))).mono ?_ | refine (EoX.edit (EoX.alloc (EoX.alloc (by assumption)))).mono ?_ | refine (EoX.edit (EoX.drew (by assumption))).mono ?_ | refine (EoX.edit (EoX.drew (EoX.alloc (by assumption)))).mono ?_ | refine (EoX.edit (EoX.drew (EoX.alloc (EoX.alloc (by assumption))))).mono ?_); rintro e w' ⟨d, rfl, S⟩; have e0 : w'.cell? ⟨n8, 0, none⟩ = some (.slice pa m.ps.length pc) := S.k8.cell 0; have e1 : w'.cell? ⟨n8, 1, none⟩ = some (.slice ra m.rs.length rc) := S.k8.cell 1; (try (have qa : _ := (S.x _ List.mem_cons_self).1.there (o := 0) (n := 16) (by decide); have qal := (S.x _ List.mem_cons_self).2; have qam := (S.x _ List.mem_cons_self).1.lt; try simp only [World.size_alloc] at qa qal qam)); (try (have qb := (S.x _ (List.mem_cons_of_mem _ List.mem_cons_self)).1.there (o := 0) (n := 16) (by decide); have qbl := (S.x _ (List.mem_cons_of_mem _ List.mem_cons_self)).2; have qbm := (S.x _ (List.mem_cons_of_mem _ List.mem_cons_self)).1.lt; try simp only [World.size_alloc] at qb qbl qbm)); have q8l := S.k8.lt))
    all_goals go_wp2_with fail
    all_goals go_meet
    all_goals first
      | exact ⟨_, _, _, _, by omega, rfl, rfl, rfl, rfl, EoX.finE (EoX.alloc (EoX.alloc S)) (by simp) (by simp) (by omega)⟩
      | exact ⟨_, _, _, _, by omega, rfl, rfl, rfl, rfl, EoX.finE (EoX.alloc S) (by simp) (by simp) (by omega)⟩
      | exact ⟨_, _, _, _, by omega, rfl, rfl, rfl, rfl, EoX.finE S (by simp) (by simp) (by omega)⟩
  case rest =>
    clear S4
    obtain ⟨n9, n10, d, f, hne, rfl, rfl, rfl, rfl, S⟩ := hcut
    go_upto_region 4 with fail
    go_cut [45] from 31 (fun s wx => s = .bool (decide (d.kind < 3 ∨ f.kind < 3 ∨ d.road = f.road)) ∧ wx = wc)
    case first =>
      have a0 : wc.cell? ⟨n9, 0, none⟩ = some (.int .i64 d.kind) := S.k9.cell 0
      have a1 : wc.cell? ⟨n9, 13, none⟩ = some (.int .i64 d.road) := S.k9.cell 13
      have a2 : wc.cell? ⟨n10, 0, none⟩ = some (.int .i64 f.kind) := S.k10.cell 0
      have a3 : wc.cell? ⟨n10, 13, none⟩ = some (.int .i64 f.road) := S.k10.cell 13
      clear S HK
      by_cases c1 : d.kind < 3
      · have c1' : decide (d.kind < 3) = true := by simpa using c1
        go_wp2_with fail
        go_meet
        exact ⟨by simp [c1], rfl⟩
      have c1' : decide (d.kind < 3) = false := by simpa using c1
      by_cases c2 : f.kind < 3
      · have c2' : decide (f.kind < 3) = true := by simpa using c2
        go_wp2_with fail
        go_meet
        exact ⟨by simp [c2], rfl⟩
      have c2' : decide (f.kind < 3) = false := by simpa using c2
      go_wp2_with fail
      go_meet
      refine ⟨congrArg Value.bool ?_, rfl⟩
      by_cases c3 : d.road = f.road
      · simp [c3]
      · rw [beq_eq_false_iff_ne.2 c3, decide_eq_false (by omega)]
    case rest =>
      obtain ⟨rfl, rfl⟩ := hcut
      by_cases hB : d.kind < 3 ∨ f.kind < 3 ∨ d.road = f.road
      · rw [decide_eq_true hB]
        clear hB
        go_upto_region 5 with fail
        go_cut [9] from 46 (fun s9 wx => s9 = .pointer (some ⟨n9, 0, none⟩) ∧ ∃ (r : Rd) (fi ti : Nat), fi < m.ps.length ∧ ti < m.ps.length ∧ RdGood r fi ti ∧ OrS w w3 nb lc n8 n9 n10 (.slice pa m.ps.length pc) (.slice ra m.rs.length rc) m ⟨2, ⟨0, false⟩, r, 0, ⟨0, 0⟩⟩ f wx)
        case first =>
          have e0 : wc.cell? ⟨n8, 0, none⟩ = some (.slice pa m.ps.length pc) := S.k8.cell 0
          clear HK
          have hl := S.lt
          have q9 := S.k9.there (o := 0) (n := 16) (Nat.le_refl 16)
          go_region_held3 (fun w' => w'.cell? ⟨n8, 0, none⟩ = some (.slice pa m.ps.length pc))
            (first | (with_reducible exact e0) | (repeat (first | (with_reducible assumption) | (with_reducible refine far_drew ?_) | (with_reducible refine far_setC ?_ (by omega)) | (with_reducible refine far_alloc ?_ _))))
            ((first
              | (go_at_call_of 23 (Value.int .i64 za); refine (mod_ex za m.ps.length _ (by omega) h1 h2 (by omega)).mono ?_; rintro e w6 ⟨ja, rfl, hja, rfl⟩)
              | (go_at_call_of 23 (Value.int .i64 zb); refine (mod_ex zb m.ps.length _ (by omega) h3 h4 (by omega)).mono ?_; rintro e w6 ⟨jb, rfl, hjb, rfl⟩)
              | (go_at_call 35; (first | refine (OrS.road (by assumption) _ _).mono ?_ | refine (OrS.road (OrS.drew (by assumption)) _ _).mono ?_); rintro e w6 ⟨r, rfl, hr, S6⟩; have e0 : w6.cell? ⟨n8, 0, none⟩ = some (.slice pa m.ps.length pc) := S6.k8.cell 0; have q9 := S6.k9.there (o := 0) (n := 16) (Nat.le_refl 16))))
          all_goals go_wp2_with fail
          all_goals go_meet
          all_goals exact ⟨rfl, r, ja, jb, hja, hjb, hr, S6.new hne ⟨2, ⟨0, false⟩, r, 0, ⟨0, 0⟩⟩⟩
        case rest =>
          clear S
          obtain ⟨rfl, r, fi, ti, hfi, hti, hr, S⟩ := hcut
          have hO1 := one_more HK.out hr hr8 (by omega) (by omega) ⟨0, false⟩ 0 ⟨0, 0⟩
          rename_i wd _
          have e0 : wc.cell? ⟨n8, 0, none⟩ = some (.slice pa m.ps.length pc) := S.k8.cell 0
          have e1 : wc.cell? ⟨n8, 1, none⟩ = some (.slice ra m.rs.length rc) := S.k8.cell 1
          have L1 := run_loadEd S.k9
          clear HK
          have HO := Lib.hid hO1
          clear hO1
          go_wp2_with fail
          refine (apply_any _ m ⟨2, ⟨0, false⟩, r, 0, ⟨0, 0⟩⟩ _ S.mn).mono ?_
          clear e0 e1 L1
          rintro e w4 ⟨v, rfl, hO, g4⟩
          replace S := S.by_ g4
          clear g4
          rcases HO.out with ⟨hft, hA⟩ | ⟨hft, hA⟩
          · clear HO
            rw [hA] at hO ⊢
            clear hA
            obtain ⟨xa, xc, g, off, xd, rfl, hxd, hxm, hM, hR⟩ := mn_more hO.v
            have g5 := gb_alloc (gb_refl w4 none) (.cells #[.slice xa m.ps.length xc, .slice (some ⟨g, off, none⟩) (m.rs.length + 1) xd] 26)
            replace S := S.by_ g5
            have k11 := Bk.new w4 #[.slice xa m.ps.length xc, .slice (some ⟨g, off, none⟩) (m.rs.length + 1) xd] 26
            have F : OrF w w3 nb lc n8 n9 n10 (.slice pa m.ps.length pc) (.slice ra m.rs.length rc) m ⟨2, ⟨0, false⟩, r, 0, ⟨0, 0⟩⟩ f w4.heap.size g (off + m.rs.length * 10) (.slice xa m.ps.length xc) (.slice (some ⟨g, off, none⟩) (m.rs.length + 1) xd) (.slice (some ⟨g, off, none⟩) m.rs.length xd) r (w4.alloc (.cells #[.slice xa m.ps.length xc, .slice (some ⟨g, off, none⟩) (m.rs.length + 1) xd] 26)) :=
              ⟨S, k11, hM.by_ g5, fun k hk => by rw [← hR k hk]; exact gb_cell g5 (World.block_lt_of_cell? _ _ (hR k hk)) (by simp) _⟩
            clear S k11 g5 hM hR hO
            go_upto_region 9 with fail
            generalize w4.alloc _ = W5 at *
            generalize w4.heap.size = n11 at *
            have hw : IntKind.i64.wrap ((m.rs.length : Int) + 1) = (m.rs.length : Int) + 1 := IntWalk.i64_in _ (by omega)
            have hi0 : (0 : Int) ≤ (m.rs.length : Int) := by omega
            have hi1 : (m.rs.length : Int) ≤ (xd : Int) := by omega
            have hi2 : (m.rs.length : Int) < (m.rs.length : Int) + 1 := by omega
            have hi3 : m.rs.length ≤ xd := by omega
            obtain ⟨e0, e1, e2, e3, e4, e5, e6, e7, e8, e9, e10, e11, e12, e13, e14, e15, e16, e17, e18, e19, e20, e21, e22, e23⟩ := F.all
            have FD := F.by_ (gb_drew (gb_refl _ none))
            clear F
            go_region_held3 (fun w' => w'.cell? ⟨n8, 0, none⟩ = some (.slice pa m.ps.length pc) ∧ w'.cell? ⟨n8, 1, none⟩ = some (.slice ra m.rs.length rc) ∧ w'.cell? ⟨n11, 0, none⟩ = some (.slice xa m.ps.length xc) ∧ w'.cell? ⟨n11, 1, none⟩ = some (.slice (some ⟨g, off, none⟩) (m.rs.length + 1) xd) ∧ w'.cell? ⟨g, off + m.rs.length * 10, none⟩ = some (.int .i64 r.f) ∧ w'.cell? ⟨g, off + m.rs.length * 10 + 1, none⟩ = some (.int .i64 r.t) ∧ w'.cell? ⟨g, off + m.rs.length * 10 + 2, none⟩ = some (.int .i64 r.len) ∧ w'.cell? ⟨g, off + m.rs.length * 10 + 3, none⟩ = some (.int .i64 r.area) ∧ w'.cell? ⟨g, off + m.rs.length * 10 + 4, none⟩ = some (.bool r.walk) ∧ w'.cell? ⟨g, off + m.rs.length * 10 + 5, none⟩ = some (.bool r.closed) ∧ w'.cell? ⟨g, off + m.rs.length * 10 + 6, none⟩ = some (.int .i64 r.rest.lo) ∧ w'.cell? ⟨g, off + m.rs.length * 10 + 7, none⟩ = some (.int .i64 r.rest.hi) ∧ w'.cell? ⟨g, off + m.rs.length * 10 + 8, none⟩ = some (.int .i64 r.lift.lo) ∧ w'.cell? ⟨g, off + m.rs.length * 10 + 9, none⟩ = some (.int .i64 r.lift.hi) ∧ w'.cell? ⟨n9, 3, none⟩ = some (.int .i64 r.f) ∧ w'.cell? ⟨n9, 4, none⟩ = some (.int .i64 r.t) ∧ w'.cell? ⟨n9, 5, none⟩ = some (.int .i64 r.len) ∧ w'.cell? ⟨n9, 6, none⟩ = some (.int .i64 r.area) ∧ w'.cell? ⟨n9, 7, none⟩ = some (.bool r.walk) ∧ w'.cell? ⟨n9, 8, none⟩ = some (.bool r.closed) ∧ w'.cell? ⟨n9, 9, none⟩ = some (.int .i64 r.rest.lo) ∧ w'.cell? ⟨n9, 10, none⟩ = some (.int .i64 r.rest.hi) ∧ w'.cell? ⟨n9, 11, none⟩ = some (.int .i64 r.lift.lo) ∧ w'.cell? ⟨n9, 12, none⟩ = some (.int .i64 r.lift.hi))
              (first | (with_reducible exact ⟨e0, e1, e2, e3, e4, e5, e6, e7, e8, e9, e10, e11, e12, e13, e14, e15, e16, e17, e18, e19, e20, e21, e22, e23⟩) | go_keep)
              ((first
                | (go_at_call 20; refine (same_any _ _ m _ FD.m' FD.s.mn).mono ?_; rintro e w6 ⟨rfl, hb⟩; have F6 := FD.by_ (gb_b hb); clear hb; obtain ⟨e0, e1, e2, e3, e4, e5, e6, e7, e8, e9, e10, e11, e12, e13, e14, e15, e16, e17, e18, e19, e20, e21, e22, e23⟩ := F6.all)
                | (go_at_call 15; refine (awake_any _).mono ?_; rintro e w6 ⟨rfl, hb⟩; have F7 := OrF.by_ (by assumption) hb; clear hb; obtain ⟨e0, e1, e2, e3, e4, e5, e6, e7, e8, e9, e10, e11, e12, e13, e14, e15, e16, e17, e18, e19, e20, e21, e22, e23⟩ := F7.all)))
            all_goals go_wp2_with fail
            all_goals go_ret
            all_goals exact ⟨rfl, OrS.g (OrF.s (by assumption))⟩
          · clear HO
            rw [hA] at hO ⊢
            clear hA
            obtain ⟨xa, xc, xb, xd, rfl⟩ := hO.v.shape
            replace S := S.by_ (gb_alloc (gb_refl _ none) (.cells #[.slice xa 0 xc, .slice xb 0 xd] 26))
            clear hO
            go_upto_region 7 with fail
            generalize w4.alloc _ = W5 at *
            have a3 : W5.cell? ⟨n9, 3, none⟩ = some (.int .i64 fi) := by have := S.k9.cell 3; simpa [edL, hr.f] using this
            have a4 : W5.cell? ⟨n9, 4, none⟩ = some (.int .i64 fi) := by have := S.k9.cell 4; simpa [edL, hr.t, hft] using this
            go_wp2_with fail
            refine (awake_any _).mono ?_
            rintro e w13 ⟨rfl, hb⟩
            replace S := S.by_ hb
            clear a3 a4
            go_wp2_with fail
            go_ret
            exact ⟨rfl, S.g⟩
      · rw [decide_eq_false hB]
        have HB := Lib.hid hB
        clear hB
        have e0 : wc.cell? ⟨n8, 0, none⟩ = some (.slice pa m.ps.length pc) := S.k8.cell 0
        have e1 : wc.cell? ⟨n8, 1, none⟩ = some (.slice ra m.rs.length rc) := S.k8.cell 1
        have L1 := run_loadEd S.k9
        go_wp2_with fail
        refine (apply_any _ m d _ S.mn).mono ?_
        clear e0 e1 L1
        rintro e w4 ⟨v, rfl, hO, g4⟩
        have S5 := S.by_ g4
        generalize hA : applyMn m d = A at *
        have HA := Lib.hid hA
        clear hA S
        obtain ⟨mx, cx⟩ := A
        dsimp only at hO ⊢
        obtain ⟨xa, xc, xb, xd, rfl⟩ := hO.v.shape
        replace S5 := S5.by_ (gb_alloc (gb_refl _ none) (.cells #[.slice xa mx.ps.length xc, .slice xb mx.rs.length xd] 26))
        have X5 := hO.v.by_ (gb_alloc (gb_refl _ none) (.cells #[.slice xa mx.ps.length xc, .slice xb mx.rs.length xd] 26))
        have k13 := Bk.new w4 #[.slice xa mx.ps.length xc, .slice xb mx.rs.length xd] 26
        clear hO g4
        go_upto_region 11 with fail
        generalize w4.alloc _ = W5 at *
        generalize w4.heap.size = n13 at *
        have e0 : W5.cell? ⟨n8, 0, none⟩ = some (.slice pa m.ps.length pc) := S5.k8.cell 0
        have e1 : W5.cell? ⟨n8, 1, none⟩ = some (.slice ra m.rs.length rc) := S5.k8.cell 1
        have L1 := run_loadEd S5.k10
        go_wp2_with fail
        refine (apply_any _ m f _ S5.mn).mono ?_
        clear e0 e1 L1
        rintro e w6 ⟨v, rfl, hO, g6⟩
        have S7 := S5.by_ g6
        replace X5 := X5.by_ g6
        replace k13 := k13.of g6 (by simp)
        generalize hA : applyMn m f = A at *
        have HA2 := Lib.hid hA
        clear hA S5
        obtain ⟨my, cy⟩ := A
        dsimp only at hO ⊢
        obtain ⟨ya, yc, yb, yd, rfl⟩ := hO.v.shape
        have g7 := gb_alloc (gb_refl w6 none) (.cells #[.slice ya my.ps.length yc, .slice yb my.rs.length yd] 26)
        replace S7 := S7.by_ g7
        replace X5 := X5.by_ g7
        replace k13 := k13.of g7 (by simp)
        have Y7 := hO.v.by_ g7
        have k15 := Bk.new w6 #[.slice ya my.ps.length yc, .slice yb my.rs.length yd] 26
        clear hO g6 g7
        go_upto_region 12 with fail
        generalize w6.alloc _ = W7 at *
        generalize w6.heap.size = n15 at *
        by_cases z1 : cx = 0
        · subst z1
          by_cases z2 : cy = 0
          · subst z2
            go_upto_region 14 with fail
            have e0 : W7.cell? ⟨n13, 0, none⟩ = some (.slice xa mx.ps.length xc) := k13.cell 0
            have e1 : W7.cell? ⟨n13, 1, none⟩ = some (.slice xb mx.rs.length xd) := k13.cell 1
            have L1 := run_loadEd S7.k10
            go_wp2_with fail
            refine (apply_any _ mx f _ X5).mono ?_
            clear e0 e1 L1
            rintro e w8 ⟨v, rfl, hO, g8⟩
            replace S7 := S7.by_ g8
            replace Y7 := Y7.by_ g8
            replace k15 := k15.of g8 (by simp)
            clear X5 k13
            generalize hA : applyMn mx f = A at *
            have HA3 := Lib.hid hA
            clear hA
            obtain ⟨mp, cp⟩ := A
            dsimp only at hO ⊢
            obtain ⟨pa', pc', pb', pd', rfl⟩ := hO.v.shape
            have g9 := gb_alloc (gb_refl w8 none) (.cells #[.slice pa' mp.ps.length pc', .slice pb' mp.rs.length pd'] 26)
            replace S7 := S7.by_ g9
            replace Y7 := Y7.by_ g9
            replace k15 := k15.of g9 (by simp)
            have P9 := hO.v.by_ g9
            have k17 := Bk.new w8 #[.slice pa' mp.ps.length pc', .slice pb' mp.rs.length pd'] 26
            clear hO g8 g9
            go_upto_region 15 with fail
            generalize w8.alloc _ = W9 at *
            generalize w8.heap.size = n17 at *
            have e0 : W9.cell? ⟨n15, 0, none⟩ = some (.slice ya my.ps.length yc) := k15.cell 0
            have e1 : W9.cell? ⟨n15, 1, none⟩ = some (.slice yb my.rs.length yd) := k15.cell 1
            have L1 := run_loadEd S7.k9
            go_wp2_with fail
            refine (apply_any _ my d _ Y7).mono ?_
            clear e0 e1 L1
            rintro e w10 ⟨v, rfl, hO, g10⟩
            replace S7 := S7.by_ g10
            replace P9 := P9.by_ g10
            replace k17 := k17.of g10 (by simp)
            clear Y7 k15
            have hE : cp = 0 ∧ applyMn my d = (mp, 0) := by
              have hB := HB.out
              have hA1 := HA.out
              have hA2 := HA2.out
              have hA3 := HA3.out
              have o := orders (m := m) (e := d) (f := f) (by omega) (by omega) (by omega) (by rw [hA1]) (by rw [hA2])
              rw [hA1, hA2] at o
              dsimp only at o
              rw [hA3] at o
              exact ⟨o.1, Prod.ext o.2.2 o.2.1⟩
            obtain ⟨rfl, hE⟩ := hE
            rw [hE] at hO
            rw [hE]
            clear hE HA HA2 HA3 HB
            dsimp only at hO ⊢
            obtain ⟨qa', qc', qb', qd', rfl⟩ := hO.v.shape
            have g11 := gb_alloc (gb_refl w10 none) (.cells #[.slice qa' mp.ps.length qc', .slice qb' mp.rs.length qd'] 26)
            replace S7 := S7.by_ g11
            replace P9 := P9.by_ g11
            replace k17 := k17.of g11 (by simp)
            have Q9 := hO.v.by_ g11
            have k19 := Bk.new w10 #[.slice qa' mp.ps.length qc', .slice qb' mp.rs.length qd'] 26
            clear hO g10 g11
            go_upto_region 16 with fail
            generalize w10.alloc _ = W11 at *
            generalize w10.heap.size = n19 at *
            have e0 : W11.cell? ⟨n17, 0, none⟩ = some (.slice pa' mp.ps.length pc') := k17.cell 0
            have e1 : W11.cell? ⟨n17, 1, none⟩ = some (.slice pb' mp.rs.length pd') := k17.cell 1
            have e2 : W11.cell? ⟨n19, 0, none⟩ = some (.slice qa' mp.ps.length qc') := k19.cell 0
            have e3 : W11.cell? ⟨n19, 1, none⟩ = some (.slice qb' mp.rs.length qd') := k19.cell 1
            go_wp2_with fail
            refine (same_any _ _ mp _ P9 Q9).mono ?_
            clear e0 e1 e2 e3 P9 Q9 k17 k19
            rintro e w12 ⟨rfl, hb⟩
            replace S7 := S7.by_ (gb_b hb)
            clear hb
            go_wp2_with fail
            refine (awake_any _).mono ?_
            rintro e w13 ⟨rfl, hb⟩
            replace S7 := S7.by_ hb
            go_wp2_with fail
            go_ret
            exact ⟨rfl, S7.g⟩
          · have z2' : (cy != 0) = true := by simpa using z2
            have z2'' : decide (cy = 0) = false := by simpa using z2
            have z2''' : (cy == 0) = false := by simpa using z2
            go_wp2_with fail
            refine (awake_any _).mono ?_
            rintro e w13 ⟨rfl, hb⟩
            replace S7 := S7.by_ hb
            go_wp2_with fail
            go_ret
            exact ⟨rfl, S7.g⟩
        · have z1' : (cx != 0) = true := by simpa using z1
          have z1'' : decide (cx = 0) = false := by simpa using z1
          have z1''' : (cx == 0) = false := by simpa using z1
          go_wp2_with fail
          refine (awake_any _).mono ?_
          rintro e w13 ⟨rfl, hb⟩
          replace S7 := S7.by_ hb
          go_wp2_with fail
          go_ret
          exact ⟨rfl, S7.g⟩
end Go.Proofs.Ytbiikgkfklhohaa
