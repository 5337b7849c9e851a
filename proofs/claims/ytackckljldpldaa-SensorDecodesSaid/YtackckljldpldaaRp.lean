/- Stage 5, the program's Raw. -/
import Derived.Test.YtackckljldpldaaWa
import Derived.Test.YtackckljldpldaaSs
import Derived.Test.YtackckljldpldaaRm
namespace Go.Proofs.Ytackckljldpldaa
open Go.RowKit
attribute [local go_sem ↓] Go.wp_at_zero Go.wp_at_succ loadAt_s

theorem pVal_w (s : Sn) (raw : Int) (w : World) (h1 : -9223372036854775808 ≤ raw) (h2 : raw ≤ 9223372036854775807) :
    Calls Try.prog 17 #[snV s, .int .i64 raw] w fun e w' => e = .returned (.agg #[.int .i64 (valSn s raw).1, .int .i64 (valSn s raw).2]) ∧ w.grownBy w' none := pVal_any s raw w h1 h2
theorem pCk_w (s : Sn) (w : World) : Calls Try.prog 44 #[snV s] w fun e w' => e = .returned (.int .i64 (ckSn s)) ∧ w.grownBy w' none := pCk_any s w
theorem cell_by {W W' : World} {b o : Nat} {x : Value} (h : W.cell? ⟨b, o, none⟩ = some x) (q : W.grownBy W' none) : W'.cell? ⟨b, o, none⟩ = some x := by
  rw [← h]; exact gb_cell q (World.block_lt_of_cell? _ _ h) (by simp) _

theorem fld0 (x y : Int) (w : World) : (Instr.field 29 (.agg #[.int .i64 x, .int .i64 y]) 0).run Try.prog w = .ok (.int .i64 x) w := by kernel_rfl
theorem fld1 (x y : Int) (w : World) : (Instr.field 29 (.agg #[.int .i64 x, .int .i64 y]) 1).run Try.prog w = .ok (.int .i64 y) w := by kernel_rfl
/-- What the closure of Raw reads. -/
structure RcS (w : World) (b2 b3 : Nat) (s : Sn) (v : Int) (W : World) : Prop where
  s2 : SnAt W b2 0 s
  c3 : W.cell? ⟨b3, 0, none⟩ = some (.int .i64 v)
  g : w.grownBy W none
theorem RcS.by_ {w : World} {b2 b3 : Nat} {s : Sn} {v : Int} {W W' : World} (h : RcS w b2 b3 s v W) (o : W.grownBy W' none) : RcS w b2 b3 s v W' := ⟨h.s2.by_ o, cell_by h.c3 o, gb_none h.g o⟩
theorem RcS.all {w : World} {b2 b3 : Nat} {s : Sn} {v : Int} {W : World} (h : RcS w b2 b3 s v W) : (loadS (.pointer (some ⟨b2, 0, none⟩))).run Try.prog W = .ok (snV s) W ∧ W.cell? ⟨b3, 0, none⟩ = some (.int .i64 v) ∧ RcS w b2 b3 s v W := ⟨run_loadS h.s2, h.c3, h⟩

set_option maxRecDepth 100000 in
set_option maxHeartbeats 4000000 in
theorem rawCl_any (b6 b2 b3 : Nat) (s : Sn) (v i : Int) (W : World) (h6 : W.cell? ⟨b6, 0, none⟩ = some (.bool (fallsSn s))) (h2 : SnAt W b2 0 s) (h3 : W.cell? ⟨b3, 0, none⟩ = some (.int .i64 v)) (hi : 0 ≤ i ∧ i ≤ 65535) :
    Calls Try.prog 58 #[.int .i64 i, .pointer (some ⟨b6, 0, none⟩), .pointer (some ⟨b2, 0, none⟩), .pointer (some ⟨b3, 0, none⟩)] W fun e w' => e = .returned (.bool (pRaw s v i)) ∧ W.grownBy w' none := by
  have hS0 := RcS.all (RcS.by_ (⟨h2, h3, gb_refl W none⟩ : RcS W b2 b3 s v W) (gb_drew (gb_refl W none)))
  have PV := Lib.hid (fun w => pVal_w s i w (by omega) (by omega))
  obtain ⟨p, hp⟩ : ∃ p, valSn s i = p := ⟨_, rfl⟩
  obtain ⟨x, y⟩ := p
  have hpr : pRaw s v i = if fallsSn s then decide (x ≤ v) else decide (v ≤ y) := by unfold pRaw; rw [hp]
  rw [hp] at PV
  rw [hpr]
  dsimp only at PV
  clear hp hpr h2 h3
  have hf0 := fld0 x y
  have hf1 := fld1 x y
  cases hf : fallsSn s with
  | true =>
    rw [hf] at h6
    clear hf
    go_enter Try.func58, Try.ntmps58
    go_wp2_with fail
    go_region_held3 (fun w' => (loadS (.pointer (some ⟨b2, 0, none⟩))).run Try.prog w' = .ok (snV s) w' ∧ w'.cell? ⟨b3, 0, none⟩ = some (.int .i64 v) ∧ RcS W b2 b3 s v w')
      (first | (with_reducible exact hS6) | (with_reducible exact hS0) | fail)
      ((first
        | (go_at_call 17; (with_reducible refine (PV.out _).mono ?_); rintro e w6 ⟨rfl, hg6⟩; have hS6 := RcS.all (RcS.by_ (And.right (And.right (by assumption))) hg6); clear hg6)
        | fail))
    all_goals
      go_wp2_with fail
      go_ret
      exact ⟨by first | rfl | simp, hS6.2.2.g⟩
  | false =>
    rw [hf] at h6
    clear hf
    go_enter Try.func58, Try.ntmps58
    go_wp2_with fail
    go_region_held3 (fun w' => (loadS (.pointer (some ⟨b2, 0, none⟩))).run Try.prog w' = .ok (snV s) w' ∧ w'.cell? ⟨b3, 0, none⟩ = some (.int .i64 v) ∧ RcS W b2 b3 s v w')
      (first | (with_reducible exact hS6) | (with_reducible exact hS0) | fail)
      ((first
        | (go_at_call 17; (with_reducible refine (PV.out _).mono ?_); rintro e w6 ⟨rfl, hg6⟩; have hS6 := RcS.all (RcS.by_ (And.right (And.right (by assumption))) hg6); clear hg6)
        | fail))
    all_goals
      go_wp2_with fail
      go_ret
      exact ⟨by first | rfl | simp, hS6.2.2.g⟩

/-- While Raw searches: the sensor, the value, whether it falls. -/
structure RwS (w : World) (s : Sn) (v : Int) (W : World) : Prop where
  s2 : SnAt W w.heap.size 0 s
  c3 : W.cell? ⟨w.heap.size + 1, 0, none⟩ = some (.int .i64 v)
  g : w.grownBy W none
theorem RwS.by_ {w : World} {s : Sn} {v : Int} {W W' : World} (h : RwS w s v W) (o : W.grownBy W' none) : RwS w s v W' := ⟨h.s2.by_ o, cell_by h.c3 o, gb_none h.g o⟩
theorem falls_of (s : Sn) (c : s.scale < 0) : fallsSn s = !decide (s.kind = 4 ∨ s.kind = 5 ∨ s.kind = 6) := by unfold fallsSn; rw [decide_eq_true c, Bool.true_and]
theorem falls_no (s : Sn) (c : ¬ s.scale < 0) : fallsSn s = false := by unfold fallsSn; rw [decide_eq_false c, Bool.false_and]

set_option maxRecDepth 100000 in
set_option maxHeartbeats 8000000 in
theorem pRaw_any (s : Sn) (v : Int) (w : World) :
    Calls Try.prog 27 #[.agg (senL s).toArray, .int .i64 v] w fun e w' => e = .returned (.tuple #[.int .i64 (rawSn s v).1, .bool (rawSn s v).2]) ∧ w.grownBy w' none := by
  have S1 : RwS w s v ((w.alloc (.cells (senL s).toArray 24)).alloc (.cells #[.int .i64 v] 3)) := by
    have k := Bk.new (w.alloc (.cells (senL s).toArray 24)) #[.int .i64 v] 3
    rw [World.size_alloc] at k
    exact ⟨(Bk.snAt (Bk.new w _ _)).by_ (gb_alloc (gb_refl _ none) _), k.cell 0, gb_alloc (gb_alloc (gb_refl _ _) _) _⟩
  obtain ⟨rr, hrr⟩ : ∃ rr, rawSn s v = rr := ⟨_, rfl⟩
  rw [hrr]
  have HRR := Lib.hid hrr
  have HS1 := Lib.hid S1
  have HC := Lib.hid (pCk_w s)
  obtain ⟨ck, hck⟩ : ∃ ck, ckSn s = ck := ⟨_, rfl⟩
  rw [hck] at HC
  have HCK := Lib.hid hck
  have HFT := Lib.hid (falls_of s)
  have HFN := Lib.hid (falls_no s)
  clear hrr S1 hck
  unfold senL at HS1 ⊢
  go_enter Try.func27, Try.ntmps27
  go_upto_region 1 with fail
  generalize (w.alloc _).alloc _ = W1 at *
  have L1 := run_loadS HS1.out.s2
  go_wp2_with fail
  refine (HC.out _).mono ?_
  rintro e W2 ⟨rfl, hg⟩
  have HS2 := Lib.hid (HS1.out.by_ hg)
  clear hg HS1 L1
  by_cases c0 : ck = 0
  · subst c0
    have e1 : W2.cell? ⟨w.heap.size, 1, none⟩ = some (.int .i64 s.kind) := HS2.out.s2.2.1
    have e4 : W2.cell? ⟨w.heap.size, 4, none⟩ = some (.int .i64 s.scale) := HS2.out.s2.2.2.2.2.1
    go_upto_region 3 with fail
    go_cut [6] from 6 to 20 (fun t wx => ∃ b6, t = .pointer (some ⟨b6, 0, none⟩) ∧ wx.cell? ⟨b6, 0, none⟩ = some (.bool (fallsSn s)) ∧ W2.grownBy wx none)
    case first =>
      by_cases c1 : s.scale < 0
      · have c1' : decide (s.scale < 0) = true := by simpa using c1
        have HT := Lib.hid (fun w => tells_any s.kind w)
        have hft := HFT.out c1
        obtain ⟨st, hst⟩ : ∃ st, decide (s.kind = 4 ∨ s.kind = 5 ∨ s.kind = 6) = st := ⟨_, rfl⟩
        rw [hst] at hft HT
        clear hst
        go_wp2_with fail
        refine (HT.out _).mono ?_
        rintro e w' ⟨rfl, hw'⟩
        subst hw'
        have k9 := Bk.new w' #[.bool !st] 4
        have g9 := gb_alloc (gb_refl w' none) (.cells #[.bool !st] 4)
        go_wp2_with fail
        go_meet
        exact ⟨_, rfl, by rw [hft]; exact k9.cell 0, g9⟩
      · have c1' : decide (s.scale < 0) = false := by simpa using c1
        have hft := HFN.out (Int.not_lt.1 c1)
        have k9 := Bk.new W2 #[.bool false] 4
        have g9 := gb_alloc (gb_refl W2 none) (.cells #[.bool false] 4)
        go_wp2_with fail
        go_meet
        exact ⟨_, rfl, by rw [hft]; exact k9.cell 0, g9⟩
    case rest =>
      obtain ⟨b6, rfl, h6, hgc⟩ := hcut
      have HS3 := Lib.hid (HS2.out.by_ hgc)
      have H6 := Lib.hid h6
      clear hgc e1 e4 h6 HS2
      have e1 : wc.cell? ⟨w.heap.size, 1, none⟩ = some (.int .i64 s.kind) := HS3.out.s2.2.1
      obtain ⟨gr, hgr⟩ : ∃ gr, grk s.kind = gr := ⟨_, rfl⟩
      have hgb := grk_le s.kind
      rw [hgr] at hgb
      obtain ⟨n, rfl⟩ : ∃ n : Nat, gr = (n : Int) := ⟨gr.toNat, by omega⟩
      have HGR := Lib.hid hgr
      clear hgr
      have HSR := Lib.hid (search_any 58 #[.pointer (some ⟨b6, 0, none⟩), .pointer (some ⟨w.heap.size, 0, none⟩), .pointer (some ⟨w.heap.size + 1, 0, none⟩)] n (fun i => pRaw s v (i : Int)) wc (fun _ _ => rfl) (by omega)
        (fun i W hi hW => rawCl_any b6 w.heap.size (w.heap.size + 1) s v (i : Int) W (cell_by H6.out hW) (HS3.out.s2.by_ hW) (cell_by HS3.out.c3 hW) (by omega))
        (fun a b hab hb hp => raw_mono HCK.out v (by omega) (by omega) (by rw [HGR.out]; omega) hp))
      go_wp2_with fail
      refine (greatest_any s.kind _).mono ?_
      rintro e w' ⟨rfl, hw'⟩
      subst hw'
      rw [HGR.out]
      go_wp2_with fail
      refine HSR.out.mono ?_
      rintro e W4 ⟨⟨r, rfl, hrn, hr1, hr2⟩, hg4⟩
      have HS4 := Lib.hid (HS3.out.by_ hg4)
      have HRES := Lib.hid (raw_res HCK.out v (r : Int) (by omega) (by rw [HGR.out]; omega)
        (fun t h1 h2 => by obtain ⟨k, rfl⟩ : ∃ k : Nat, t = (k : Int) := ⟨t.toNat, by omega⟩; exact hr1 k (by omega))
        (fun t h1 h2 => by obtain ⟨k, rfl⟩ : ∃ k : Nat, t = (k : Int) := ⟨t.toNat, by omega⟩; rw [HGR.out] at h2; exact hr2 k (by omega) (by omega)))
      clear hg4 HS3 HSR H6 e1 hr1 hr2
      obtain ⟨p, hp⟩ : ∃ p, valSn s (r : Int) = p := ⟨_, rfl⟩
      obtain ⟨x, y⟩ := p
      rw [hp] at HRES
      have PV := Lib.hid (fun w => pVal_w s (r : Int) w (by omega) (by omega))
      rw [hp] at PV
      dsimp only at PV HRES
      clear hp
      have L4 := run_loadS HS4.out.s2
      go_wp2_with fail
      refine (PV.out _).mono ?_
      rintro e W5 ⟨rfl, hg5⟩
      have k6 := Bk.new W5 #[.int .i64 x, .int .i64 y] 29
      have g6 := gb_alloc hg5 (.cells #[.int .i64 x, .int .i64 y] 29)
      have HS6 := Lib.hid (HS4.out.by_ g6)
      have K6 := Lib.hid k6
      clear L4 HS4 hg5 g6 k6 PV
      go_upto_region 6 with fail
      generalize W5.alloc _ = W6 at *
      generalize W5.heap.size = n8 at *
      have x0 : W6.cell? ⟨n8, 0, none⟩ = some (.int .i64 x) := K6.out.cell 0
      have x1 : W6.cell? ⟨n8, 1, none⟩ = some (.int .i64 y) := K6.out.cell 1
      have x3 : W6.cell? ⟨w.heap.size + 1, 0, none⟩ = some (.int .i64 v) := HS6.out.c3
      go_wp2_with fail
      refine (win1 x y v _ _ rfl _).mono ?_
      rintro e W7 ⟨rfl, hg7⟩
      have HG7 := Lib.hid (gb_none HS6.out.g hg7)
      clear hg7 x0 x1 x3
      by_cases c1 : x ≤ v ∧ v ≤ y
      · rw [decide_eq_true c1]
        have he2 : rr = ((r : Int), true) := by rw [← HRR.out, HRES.out, if_pos c1]
        subst he2
        go_wp2_with fail
        refine bodyPost_ret (v := .tuple #[.int .i64 r, .bool true]) (by simp [results, Try.results27, go_sem]) rfl ?_
        exact ⟨rfl, HG7.out⟩
      · rw [decide_eq_false c1]
        have he2 : rr = (0, false) := by rw [← HRR.out, HRES.out, if_neg c1]
        subst he2
        go_wp2_with fail
        refine bodyPost_ret (v := .tuple #[.int .i64 0, .bool false]) (by simp [results, Try.results27, go_sem]) rfl ?_
        exact ⟨rfl, HG7.out⟩
  · have c0' : (ck != 0) = true := bne_iff_ne.2 c0
    have he2 : rr = (0, false) := by rw [← HRR.out]; exact raw_bad (by rw [HCK.out]; exact c0) v
    subst he2
    go_wp2_with fail
    refine bodyPost_ret (v := .tuple #[.int .i64 0, .bool false]) (by simp [results, Try.results27, go_sem]) rfl ?_
    exact ⟨rfl, HS2.out.g⟩
end Go.Proofs.Ytackckljldpldaa
