/- The statement SensorDecodes: the walk. -/
import Derived.Test.YtackckljldpldaaRd
import Derived.Test.YtackckljldpldaaNs
namespace Go.Proofs.Ytackckljldpldaa
open Go.RowKit
attribute [local go_sem ↓] Go.wp_at_zero Go.wp_at_succ

/-- Bytes do not lie in the codes' block. -/
theorem sl_drawB {W W' : World} {b : Nat} {l : List Nat} {j : Nat} {v : Value} {n : Nat} {d : List Nat} (h : Sl W v 1 n (bytes d)) (c : CdAt W b l j) (o : W.grownBy W' (some b)) : Sl W' v 1 n (bytes d) := by
  refine h.draw o fun off hc => ?_
  by_cases hn : n = 0
  · exact hn
  · exfalso
    have h0 := hc 0 (by omega)
    have hl : d.length = n := by have := h.1; rw [bytes_len] at this; omega
    obtain ⟨a, cap, k⟩ := c.bk
    rw [Nat.add_zero, k.cell off] at h0
    have hx : (bytes d).getD 0 undef = .int .u8 ((d.getD 0 0 : Nat) : Int) := by
      simp [bytes, List.getD_eq_getElem?_getD, show 0 < d.length by omega]
    rw [hx] at h0
    match off with
    | 0 => cases h0
    | 1 => cases h0
    | off + 2 => simp at h0
/-- The given telegram, the codes, the drawn sensors. -/
structure FdS (w : World) (b : Nat) (l : List Nat) (x y z : Value) (nS : Nat) (s1 s2 s3 : Sn) (W : World) : Prop where
  k6 : Bk W w.heap.size #[x, y, z] 34
  cd : ∃ j, CdAt W b l j
  kS : Bk W nS (senL s1 ++ senL s2 ++ senL s3).toArray 24
  g : w.grownBy W none
  lb : w.heap.size < b
  ls : b < nS
theorem FdS.draw {w : World} {b : Nat} {l : List Nat} {x y z : Value} {nS : Nat} {s1 s2 s3 : Sn} {W W' : World} (h : FdS w b l x y z nS s1 s2 s3 W) (c : ∃ j, CdAt W' b l j) (o : W.grownBy W' (some b)) : FdS w b l x y z nS s1 s2 s3 W' := by
  have h1 := h.lb
  have h2 := h.ls
  exact ⟨h.k6.of o (by simp; omega), c, h.kS.of o (by simp; omega), gb_new h.g o (by omega), h.lb, h.ls⟩
theorem FdS.by_ {w : World} {b : Nat} {l : List Nat} {x y z : Value} {nS : Nat} {s1 s2 s3 : Sn} {W W' : World} (h : FdS w b l x y z nS s1 s2 s3 W) (o : W.grownBy W' none) : FdS w b l x y z nS s1 s2 s3 W' := by
  obtain ⟨j, c⟩ := h.cd
  exact ⟨h.k6.of o (by simp), ⟨j, c.keep o (fun g e => by cases e)⟩, h.kS.of o (by simp), gb_none h.g o, h.lb, h.ls⟩
theorem FdS.all {w : World} {b : Nat} {l : List Nat} {x y z : Value} {nS : Nat} {s1 s2 s3 : Sn} {W : World} (h : FdS w b l x y z nS s1 s2 s3 W) : W.cell? ⟨w.heap.size, 0, none⟩ = some x ∧ W.cell? ⟨w.heap.size, 1, none⟩ = some y ∧ W.cell? ⟨w.heap.size, 2, none⟩ = some z ∧ FdS w b l x y z nS s1 s2 s3 W := ⟨h.k6.cell 0, h.k6.cell 1, h.k6.cell 2, h⟩
theorem sl_three {W : World} {n : Nat} {s1 s2 s3 : Sn} (k : Bk W n (senL s1 ++ senL s2 ++ senL s3).toArray 24) : Sl W (.slice (some ⟨n, 0, none⟩) 3 3) 8 [s1, s2, s3].length ([s1, s2, s3].flatMap senL) := by
  refine ⟨rfl, .inr ⟨n, 0, 3, rfl, Nat.le_refl _, by decide, fun j hj => ?_⟩⟩
  rw [Nat.zero_add, k.cell j, List.getElem?_toArray, List.getD_eq_getElem?_getD]
  have hj' : j < 24 := hj
  have e : senL s1 ++ senL s2 ++ senL s3 = [s1, s2, s3].flatMap senL := by simp
  rw [e]
  rw [List.getElem?_eq_getElem (by simpa [senL] using hj')]
  rfl
/-- The lists and the telegrams. -/
structure DlS (w : World) (lv rv : Value) (L R : List Sn) (nF : Nat) (a0 k0 a1 k1 a2 k2 : Int) (v0 v1 v2 : Value) (d0 d1 d2 : List Nat) (W : World) : Prop where
  sl : Sl W lv 8 L.length (L.flatMap senL)
  sr : Sl W rv 8 R.length (R.flatMap senL)
  f0 : Sl W v0 1 d0.length (bytes d0)
  f1 : Sl W v1 1 d1.length (bytes d1)
  f2 : Sl W v2 1 d2.length (bytes d2)
  kF : Bk W nF #[.int .i64 a0, .int .i64 k0, v0, .int .i64 a1, .int .i64 k1, v1, .int .i64 a2, .int .i64 k2, v2] 34
  g : w.grownBy W none
theorem DlS.by_ {w : World} {lv rv : Value} {L R : List Sn} {nF : Nat} {a0 k0 a1 k1 a2 k2 : Int} {v0 v1 v2 : Value} {d0 d1 d2 : List Nat} {W W' : World} (h : DlS w lv rv L R nF a0 k0 a1 k1 a2 k2 v0 v1 v2 d0 d1 d2 W) (o : W.grownBy W' none) : DlS w lv rv L R nF a0 k0 a1 k1 a2 k2 v0 v1 v2 d0 d1 d2 W' := ⟨h.sl.by_ o, h.sr.by_ o, h.f0.by_ o, h.f1.by_ o, h.f2.by_ o, h.kF.of o (by simp), gb_none h.g o⟩

/-- And one telegram's copy, the two lists. -/
structure DbS (w : World) (lv rv : Value) (L R : List Sn) (nF : Nat) (a0 k0 a1 k1 a2 k2 : Int) (v0 v1 v2 : Value) (d0 d1 d2 : List Nat) (nf : Nat) (x y z : Value) (nl : Nat) (W : World) : Prop where
  dl : DlS w lv rv L R nF a0 k0 a1 k1 a2 k2 v0 v1 v2 d0 d1 d2 W
  kf : Bk W nf #[x, y, z] 34
  kl : Bk W nl #[lv, rv] 27
section
variable {w : World} {lv rv : Value} {L R : List Sn} {nF : Nat} {a0 k0 a1 k1 a2 k2 : Int} {v0 v1 v2 : Value} {d0 d1 d2 : List Nat} {nf : Nat} {x y z : Value} {nl : Nat} {W W' : World}
theorem DbS.by_ (h : DbS w lv rv L R nF a0 k0 a1 k1 a2 k2 v0 v1 v2 d0 d1 d2 nf x y z nl W) (o : W.grownBy W' none) : DbS w lv rv L R nF a0 k0 a1 k1 a2 k2 v0 v1 v2 d0 d1 d2 nf x y z nl W' := ⟨h.dl.by_ o, h.kf.of o (by simp), h.kl.of o (by simp)⟩
theorem DbS.c0 (h : DbS w lv rv L R nF a0 k0 a1 k1 a2 k2 v0 v1 v2 d0 d1 d2 nf x y z nl W) : W.cell? ⟨nf, 0, none⟩ = some x := h.kf.cell 0
theorem DbS.c1 (h : DbS w lv rv L R nF a0 k0 a1 k1 a2 k2 v0 v1 v2 d0 d1 d2 nf x y z nl W) : W.cell? ⟨nf, 1, none⟩ = some y := h.kf.cell 1
theorem DbS.c2 (h : DbS w lv rv L R nF a0 k0 a1 k1 a2 k2 v0 v1 v2 d0 d1 d2 nf x y z nl W) : W.cell? ⟨nf, 2, none⟩ = some z := h.kf.cell 2
theorem DbS.l0 (h : DbS w lv rv L R nF a0 k0 a1 k1 a2 k2 v0 v1 v2 d0 d1 d2 nf x y z nl W) : W.cell? ⟨nl, 0, none⟩ = some lv := h.kl.cell 0
theorem DbS.l1 (h : DbS w lv rv L R nF a0 k0 a1 k1 a2 k2 v0 v1 v2 d0 d1 d2 nf x y z nl W) : W.cell? ⟨nl, 1, none⟩ = some rv := h.kl.cell 1
end

set_option maxRecDepth 100000 in
set_option maxHeartbeats 64000000 in
theorem decodes_walk (cv rv : Value) (lc : List Nat) (R : List Sn) (ad kd : Int) (dv : Value) (dt : List Nat) (time : Int) (w : World) (hc : Sl w cv 1 lc.length (bytes lc)) (hb : ∀ x ∈ lc, x < 256) (hr : Sl w rv 8 R.length (R.flatMap senL)) (hd : Sl w dv 1 dt.length (bytes dt)) (hdb : ∀ x ∈ dt, x < 256) (ht1 : -9223372036854775808 ≤ time) (ht2 : time ≤ 9223372036854775807) :
    Calls Try.prog 4 #[cv, rv, .agg #[.int .i64 ad, .int .i64 kd, dv], .int .i64 time] w fun e w' => e = .returned (.bool true) ∧ w.grownBy w' none := by
  obtain ⟨a, cap, rfl, _, _, _⟩ := hc.shape
  obtain ⟨ra, rcap, rfl, hrn, hrm, _⟩ := hr.shape
  obtain ⟨da, dcap, rfl, hdn, hdm, _⟩ := hd.shape
  unfold maxLen at hrm hdm
  have g1 := gb_alloc (gb_refl w none) (.cells #[.int .i64 ad, .int .i64 kd, .slice da dt.length dcap] 34)
  have HK1 := Lib.hid (Bk.new w #[.int .i64 ad, .int .i64 kd, .slice da dt.length dcap] 34)
  have HN := Lib.hid (new_sl _ lc _ (hc.by_ g1) hb)
  have HG1 := Lib.hid g1
  have HSR := Lib.hid hr
  have HSD := Lib.hid hd
  have HDB := Lib.hid hdb
  obtain ⟨tm, htm⟩ : ∃ tm, time % 1000 = tm := ⟨_, rfl⟩
  have MT := Lib.hid (fun w => mod_pos time 1000 w (by omega) ht1 ht2 (by omega))
  rw [htm] at MT
  clear g1 hc hb hr hd hdb ht1 ht2 htm
  go_enter Try.func4, Try.ntmps4
  go_upto_region 1 with fail
  generalize w.alloc _ = W1 at *
  have f2 : W1.cell? ⟨w.heap.size, 2, none⟩ = some (.slice da dt.length dcap) := HK1.out.cell 2
  by_cases e1 : 20 < R.length
  · have e1' : decide ((20 : Int) < (R.length : Int)) = true := decide_eq_true (by omega)
    go_wp2_with fail
    refine (awake_any _).mono ?_
    rintro e W2 ⟨rfl, hg⟩
    go_wp2_with fail
    go_ret
    exact ⟨rfl, gb_none HG1.out hg⟩
  · have e1' : decide ((20 : Int) < (R.length : Int)) = false := decide_eq_false (by omega)
    by_cases e2 : 100 < dt.length
    · have e2' : decide ((100 : Int) < (dt.length : Int)) = true := decide_eq_true (by omega)
      go_wp2_with fail
      refine (awake_any _).mono ?_
      rintro e W2 ⟨rfl, hg⟩
      go_wp2_with fail
      go_ret
      exact ⟨rfl, gb_none HG1.out hg⟩
    · have e2' : decide ((100 : Int) < (dt.length : Int)) = false := decide_eq_false (by omega)
      go_wp2_with fail
      refine HN.out.mono ?_
      rintro e W2 ⟨rfl, ⟨l3, hcd⟩, hg⟩
      have HK := Lib.hid (HK1.out.of hg (by simp))
      have HG := Lib.hid (gb_none HG1.out hg)
      have HC := Lib.hid hcd
      have hlb : w.heap.size < W1.heap.size := HK1.out.lt
      clear hg hcd HN HK1 HG1 f2 e1' e2'
      generalize W1.heap.size = b at *
      go_wp2_with fail
      refine (range_ex b l3 _ 1 6 _ HC.out (by omega) (by omega) (by omega)).mono ?_
      rintro e x1 ⟨k1, ja1, rfl, -, -, c1, ho⟩
      have HK := Lib.hid (HK.out.of (gb_only ho) (by simp; omega))
      have HG := Lib.hid (gb_new HG.out (gb_only ho) (by omega))
      have HC := Lib.hid c1
      clear ho c1
      go_wp2_with fail
      refine (next_ex b l3 _ 3 _ HC.out (by omega) (by omega)).mono ?_
      rintro e y1 ⟨m1, jb1, rfl, p1, q1, c1, ho⟩
      have HK := Lib.hid (HK.out.of (gb_only ho) (by simp; omega))
      have HG := Lib.hid (gb_new HG.out (gb_only ho) (by omega))
      have HC := Lib.hid c1
      clear ho c1
      go_wp2_with fail
      refine (sensor_any b l3 _ k1 m1 0 _ HC.out).mono ?_
      rintro e z1 ⟨s1, rfl, -, -, -, ⟨jc1, c1⟩, ho⟩
      have HK := Lib.hid (HK.out.of ho (by simp; omega))
      have HG := Lib.hid (gb_new HG.out ho (by omega))
      have HC := Lib.hid c1
      clear ho c1
      go_wp2_with fail
      refine (range_ex b l3 _ 1 6 _ HC.out (by omega) (by omega) (by omega)).mono ?_
      rintro e x2 ⟨k2, ja2, rfl, -, -, c1, ho⟩
      have HK := Lib.hid (HK.out.of (gb_only ho) (by simp; omega))
      have HG := Lib.hid (gb_new HG.out (gb_only ho) (by omega))
      have HC := Lib.hid c1
      clear ho c1
      go_wp2_with fail
      refine (next_ex b l3 _ 3 _ HC.out (by omega) (by omega)).mono ?_
      rintro e y2 ⟨m2, jb2, rfl, p2, q2, c1, ho⟩
      have HK := Lib.hid (HK.out.of (gb_only ho) (by simp; omega))
      have HG := Lib.hid (gb_new HG.out (gb_only ho) (by omega))
      have HC := Lib.hid c1
      clear ho c1
      go_wp2_with fail
      refine (sensor_any b l3 _ k2 m2 0 _ HC.out).mono ?_
      rintro e z2 ⟨s2, rfl, -, -, -, ⟨jc2, c1⟩, ho⟩
      have HK := Lib.hid (HK.out.of ho (by simp; omega))
      have HG := Lib.hid (gb_new HG.out ho (by omega))
      have HC := Lib.hid c1
      clear ho c1
      go_wp2_with fail
      refine (range_ex b l3 _ 1 6 _ HC.out (by omega) (by omega) (by omega)).mono ?_
      rintro e x3 ⟨k3, ja3, rfl, -, -, c1, ho⟩
      have HK := Lib.hid (HK.out.of (gb_only ho) (by simp; omega))
      have HG := Lib.hid (gb_new HG.out (gb_only ho) (by omega))
      have HC := Lib.hid c1
      clear ho c1
      go_wp2_with fail
      refine (next_ex b l3 _ 2 _ HC.out (by omega) (by omega)).mono ?_
      rintro e y3 ⟨m3, jb3, rfl, p3, q3, c1, ho⟩
      have HK := Lib.hid (HK.out.of (gb_only ho) (by simp; omega))
      have HG := Lib.hid (gb_new HG.out (gb_only ho) (by omega))
      have HC := Lib.hid c1
      clear ho c1
      go_wp2_with fail
      refine (sensor_any b l3 _ k3 (300 * m3) 0 _ HC.out).mono ?_
      rintro e z3 ⟨s3, rfl, -, -, -, ⟨jc3, c1⟩, ho⟩
      have HK := Lib.hid (HK.out.of ho (by simp; omega))
      have HG := Lib.hid (gb_new HG.out ho (by omega))
      have HC := Lib.hid c1
      clear ho c1
      unfold senL
      have g5 := gb_alloc (gb_refl z3 none) (.cells (senL s1 ++ senL s2 ++ senL s3).toArray 24)
      have HF5 := Lib.hid (⟨HK.out.of g5 (by simp), ⟨jc3, HC.out.keep g5 (fun g e => by cases e)⟩, Bk.new z3 _ _, gb_none HG.out g5, hlb, HC.out.lt⟩ : FdS w b l3 (.int .i64 ad) (.int .i64 kd) (.slice da dt.length dcap) z3.heap.size s1 s2 s3 (z3.alloc (.cells (senL s1 ++ senL s2 ++ senL s3).toArray 24)))
      clear g5 HK HG HC
      unfold senL at HF5
      simp only [List.cons_append, List.nil_append] at HF5
      go_upto_region 5 with fail
      generalize z3.alloc _ = W5 at *
      generalize z3.heap.size = nS at *
      go_wp2_with fail
      refine (MT.out _).mono ?_
      rintro e W6 ⟨rfl, rfl⟩
      clear MT
      go_wp2_with fail
      have hS0 := FdS.all (HF5.out.by_ (gb_drew (gb_refl W5 none)))
      clear HF5
      refine wp_region_held_drew (S := (fun w' => w'.cell? ⟨w.heap.size, 0, none⟩ = some (.int .i64 ad) ∧ w'.cell? ⟨w.heap.size, 1, none⟩ = some (.int .i64 kd) ∧ w'.cell? ⟨w.heap.size, 2, none⟩ = some (.slice da dt.length dcap) ∧ FdS w b l3 (.int .i64 ad) (.int .i64 kd) (.slice da dt.length dcap) nS s1 s2 s3 w')) (by kernel_rfl) ?_ (fun hHeld => ?_)
      · exact hS0
      refine wpAnyH_take (i := 0) (oi := _) (v := ?_) rfl (by kernel_rfl) (by kernel_rfl) (by kernel_rfl) (fun _ _ _ h => h) (Or.inl ⟨by rfl, ?_⟩) (by assumption) ?_
      rotate_left 1
      · intro w hSw; (try dsimp only at hSw); go_simp; try (with_reducible rfl)
      try simp only [Act.put, List.getElem_toArray, List.getElem_cons_zero, List.setIfInBounds_toArray, List.set_cons_zero, List.set_cons_succ]
      refine wpAnyH_take (i := 1) (oi := _) (v := ?_) rfl (by kernel_rfl) (by kernel_rfl) (by kernel_rfl) (fun _ _ _ h => h) (Or.inl ⟨by rfl, ?_⟩) (by assumption) ?_
      rotate_left 1
      · intro w hSw; (try dsimp only at hSw); go_simp; try (with_reducible rfl)
      try simp only [Act.put, List.getElem_toArray, List.getElem_cons_zero, List.getElem_cons_succ, List.setIfInBounds_toArray, List.set_cons_zero, List.set_cons_succ]
      refine wpAnyH_take (i := 3) (oi := _) (v := ?_) rfl (by kernel_rfl) (by kernel_rfl) (by kernel_rfl) (fun _ _ _ h => h) (Or.inl ⟨by rfl, ?_⟩) (by assumption) ?_
      rotate_left 1
      · intro w hSw; (try dsimp only at hSw); go_simp; try (with_reducible rfl)
      try simp only [Act.put, List.getElem_toArray, List.getElem_cons_zero, List.getElem_cons_succ, List.setIfInBounds_toArray, List.set_cons_zero, List.set_cons_succ]
      refine wpAnyH_take (i := 7) (oi := _) (v := ?_) rfl (by kernel_rfl) (by kernel_rfl) (by kernel_rfl) (fun _ _ _ h => h) (Or.inl ⟨by rfl, ?_⟩) (by assumption) ?_
      rotate_left 1
      · intro w hSw; (try dsimp only at hSw); go_simp; try (with_reducible rfl)
      try simp only [Act.put, List.getElem_toArray, List.getElem_cons_zero, List.getElem_cons_succ, List.setIfInBounds_toArray, List.set_cons_zero, List.set_cons_succ]
      refine wpAnyH_ready (rs := [2]) (by kernel_rfl) (by simp) ?_
      refine AllReadyH.cons (o := _) rfl (fun K hK => ?_) AllReadyH.nil
      go_simp
      obtain ⟨jj, cc⟩ := hHeld.2.2.2.cd
      refine (frame_any b l3 jj _ cc).mono ?_
      rintro e wa ⟨fa, va, rfl, hsa, hba, -, -, hda, ⟨ja, ca⟩, hga⟩
      obtain ⟨pa, qa, rfl, hna, hma, _⟩ := hsa.shape
      have HSA := Lib.hid hsa
      have HBA := Lib.hid hba
      have hS6 := FdS.all (FdS.draw hHeld.2.2.2 ⟨ja, ca⟩ hga)
      clear hsa hba ca hga cc
      go_wp2_with fail
      refine hK.out _ _ ?_ (fun hHeld2 => ?_)
      · exact hS6
      clear hK K hHeld
      have hHeld := hHeld2
      clear hHeld2
      try simp only [Act.put, List.getElem_toArray, List.getElem_cons_zero, List.getElem_cons_succ, List.setIfInBounds_toArray, List.set_cons_zero, List.set_cons_succ]
      refine wpAnyH_ready (rs := [4]) (by kernel_rfl) (by simp) ?_
      refine AllReadyH.cons (o := _) rfl (fun K hK => ?_) AllReadyH.nil
      go_simp
      obtain ⟨jj, cc⟩ := hHeld.2.2.2.cd
      refine (frame_any b l3 jj _ cc).mono ?_
      rintro e wb ⟨fb, vb, rfl, hsb, hbb, -, -, hdb2, ⟨jb, cb⟩, hgb⟩
      obtain ⟨pb, qb, rfl, hnb, hmb, _⟩ := hsb.shape
      have HSA := Lib.hid (sl_drawB HSA.out cc hgb)
      have HSB := Lib.hid hsb
      have HBB := Lib.hid hbb
      have hS6 := FdS.all (FdS.draw hHeld.2.2.2 ⟨jb, cb⟩ hgb)
      clear hsb hbb cb hgb cc
      go_wp2_with fail
      refine hK.out _ _ ?_ (fun hHeld2 => ?_)
      · exact hS6
      clear hK K hHeld
      have hHeld := hHeld2
      clear hHeld2
      try simp only [Act.put, List.getElem_toArray, List.getElem_cons_zero, List.getElem_cons_succ, List.setIfInBounds_toArray, List.set_cons_zero, List.set_cons_succ]
      refine wpAnyH_ready (rs := [5]) (by kernel_rfl) (by simp) ?_
      refine AllReadyH.cons (o := _) rfl (fun K hK => ?_) AllReadyH.nil
      go_simp
      have gN := gb_alloc (gb_refl wb none) (.cells #[.int .i64 ad, .int .i64 kd, .slice da dt.length dcap, .int .i64 fa.addr, .int .i64 fa.kind, .slice pa fa.data.length qa, .int .i64 fb.addr, .int .i64 fb.kind, .slice pb fb.data.length qb] 34)
      have HFN := Lib.hid (hHeld.2.2.2.by_ gN)
      have HDL := Lib.hid (⟨sl_three HFN.out.kS, HSR.out.by_ HFN.out.g, HSD.out.by_ HFN.out.g, HSA.out.by_ gN, HSB.out.by_ gN, Bk.new wb _ _, HFN.out.g⟩ : DlS w (.slice (some ⟨nS, 0, none⟩) 3 3) (.slice ra R.length rcap) [s1, s2, s3] R wb.heap.size ad kd fa.addr fa.kind fb.addr fb.kind (.slice da dt.length dcap) (.slice pa fa.data.length qa) (.slice pb fb.data.length qb) dt fa.data fb.data (wb.alloc (.cells #[.int .i64 ad, .int .i64 kd, .slice da dt.length dcap, .int .i64 fa.addr, .int .i64 fa.kind, .slice pa fa.data.length qa, .int .i64 fb.addr, .int .i64 fb.kind, .slice pb fb.data.length qb] 34)))
      have hS6 := FdS.all HFN.out
      clear gN HFN
      refine hK.out _ _ ?_ (fun hHeld2 => ?_)
      · exact hS6
      clear hK K hHeld
      have hHeld := hHeld2
      clear hHeld2
      try simp only [Act.put, List.getElem_toArray, List.getElem_cons_zero, List.getElem_cons_succ, List.setIfInBounds_toArray, List.set_cons_zero, List.set_cons_succ]
      refine wpAnyH_take (i := 6) (oi := _) (v := ?_) rfl (by kernel_rfl) (by kernel_rfl) (by kernel_rfl) (fun _ _ _ h => h) (Or.inl ⟨by rfl, ?_⟩) (by assumption) ?_
      rotate_left 1
      · intro w hSw; (try dsimp only at hSw); go_simp; try (with_reducible rfl)
      try simp only [Act.put, List.getElem_toArray, List.getElem_cons_zero, List.getElem_cons_succ, List.setIfInBounds_toArray, List.set_cons_zero, List.set_cons_succ]
      refine wpAnyH_done (by kernel_rfl) ?_ _
      clear hS6 hHeld hS0 HSA HSB HSR HSD
      go_wp2_with fail
      generalize wb.alloc _ = W7 at *
      generalize wb.heap.size = nF at *
      go_wp2_with fail
      refine wp_loop_rounds 4 ?_
      rw [rounds_succ]
      have c0 : W7.cell? ⟨nF, 0, none⟩ = some (.int .i64 ad) := HDL.out.kF.cell 0
      have c1 : W7.cell? ⟨nF, 1, none⟩ = some (.int .i64 kd) := HDL.out.kF.cell 1
      have c2 : W7.cell? ⟨nF, 2, none⟩ = some (.slice da dt.length dcap) := HDL.out.kF.cell 2
      have gx := gb_alloc (gb_refl W7 none) (.cells #[.int .i64 ad, .int .i64 kd, (.slice da dt.length dcap)] 34)
      have KF := Lib.hid (Bk.new W7 #[.int .i64 ad, .int .i64 kd, (.slice da dt.length dcap)] 34)
      have HDL := Lib.hid (HDL.out.by_ gx)
      clear gx
      go_upto_region 9 with fail
      clear c0 c1 c2
      generalize W7.alloc _ = X0 at *
      generalize W7.heap.size = nf0 at *
      have gx := gb_alloc (gb_refl X0 none) (.cells #[(.slice (some ⟨nS, 0, none⟩) 3 3), (.slice ra R.length rcap)] 27)
      have KL := Lib.hid (Bk.new X0 #[(.slice (some ⟨nS, 0, none⟩) 3 3), (.slice ra R.length rcap)] 27)
      have HB := Lib.hid (⟨HDL.out.by_ gx, KF.out.of gx (by simp), KL.out⟩ : DbS w (.slice (some ⟨nS, 0, none⟩) 3 3) (.slice ra R.length rcap) [s1, s2, s3] R nF ad kd fa.addr fa.kind fb.addr fb.kind (.slice da dt.length dcap) (.slice pa fa.data.length qa) (.slice pb fb.data.length qb) dt fa.data fb.data nf0 (.int .i64 ad) (.int .i64 kd) (.slice da dt.length dcap) X0.heap.size (X0.alloc (.cells #[(.slice (some ⟨nS, 0, none⟩) 3 3), (.slice ra R.length rcap)] 27)))
      clear gx KL KF HDL
      go_wp2_with fail
      generalize X0.alloc _ = Y0 at *
      generalize X0.heap.size = nl0 at *
      go_wp2_with fail
      refine wp_loop_rounds 3 ?_
      rw [rounds_succ]
      have P1 := Lib.hid (fun W (h1 : Sl W (.slice (some ⟨nS, 0, none⟩) 3 3) 8 ([s1, s2, s3] : List Sn).length (([s1, s2, s3] : List Sn).flatMap senL)) (h2 : Sl W (.slice da dt.length dcap) 1 (⟨ad, kd, dt⟩ : Fr).data.length (bytes (⟨ad, kd, dt⟩ : Fr).data)) => pDec_any (.slice (some ⟨nS, 0, none⟩) 3 3) [s1, s2, s3] (⟨ad, kd, dt⟩ : Fr) (.slice da dt.length dcap) time W h1 h2 HDB.out)
      have R1 := Lib.hid (fun W (h1 : Sl W (.slice (some ⟨nS, 0, none⟩) 3 3) 8 ([s1, s2, s3] : List Sn).length (([s1, s2, s3] : List Sn).flatMap senL)) (h2 : Sl W (.slice da dt.length dcap) 1 (⟨ad, kd, dt⟩ : Fr).data.length (bytes (⟨ad, kd, dt⟩ : Fr).data)) => rDec_any (.slice (some ⟨nS, 0, none⟩) 3 3) [s1, s2, s3] (⟨ad, kd, dt⟩ : Fr) (.slice da dt.length dcap) time W h1 h2 HDB.out)
      obtain ⟨p1, hp1⟩ : ∃ p, decSn [s1, s2, s3] (⟨ad, kd, dt⟩ : Fr) time = p := ⟨_, rfl⟩
      rw [hp1] at P1 R1
      clear hp1
      obtain ⟨⟨x1a, x1b, x1c, x1d⟩, e1⟩ := p1
      dsimp only at P1 R1
      have P2 := Lib.hid (fun W (h1 : Sl W (.slice (some ⟨nS, 0, none⟩) 3 3) 8 ([s1, s2, s3] : List Sn).length (([s1, s2, s3] : List Sn).flatMap senL)) (h2 : Sl W (.slice da dt.length dcap) 1 (⟨ad, kd, dt⟩ : Fr).data.length (bytes (⟨ad, kd, dt⟩ : Fr).data)) => pDec_any (.slice (some ⟨nS, 0, none⟩) 3 3) [s1, s2, s3] (⟨ad, kd, dt⟩ : Fr) (.slice da dt.length dcap) tm W h1 h2 HDB.out)
      have R2 := Lib.hid (fun W (h1 : Sl W (.slice (some ⟨nS, 0, none⟩) 3 3) 8 ([s1, s2, s3] : List Sn).length (([s1, s2, s3] : List Sn).flatMap senL)) (h2 : Sl W (.slice da dt.length dcap) 1 (⟨ad, kd, dt⟩ : Fr).data.length (bytes (⟨ad, kd, dt⟩ : Fr).data)) => rDec_any (.slice (some ⟨nS, 0, none⟩) 3 3) [s1, s2, s3] (⟨ad, kd, dt⟩ : Fr) (.slice da dt.length dcap) tm W h1 h2 HDB.out)
      obtain ⟨p2, hp2⟩ : ∃ p, decSn [s1, s2, s3] (⟨ad, kd, dt⟩ : Fr) tm = p := ⟨_, rfl⟩
      rw [hp2] at P2 R2
      clear hp2
      obtain ⟨⟨x2a, x2b, x2c, x2d⟩, e2⟩ := p2
      dsimp only at P2 R2
      have cl := HB.out.l0
      have c0 := HB.out.c0
      have c1 := HB.out.c1
      have c2 := HB.out.c2
      go_wp2_with fail
      clear cl
      clear c0 c1 c2
      refine (P1.out _ HB.out.dl.sl HB.out.dl.f0).mono ?_
      rintro e u000 ⟨rfl, hg⟩
      have HB := Lib.hid (HB.out.by_ hg)
      have gx := gb_alloc (gb_refl u000 none) (.cells #[.int .i64 x1a, .int .i64 x1b, .int .i64 x1c, .int .i64 x1d] 43)
      have KM0 := Lib.hid (Bk.new u000 #[.int .i64 x1a, .int .i64 x1b, .int .i64 x1c, .int .i64 x1d] 43)
      have HB := Lib.hid (HB.out.by_ gx)
      clear hg gx
      go_upto_region 13 with fail
      generalize u000.alloc _ = z000 at *
      generalize u000.heap.size = nm000 at *
      have c0 := HB.out.c0
      have c1 := HB.out.c1
      have c2 := HB.out.c2
      go_wp2_with fail
      clear c0 c1 c2
      refine (R1.out _ HB.out.dl.sl HB.out.dl.f0).mono ?_
      rintro e u001 ⟨rfl, hg⟩
      have HB := Lib.hid (HB.out.by_ hg)
      have KM0 := Lib.hid (KM0.out.of hg (by simp))
      have gx := gb_alloc (gb_refl u001 none) (.cells #[.int .i64 x1a, .int .i64 x1b, .int .i64 x1c, .int .i64 x1d] 43)
      have KM1 := Lib.hid (Bk.new u001 #[.int .i64 x1a, .int .i64 x1b, .int .i64 x1c, .int .i64 x1d] 43)
      have HB := Lib.hid (HB.out.by_ gx)
      have KM0 := Lib.hid (KM0.out.of gx (by simp))
      clear hg gx
      go_upto_region 14 with fail
      generalize u001.alloc _ = z001 at *
      generalize u001.heap.size = nm001 at *
      have c0 := HB.out.c0
      have c1 := HB.out.c1
      have c2 := HB.out.c2
      go_wp2_with fail
      clear c0 c1 c2
      refine (P2.out _ HB.out.dl.sl HB.out.dl.f0).mono ?_
      rintro e u002 ⟨rfl, hg⟩
      have HB := Lib.hid (HB.out.by_ hg)
      have KM0 := Lib.hid (KM0.out.of hg (by simp))
      have KM1 := Lib.hid (KM1.out.of hg (by simp))
      have gx := gb_alloc (gb_refl u002 none) (.cells #[.int .i64 x2a, .int .i64 x2b, .int .i64 x2c, .int .i64 x2d] 43)
      have KM2 := Lib.hid (Bk.new u002 #[.int .i64 x2a, .int .i64 x2b, .int .i64 x2c, .int .i64 x2d] 43)
      have HB := Lib.hid (HB.out.by_ gx)
      have KM0 := Lib.hid (KM0.out.of gx (by simp))
      have KM1 := Lib.hid (KM1.out.of gx (by simp))
      clear hg gx
      go_upto_region 15 with fail
      generalize u002.alloc _ = z002 at *
      generalize u002.heap.size = nm002 at *
      have c0 := HB.out.c0
      have c1 := HB.out.c1
      have c2 := HB.out.c2
      go_wp2_with fail
      clear c0 c1 c2
      refine (R2.out _ HB.out.dl.sl HB.out.dl.f0).mono ?_
      rintro e u003 ⟨rfl, hg⟩
      have HB := Lib.hid (HB.out.by_ hg)
      have KM0 := Lib.hid (KM0.out.of hg (by simp))
      have KM1 := Lib.hid (KM1.out.of hg (by simp))
      have KM2 := Lib.hid (KM2.out.of hg (by simp))
      have gx := gb_alloc (gb_refl u003 none) (.cells #[.int .i64 x2a, .int .i64 x2b, .int .i64 x2c, .int .i64 x2d] 43)
      have KM3 := Lib.hid (Bk.new u003 #[.int .i64 x2a, .int .i64 x2b, .int .i64 x2c, .int .i64 x2d] 43)
      have HB := Lib.hid (HB.out.by_ gx)
      have KM0 := Lib.hid (KM0.out.of gx (by simp))
      have KM1 := Lib.hid (KM1.out.of gx (by simp))
      have KM2 := Lib.hid (KM2.out.of gx (by simp))
      clear hg gx
      go_upto_region 16 with fail
      generalize u003.alloc _ = z003 at *
      generalize u003.heap.size = nm003 at *
      have g0a : z003.cell? ⟨nm000, 0, none⟩ = some (.int .i64 x1a) := KM0.out.cell 0
      have g0b : z003.cell? ⟨nm000, 1, none⟩ = some (.int .i64 x1b) := KM0.out.cell 1
      have g0c : z003.cell? ⟨nm000, 2, none⟩ = some (.int .i64 x1c) := KM0.out.cell 2
      have g0d : z003.cell? ⟨nm000, 3, none⟩ = some (.int .i64 x1d) := KM0.out.cell 3
      have g1a : z003.cell? ⟨nm001, 0, none⟩ = some (.int .i64 x1a) := KM1.out.cell 0
      have g1b : z003.cell? ⟨nm001, 1, none⟩ = some (.int .i64 x1b) := KM1.out.cell 1
      have g1c : z003.cell? ⟨nm001, 2, none⟩ = some (.int .i64 x1c) := KM1.out.cell 2
      have g1d : z003.cell? ⟨nm001, 3, none⟩ = some (.int .i64 x1d) := KM1.out.cell 3
      have g2a : z003.cell? ⟨nm002, 0, none⟩ = some (.int .i64 x2a) := KM2.out.cell 0
      have g2b : z003.cell? ⟨nm002, 1, none⟩ = some (.int .i64 x2b) := KM2.out.cell 1
      have g2c : z003.cell? ⟨nm002, 2, none⟩ = some (.int .i64 x2c) := KM2.out.cell 2
      have g2d : z003.cell? ⟨nm002, 3, none⟩ = some (.int .i64 x2d) := KM2.out.cell 3
      have g3a : z003.cell? ⟨nm003, 0, none⟩ = some (.int .i64 x2a) := KM3.out.cell 0
      have g3b : z003.cell? ⟨nm003, 1, none⟩ = some (.int .i64 x2b) := KM3.out.cell 1
      have g3c : z003.cell? ⟨nm003, 2, none⟩ = some (.int .i64 x2c) := KM3.out.cell 2
      have g3d : z003.cell? ⟨nm003, 3, none⟩ = some (.int .i64 x2d) := KM3.out.cell 3
      clear P1 P2 R1 R2 KM0 KM1 KM2 KM3
      have b1 : (e1 == e1) = true := by simp
      have b2 : (e2 == e2) = true := by simp
      go_wp2_with fail
      clear b1 b2 g0a g0b g0c g0d g1a g1b g1c g1d g2a g2b g2c g2d g3a g3b g3c g3d
      rw [rounds_succ]
      have P1 := Lib.hid (fun W (h1 : Sl W (.slice ra R.length rcap) 8 (R : List Sn).length ((R : List Sn).flatMap senL)) (h2 : Sl W (.slice da dt.length dcap) 1 (⟨ad, kd, dt⟩ : Fr).data.length (bytes (⟨ad, kd, dt⟩ : Fr).data)) => pDec_any (.slice ra R.length rcap) R (⟨ad, kd, dt⟩ : Fr) (.slice da dt.length dcap) time W h1 h2 HDB.out)
      have R1 := Lib.hid (fun W (h1 : Sl W (.slice ra R.length rcap) 8 (R : List Sn).length ((R : List Sn).flatMap senL)) (h2 : Sl W (.slice da dt.length dcap) 1 (⟨ad, kd, dt⟩ : Fr).data.length (bytes (⟨ad, kd, dt⟩ : Fr).data)) => rDec_any (.slice ra R.length rcap) R (⟨ad, kd, dt⟩ : Fr) (.slice da dt.length dcap) time W h1 h2 HDB.out)
      obtain ⟨p1, hp1⟩ : ∃ p, decSn R (⟨ad, kd, dt⟩ : Fr) time = p := ⟨_, rfl⟩
      rw [hp1] at P1 R1
      clear hp1
      obtain ⟨⟨x1a, x1b, x1c, x1d⟩, e1⟩ := p1
      dsimp only at P1 R1
      have P2 := Lib.hid (fun W (h1 : Sl W (.slice ra R.length rcap) 8 (R : List Sn).length ((R : List Sn).flatMap senL)) (h2 : Sl W (.slice da dt.length dcap) 1 (⟨ad, kd, dt⟩ : Fr).data.length (bytes (⟨ad, kd, dt⟩ : Fr).data)) => pDec_any (.slice ra R.length rcap) R (⟨ad, kd, dt⟩ : Fr) (.slice da dt.length dcap) tm W h1 h2 HDB.out)
      have R2 := Lib.hid (fun W (h1 : Sl W (.slice ra R.length rcap) 8 (R : List Sn).length ((R : List Sn).flatMap senL)) (h2 : Sl W (.slice da dt.length dcap) 1 (⟨ad, kd, dt⟩ : Fr).data.length (bytes (⟨ad, kd, dt⟩ : Fr).data)) => rDec_any (.slice ra R.length rcap) R (⟨ad, kd, dt⟩ : Fr) (.slice da dt.length dcap) tm W h1 h2 HDB.out)
      obtain ⟨p2, hp2⟩ : ∃ p, decSn R (⟨ad, kd, dt⟩ : Fr) tm = p := ⟨_, rfl⟩
      rw [hp2] at P2 R2
      clear hp2
      obtain ⟨⟨x2a, x2b, x2c, x2d⟩, e2⟩ := p2
      dsimp only at P2 R2
      have cl := HB.out.l1
      have c0 := HB.out.c0
      have c1 := HB.out.c1
      have c2 := HB.out.c2
      go_wp2_with fail
      clear cl
      clear c0 c1 c2
      refine (P1.out _ HB.out.dl.sr HB.out.dl.f0).mono ?_
      rintro e u010 ⟨rfl, hg⟩
      have HB := Lib.hid (HB.out.by_ hg)
      have gx := gb_alloc (gb_refl u010 none) (.cells #[.int .i64 x1a, .int .i64 x1b, .int .i64 x1c, .int .i64 x1d] 43)
      have KM0 := Lib.hid (Bk.new u010 #[.int .i64 x1a, .int .i64 x1b, .int .i64 x1c, .int .i64 x1d] 43)
      have HB := Lib.hid (HB.out.by_ gx)
      clear hg gx
      go_upto_region 13 with fail
      generalize u010.alloc _ = z010 at *
      generalize u010.heap.size = nm010 at *
      have c0 := HB.out.c0
      have c1 := HB.out.c1
      have c2 := HB.out.c2
      go_wp2_with fail
      clear c0 c1 c2
      refine (R1.out _ HB.out.dl.sr HB.out.dl.f0).mono ?_
      rintro e u011 ⟨rfl, hg⟩
      have HB := Lib.hid (HB.out.by_ hg)
      have KM0 := Lib.hid (KM0.out.of hg (by simp))
      have gx := gb_alloc (gb_refl u011 none) (.cells #[.int .i64 x1a, .int .i64 x1b, .int .i64 x1c, .int .i64 x1d] 43)
      have KM1 := Lib.hid (Bk.new u011 #[.int .i64 x1a, .int .i64 x1b, .int .i64 x1c, .int .i64 x1d] 43)
      have HB := Lib.hid (HB.out.by_ gx)
      have KM0 := Lib.hid (KM0.out.of gx (by simp))
      clear hg gx
      go_upto_region 14 with fail
      generalize u011.alloc _ = z011 at *
      generalize u011.heap.size = nm011 at *
      have c0 := HB.out.c0
      have c1 := HB.out.c1
      have c2 := HB.out.c2
      go_wp2_with fail
      clear c0 c1 c2
      refine (P2.out _ HB.out.dl.sr HB.out.dl.f0).mono ?_
      rintro e u012 ⟨rfl, hg⟩
      have HB := Lib.hid (HB.out.by_ hg)
      have KM0 := Lib.hid (KM0.out.of hg (by simp))
      have KM1 := Lib.hid (KM1.out.of hg (by simp))
      have gx := gb_alloc (gb_refl u012 none) (.cells #[.int .i64 x2a, .int .i64 x2b, .int .i64 x2c, .int .i64 x2d] 43)
      have KM2 := Lib.hid (Bk.new u012 #[.int .i64 x2a, .int .i64 x2b, .int .i64 x2c, .int .i64 x2d] 43)
      have HB := Lib.hid (HB.out.by_ gx)
      have KM0 := Lib.hid (KM0.out.of gx (by simp))
      have KM1 := Lib.hid (KM1.out.of gx (by simp))
      clear hg gx
      go_upto_region 15 with fail
      generalize u012.alloc _ = z012 at *
      generalize u012.heap.size = nm012 at *
      have c0 := HB.out.c0
      have c1 := HB.out.c1
      have c2 := HB.out.c2
      go_wp2_with fail
      clear c0 c1 c2
      refine (R2.out _ HB.out.dl.sr HB.out.dl.f0).mono ?_
      rintro e u013 ⟨rfl, hg⟩
      have HB := Lib.hid (HB.out.by_ hg)
      have KM0 := Lib.hid (KM0.out.of hg (by simp))
      have KM1 := Lib.hid (KM1.out.of hg (by simp))
      have KM2 := Lib.hid (KM2.out.of hg (by simp))
      have gx := gb_alloc (gb_refl u013 none) (.cells #[.int .i64 x2a, .int .i64 x2b, .int .i64 x2c, .int .i64 x2d] 43)
      have KM3 := Lib.hid (Bk.new u013 #[.int .i64 x2a, .int .i64 x2b, .int .i64 x2c, .int .i64 x2d] 43)
      have HB := Lib.hid (HB.out.by_ gx)
      have KM0 := Lib.hid (KM0.out.of gx (by simp))
      have KM1 := Lib.hid (KM1.out.of gx (by simp))
      have KM2 := Lib.hid (KM2.out.of gx (by simp))
      clear hg gx
      go_upto_region 16 with fail
      generalize u013.alloc _ = z013 at *
      generalize u013.heap.size = nm013 at *
      have g0a : z013.cell? ⟨nm010, 0, none⟩ = some (.int .i64 x1a) := KM0.out.cell 0
      have g0b : z013.cell? ⟨nm010, 1, none⟩ = some (.int .i64 x1b) := KM0.out.cell 1
      have g0c : z013.cell? ⟨nm010, 2, none⟩ = some (.int .i64 x1c) := KM0.out.cell 2
      have g0d : z013.cell? ⟨nm010, 3, none⟩ = some (.int .i64 x1d) := KM0.out.cell 3
      have g1a : z013.cell? ⟨nm011, 0, none⟩ = some (.int .i64 x1a) := KM1.out.cell 0
      have g1b : z013.cell? ⟨nm011, 1, none⟩ = some (.int .i64 x1b) := KM1.out.cell 1
      have g1c : z013.cell? ⟨nm011, 2, none⟩ = some (.int .i64 x1c) := KM1.out.cell 2
      have g1d : z013.cell? ⟨nm011, 3, none⟩ = some (.int .i64 x1d) := KM1.out.cell 3
      have g2a : z013.cell? ⟨nm012, 0, none⟩ = some (.int .i64 x2a) := KM2.out.cell 0
      have g2b : z013.cell? ⟨nm012, 1, none⟩ = some (.int .i64 x2b) := KM2.out.cell 1
      have g2c : z013.cell? ⟨nm012, 2, none⟩ = some (.int .i64 x2c) := KM2.out.cell 2
      have g2d : z013.cell? ⟨nm012, 3, none⟩ = some (.int .i64 x2d) := KM2.out.cell 3
      have g3a : z013.cell? ⟨nm013, 0, none⟩ = some (.int .i64 x2a) := KM3.out.cell 0
      have g3b : z013.cell? ⟨nm013, 1, none⟩ = some (.int .i64 x2b) := KM3.out.cell 1
      have g3c : z013.cell? ⟨nm013, 2, none⟩ = some (.int .i64 x2c) := KM3.out.cell 2
      have g3d : z013.cell? ⟨nm013, 3, none⟩ = some (.int .i64 x2d) := KM3.out.cell 3
      clear P1 P2 R1 R2 KM0 KM1 KM2 KM3
      have b1 : (e1 == e1) = true := by simp
      have b2 : (e2 == e2) = true := by simp
      go_wp2_with fail
      clear b1 b2 g0a g0b g0c g0d g1a g1b g1c g1d g2a g2b g2c g2d g3a g3b g3c g3d
      rw [rounds_succ]
      go_wp2_with fail
      have HDL := Lib.hid HB.out.dl
      clear HB
      rw [rounds_succ]
      have c0 : z013.cell? ⟨nF, 3, none⟩ = some (.int .i64 fa.addr) := HDL.out.kF.cell 3
      have c1 : z013.cell? ⟨nF, 4, none⟩ = some (.int .i64 fa.kind) := HDL.out.kF.cell 4
      have c2 : z013.cell? ⟨nF, 5, none⟩ = some (.slice pa fa.data.length qa) := HDL.out.kF.cell 5
      have gx := gb_alloc (gb_refl z013 none) (.cells #[.int .i64 fa.addr, .int .i64 fa.kind, (.slice pa fa.data.length qa)] 34)
      have KF := Lib.hid (Bk.new z013 #[.int .i64 fa.addr, .int .i64 fa.kind, (.slice pa fa.data.length qa)] 34)
      have HDL := Lib.hid (HDL.out.by_ gx)
      clear gx
      go_upto_region 9 with fail
      clear c0 c1 c2
      generalize z013.alloc _ = X1 at *
      generalize z013.heap.size = nf1 at *
      have gx := gb_alloc (gb_refl X1 none) (.cells #[(.slice (some ⟨nS, 0, none⟩) 3 3), (.slice ra R.length rcap)] 27)
      have KL := Lib.hid (Bk.new X1 #[(.slice (some ⟨nS, 0, none⟩) 3 3), (.slice ra R.length rcap)] 27)
      have HB := Lib.hid (⟨HDL.out.by_ gx, KF.out.of gx (by simp), KL.out⟩ : DbS w (.slice (some ⟨nS, 0, none⟩) 3 3) (.slice ra R.length rcap) [s1, s2, s3] R nF ad kd fa.addr fa.kind fb.addr fb.kind (.slice da dt.length dcap) (.slice pa fa.data.length qa) (.slice pb fb.data.length qb) dt fa.data fb.data nf1 (.int .i64 fa.addr) (.int .i64 fa.kind) (.slice pa fa.data.length qa) X1.heap.size (X1.alloc (.cells #[(.slice (some ⟨nS, 0, none⟩) 3 3), (.slice ra R.length rcap)] 27)))
      clear gx KL KF HDL
      go_wp2_with fail
      generalize X1.alloc _ = Y1 at *
      generalize X1.heap.size = nl1 at *
      go_wp2_with fail
      refine wp_loop_rounds 3 ?_
      rw [rounds_succ]
      have P1 := Lib.hid (fun W (h1 : Sl W (.slice (some ⟨nS, 0, none⟩) 3 3) 8 ([s1, s2, s3] : List Sn).length (([s1, s2, s3] : List Sn).flatMap senL)) (h2 : Sl W (.slice pa fa.data.length qa) 1 fa.data.length (bytes fa.data)) => pDec_any (.slice (some ⟨nS, 0, none⟩) 3 3) [s1, s2, s3] fa (.slice pa fa.data.length qa) time W h1 h2 HBA.out)
      have R1 := Lib.hid (fun W (h1 : Sl W (.slice (some ⟨nS, 0, none⟩) 3 3) 8 ([s1, s2, s3] : List Sn).length (([s1, s2, s3] : List Sn).flatMap senL)) (h2 : Sl W (.slice pa fa.data.length qa) 1 fa.data.length (bytes fa.data)) => rDec_any (.slice (some ⟨nS, 0, none⟩) 3 3) [s1, s2, s3] fa (.slice pa fa.data.length qa) time W h1 h2 HBA.out)
      obtain ⟨p1, hp1⟩ : ∃ p, decSn [s1, s2, s3] fa time = p := ⟨_, rfl⟩
      rw [hp1] at P1 R1
      clear hp1
      obtain ⟨⟨x1a, x1b, x1c, x1d⟩, e1⟩ := p1
      dsimp only at P1 R1
      have P2 := Lib.hid (fun W (h1 : Sl W (.slice (some ⟨nS, 0, none⟩) 3 3) 8 ([s1, s2, s3] : List Sn).length (([s1, s2, s3] : List Sn).flatMap senL)) (h2 : Sl W (.slice pa fa.data.length qa) 1 fa.data.length (bytes fa.data)) => pDec_any (.slice (some ⟨nS, 0, none⟩) 3 3) [s1, s2, s3] fa (.slice pa fa.data.length qa) tm W h1 h2 HBA.out)
      have R2 := Lib.hid (fun W (h1 : Sl W (.slice (some ⟨nS, 0, none⟩) 3 3) 8 ([s1, s2, s3] : List Sn).length (([s1, s2, s3] : List Sn).flatMap senL)) (h2 : Sl W (.slice pa fa.data.length qa) 1 fa.data.length (bytes fa.data)) => rDec_any (.slice (some ⟨nS, 0, none⟩) 3 3) [s1, s2, s3] fa (.slice pa fa.data.length qa) tm W h1 h2 HBA.out)
      obtain ⟨p2, hp2⟩ : ∃ p, decSn [s1, s2, s3] fa tm = p := ⟨_, rfl⟩
      rw [hp2] at P2 R2
      clear hp2
      obtain ⟨⟨x2a, x2b, x2c, x2d⟩, e2⟩ := p2
      dsimp only at P2 R2
      have cl := HB.out.l0
      have c0 := HB.out.c0
      have c1 := HB.out.c1
      have c2 := HB.out.c2
      go_wp2_with fail
      clear cl
      clear c0 c1 c2
      refine (P1.out _ HB.out.dl.sl HB.out.dl.f1).mono ?_
      rintro e u100 ⟨rfl, hg⟩
      have HB := Lib.hid (HB.out.by_ hg)
      have gx := gb_alloc (gb_refl u100 none) (.cells #[.int .i64 x1a, .int .i64 x1b, .int .i64 x1c, .int .i64 x1d] 43)
      have KM0 := Lib.hid (Bk.new u100 #[.int .i64 x1a, .int .i64 x1b, .int .i64 x1c, .int .i64 x1d] 43)
      have HB := Lib.hid (HB.out.by_ gx)
      clear hg gx
      go_upto_region 13 with fail
      generalize u100.alloc _ = z100 at *
      generalize u100.heap.size = nm100 at *
      have c0 := HB.out.c0
      have c1 := HB.out.c1
      have c2 := HB.out.c2
      go_wp2_with fail
      clear c0 c1 c2
      refine (R1.out _ HB.out.dl.sl HB.out.dl.f1).mono ?_
      rintro e u101 ⟨rfl, hg⟩
      have HB := Lib.hid (HB.out.by_ hg)
      have KM0 := Lib.hid (KM0.out.of hg (by simp))
      have gx := gb_alloc (gb_refl u101 none) (.cells #[.int .i64 x1a, .int .i64 x1b, .int .i64 x1c, .int .i64 x1d] 43)
      have KM1 := Lib.hid (Bk.new u101 #[.int .i64 x1a, .int .i64 x1b, .int .i64 x1c, .int .i64 x1d] 43)
      have HB := Lib.hid (HB.out.by_ gx)
      have KM0 := Lib.hid (KM0.out.of gx (by simp))
      clear hg gx
      go_upto_region 14 with fail
      generalize u101.alloc _ = z101 at *
      generalize u101.heap.size = nm101 at *
      have c0 := HB.out.c0
      have c1 := HB.out.c1
      have c2 := HB.out.c2
      go_wp2_with fail
      clear c0 c1 c2
      refine (P2.out _ HB.out.dl.sl HB.out.dl.f1).mono ?_
      rintro e u102 ⟨rfl, hg⟩
      have HB := Lib.hid (HB.out.by_ hg)
      have KM0 := Lib.hid (KM0.out.of hg (by simp))
      have KM1 := Lib.hid (KM1.out.of hg (by simp))
      have gx := gb_alloc (gb_refl u102 none) (.cells #[.int .i64 x2a, .int .i64 x2b, .int .i64 x2c, .int .i64 x2d] 43)
      have KM2 := Lib.hid (Bk.new u102 #[.int .i64 x2a, .int .i64 x2b, .int .i64 x2c, .int .i64 x2d] 43)
      have HB := Lib.hid (HB.out.by_ gx)
      have KM0 := Lib.hid (KM0.out.of gx (by simp))
      have KM1 := Lib.hid (KM1.out.of gx (by simp))
      clear hg gx
      go_upto_region 15 with fail
      generalize u102.alloc _ = z102 at *
      generalize u102.heap.size = nm102 at *
      have c0 := HB.out.c0
      have c1 := HB.out.c1
      have c2 := HB.out.c2
      go_wp2_with fail
      clear c0 c1 c2
      refine (R2.out _ HB.out.dl.sl HB.out.dl.f1).mono ?_
      rintro e u103 ⟨rfl, hg⟩
      have HB := Lib.hid (HB.out.by_ hg)
      have KM0 := Lib.hid (KM0.out.of hg (by simp))
      have KM1 := Lib.hid (KM1.out.of hg (by simp))
      have KM2 := Lib.hid (KM2.out.of hg (by simp))
      have gx := gb_alloc (gb_refl u103 none) (.cells #[.int .i64 x2a, .int .i64 x2b, .int .i64 x2c, .int .i64 x2d] 43)
      have KM3 := Lib.hid (Bk.new u103 #[.int .i64 x2a, .int .i64 x2b, .int .i64 x2c, .int .i64 x2d] 43)
      have HB := Lib.hid (HB.out.by_ gx)
      have KM0 := Lib.hid (KM0.out.of gx (by simp))
      have KM1 := Lib.hid (KM1.out.of gx (by simp))
      have KM2 := Lib.hid (KM2.out.of gx (by simp))
      clear hg gx
      go_upto_region 16 with fail
      generalize u103.alloc _ = z103 at *
      generalize u103.heap.size = nm103 at *
      have g0a : z103.cell? ⟨nm100, 0, none⟩ = some (.int .i64 x1a) := KM0.out.cell 0
      have g0b : z103.cell? ⟨nm100, 1, none⟩ = some (.int .i64 x1b) := KM0.out.cell 1
      have g0c : z103.cell? ⟨nm100, 2, none⟩ = some (.int .i64 x1c) := KM0.out.cell 2
      have g0d : z103.cell? ⟨nm100, 3, none⟩ = some (.int .i64 x1d) := KM0.out.cell 3
      have g1a : z103.cell? ⟨nm101, 0, none⟩ = some (.int .i64 x1a) := KM1.out.cell 0
      have g1b : z103.cell? ⟨nm101, 1, none⟩ = some (.int .i64 x1b) := KM1.out.cell 1
      have g1c : z103.cell? ⟨nm101, 2, none⟩ = some (.int .i64 x1c) := KM1.out.cell 2
      have g1d : z103.cell? ⟨nm101, 3, none⟩ = some (.int .i64 x1d) := KM1.out.cell 3
      have g2a : z103.cell? ⟨nm102, 0, none⟩ = some (.int .i64 x2a) := KM2.out.cell 0
      have g2b : z103.cell? ⟨nm102, 1, none⟩ = some (.int .i64 x2b) := KM2.out.cell 1
      have g2c : z103.cell? ⟨nm102, 2, none⟩ = some (.int .i64 x2c) := KM2.out.cell 2
      have g2d : z103.cell? ⟨nm102, 3, none⟩ = some (.int .i64 x2d) := KM2.out.cell 3
      have g3a : z103.cell? ⟨nm103, 0, none⟩ = some (.int .i64 x2a) := KM3.out.cell 0
      have g3b : z103.cell? ⟨nm103, 1, none⟩ = some (.int .i64 x2b) := KM3.out.cell 1
      have g3c : z103.cell? ⟨nm103, 2, none⟩ = some (.int .i64 x2c) := KM3.out.cell 2
      have g3d : z103.cell? ⟨nm103, 3, none⟩ = some (.int .i64 x2d) := KM3.out.cell 3
      clear P1 P2 R1 R2 KM0 KM1 KM2 KM3
      have b1 : (e1 == e1) = true := by simp
      have b2 : (e2 == e2) = true := by simp
      go_wp2_with fail
      clear b1 b2 g0a g0b g0c g0d g1a g1b g1c g1d g2a g2b g2c g2d g3a g3b g3c g3d
      rw [rounds_succ]
      have P1 := Lib.hid (fun W (h1 : Sl W (.slice ra R.length rcap) 8 (R : List Sn).length ((R : List Sn).flatMap senL)) (h2 : Sl W (.slice pa fa.data.length qa) 1 fa.data.length (bytes fa.data)) => pDec_any (.slice ra R.length rcap) R fa (.slice pa fa.data.length qa) time W h1 h2 HBA.out)
      have R1 := Lib.hid (fun W (h1 : Sl W (.slice ra R.length rcap) 8 (R : List Sn).length ((R : List Sn).flatMap senL)) (h2 : Sl W (.slice pa fa.data.length qa) 1 fa.data.length (bytes fa.data)) => rDec_any (.slice ra R.length rcap) R fa (.slice pa fa.data.length qa) time W h1 h2 HBA.out)
      obtain ⟨p1, hp1⟩ : ∃ p, decSn R fa time = p := ⟨_, rfl⟩
      rw [hp1] at P1 R1
      clear hp1
      obtain ⟨⟨x1a, x1b, x1c, x1d⟩, e1⟩ := p1
      dsimp only at P1 R1
      have P2 := Lib.hid (fun W (h1 : Sl W (.slice ra R.length rcap) 8 (R : List Sn).length ((R : List Sn).flatMap senL)) (h2 : Sl W (.slice pa fa.data.length qa) 1 fa.data.length (bytes fa.data)) => pDec_any (.slice ra R.length rcap) R fa (.slice pa fa.data.length qa) tm W h1 h2 HBA.out)
      have R2 := Lib.hid (fun W (h1 : Sl W (.slice ra R.length rcap) 8 (R : List Sn).length ((R : List Sn).flatMap senL)) (h2 : Sl W (.slice pa fa.data.length qa) 1 fa.data.length (bytes fa.data)) => rDec_any (.slice ra R.length rcap) R fa (.slice pa fa.data.length qa) tm W h1 h2 HBA.out)
      obtain ⟨p2, hp2⟩ : ∃ p, decSn R fa tm = p := ⟨_, rfl⟩
      rw [hp2] at P2 R2
      clear hp2
      obtain ⟨⟨x2a, x2b, x2c, x2d⟩, e2⟩ := p2
      dsimp only at P2 R2
      have cl := HB.out.l1
      have c0 := HB.out.c0
      have c1 := HB.out.c1
      have c2 := HB.out.c2
      go_wp2_with fail
      clear cl
      clear c0 c1 c2
      refine (P1.out _ HB.out.dl.sr HB.out.dl.f1).mono ?_
      rintro e u110 ⟨rfl, hg⟩
      have HB := Lib.hid (HB.out.by_ hg)
      have gx := gb_alloc (gb_refl u110 none) (.cells #[.int .i64 x1a, .int .i64 x1b, .int .i64 x1c, .int .i64 x1d] 43)
      have KM0 := Lib.hid (Bk.new u110 #[.int .i64 x1a, .int .i64 x1b, .int .i64 x1c, .int .i64 x1d] 43)
      have HB := Lib.hid (HB.out.by_ gx)
      clear hg gx
      go_upto_region 13 with fail
      generalize u110.alloc _ = z110 at *
      generalize u110.heap.size = nm110 at *
      have c0 := HB.out.c0
      have c1 := HB.out.c1
      have c2 := HB.out.c2
      go_wp2_with fail
      clear c0 c1 c2
      refine (R1.out _ HB.out.dl.sr HB.out.dl.f1).mono ?_
      rintro e u111 ⟨rfl, hg⟩
      have HB := Lib.hid (HB.out.by_ hg)
      have KM0 := Lib.hid (KM0.out.of hg (by simp))
      have gx := gb_alloc (gb_refl u111 none) (.cells #[.int .i64 x1a, .int .i64 x1b, .int .i64 x1c, .int .i64 x1d] 43)
      have KM1 := Lib.hid (Bk.new u111 #[.int .i64 x1a, .int .i64 x1b, .int .i64 x1c, .int .i64 x1d] 43)
      have HB := Lib.hid (HB.out.by_ gx)
      have KM0 := Lib.hid (KM0.out.of gx (by simp))
      clear hg gx
      go_upto_region 14 with fail
      generalize u111.alloc _ = z111 at *
      generalize u111.heap.size = nm111 at *
      have c0 := HB.out.c0
      have c1 := HB.out.c1
      have c2 := HB.out.c2
      go_wp2_with fail
      clear c0 c1 c2
      refine (P2.out _ HB.out.dl.sr HB.out.dl.f1).mono ?_
      rintro e u112 ⟨rfl, hg⟩
      have HB := Lib.hid (HB.out.by_ hg)
      have KM0 := Lib.hid (KM0.out.of hg (by simp))
      have KM1 := Lib.hid (KM1.out.of hg (by simp))
      have gx := gb_alloc (gb_refl u112 none) (.cells #[.int .i64 x2a, .int .i64 x2b, .int .i64 x2c, .int .i64 x2d] 43)
      have KM2 := Lib.hid (Bk.new u112 #[.int .i64 x2a, .int .i64 x2b, .int .i64 x2c, .int .i64 x2d] 43)
      have HB := Lib.hid (HB.out.by_ gx)
      have KM0 := Lib.hid (KM0.out.of gx (by simp))
      have KM1 := Lib.hid (KM1.out.of gx (by simp))
      clear hg gx
      go_upto_region 15 with fail
      generalize u112.alloc _ = z112 at *
      generalize u112.heap.size = nm112 at *
      have c0 := HB.out.c0
      have c1 := HB.out.c1
      have c2 := HB.out.c2
      go_wp2_with fail
      clear c0 c1 c2
      refine (R2.out _ HB.out.dl.sr HB.out.dl.f1).mono ?_
      rintro e u113 ⟨rfl, hg⟩
      have HB := Lib.hid (HB.out.by_ hg)
      have KM0 := Lib.hid (KM0.out.of hg (by simp))
      have KM1 := Lib.hid (KM1.out.of hg (by simp))
      have KM2 := Lib.hid (KM2.out.of hg (by simp))
      have gx := gb_alloc (gb_refl u113 none) (.cells #[.int .i64 x2a, .int .i64 x2b, .int .i64 x2c, .int .i64 x2d] 43)
      have KM3 := Lib.hid (Bk.new u113 #[.int .i64 x2a, .int .i64 x2b, .int .i64 x2c, .int .i64 x2d] 43)
      have HB := Lib.hid (HB.out.by_ gx)
      have KM0 := Lib.hid (KM0.out.of gx (by simp))
      have KM1 := Lib.hid (KM1.out.of gx (by simp))
      have KM2 := Lib.hid (KM2.out.of gx (by simp))
      clear hg gx
      go_upto_region 16 with fail
      generalize u113.alloc _ = z113 at *
      generalize u113.heap.size = nm113 at *
      have g0a : z113.cell? ⟨nm110, 0, none⟩ = some (.int .i64 x1a) := KM0.out.cell 0
      have g0b : z113.cell? ⟨nm110, 1, none⟩ = some (.int .i64 x1b) := KM0.out.cell 1
      have g0c : z113.cell? ⟨nm110, 2, none⟩ = some (.int .i64 x1c) := KM0.out.cell 2
      have g0d : z113.cell? ⟨nm110, 3, none⟩ = some (.int .i64 x1d) := KM0.out.cell 3
      have g1a : z113.cell? ⟨nm111, 0, none⟩ = some (.int .i64 x1a) := KM1.out.cell 0
      have g1b : z113.cell? ⟨nm111, 1, none⟩ = some (.int .i64 x1b) := KM1.out.cell 1
      have g1c : z113.cell? ⟨nm111, 2, none⟩ = some (.int .i64 x1c) := KM1.out.cell 2
      have g1d : z113.cell? ⟨nm111, 3, none⟩ = some (.int .i64 x1d) := KM1.out.cell 3
      have g2a : z113.cell? ⟨nm112, 0, none⟩ = some (.int .i64 x2a) := KM2.out.cell 0
      have g2b : z113.cell? ⟨nm112, 1, none⟩ = some (.int .i64 x2b) := KM2.out.cell 1
      have g2c : z113.cell? ⟨nm112, 2, none⟩ = some (.int .i64 x2c) := KM2.out.cell 2
      have g2d : z113.cell? ⟨nm112, 3, none⟩ = some (.int .i64 x2d) := KM2.out.cell 3
      have g3a : z113.cell? ⟨nm113, 0, none⟩ = some (.int .i64 x2a) := KM3.out.cell 0
      have g3b : z113.cell? ⟨nm113, 1, none⟩ = some (.int .i64 x2b) := KM3.out.cell 1
      have g3c : z113.cell? ⟨nm113, 2, none⟩ = some (.int .i64 x2c) := KM3.out.cell 2
      have g3d : z113.cell? ⟨nm113, 3, none⟩ = some (.int .i64 x2d) := KM3.out.cell 3
      clear P1 P2 R1 R2 KM0 KM1 KM2 KM3
      have b1 : (e1 == e1) = true := by simp
      have b2 : (e2 == e2) = true := by simp
      go_wp2_with fail
      clear b1 b2 g0a g0b g0c g0d g1a g1b g1c g1d g2a g2b g2c g2d g3a g3b g3c g3d
      rw [rounds_succ]
      go_wp2_with fail
      have HDL := Lib.hid HB.out.dl
      clear HB
      rw [rounds_succ]
      have c0 : z113.cell? ⟨nF, 6, none⟩ = some (.int .i64 fb.addr) := HDL.out.kF.cell 6
      have c1 : z113.cell? ⟨nF, 7, none⟩ = some (.int .i64 fb.kind) := HDL.out.kF.cell 7
      have c2 : z113.cell? ⟨nF, 8, none⟩ = some (.slice pb fb.data.length qb) := HDL.out.kF.cell 8
      have gx := gb_alloc (gb_refl z113 none) (.cells #[.int .i64 fb.addr, .int .i64 fb.kind, (.slice pb fb.data.length qb)] 34)
      have KF := Lib.hid (Bk.new z113 #[.int .i64 fb.addr, .int .i64 fb.kind, (.slice pb fb.data.length qb)] 34)
      have HDL := Lib.hid (HDL.out.by_ gx)
      clear gx
      go_upto_region 9 with fail
      clear c0 c1 c2
      generalize z113.alloc _ = X2 at *
      generalize z113.heap.size = nf2 at *
      have gx := gb_alloc (gb_refl X2 none) (.cells #[(.slice (some ⟨nS, 0, none⟩) 3 3), (.slice ra R.length rcap)] 27)
      have KL := Lib.hid (Bk.new X2 #[(.slice (some ⟨nS, 0, none⟩) 3 3), (.slice ra R.length rcap)] 27)
      have HB := Lib.hid (⟨HDL.out.by_ gx, KF.out.of gx (by simp), KL.out⟩ : DbS w (.slice (some ⟨nS, 0, none⟩) 3 3) (.slice ra R.length rcap) [s1, s2, s3] R nF ad kd fa.addr fa.kind fb.addr fb.kind (.slice da dt.length dcap) (.slice pa fa.data.length qa) (.slice pb fb.data.length qb) dt fa.data fb.data nf2 (.int .i64 fb.addr) (.int .i64 fb.kind) (.slice pb fb.data.length qb) X2.heap.size (X2.alloc (.cells #[(.slice (some ⟨nS, 0, none⟩) 3 3), (.slice ra R.length rcap)] 27)))
      clear gx KL KF HDL
      go_wp2_with fail
      generalize X2.alloc _ = Y2 at *
      generalize X2.heap.size = nl2 at *
      go_wp2_with fail
      refine wp_loop_rounds 3 ?_
      rw [rounds_succ]
      have P1 := Lib.hid (fun W (h1 : Sl W (.slice (some ⟨nS, 0, none⟩) 3 3) 8 ([s1, s2, s3] : List Sn).length (([s1, s2, s3] : List Sn).flatMap senL)) (h2 : Sl W (.slice pb fb.data.length qb) 1 fb.data.length (bytes fb.data)) => pDec_any (.slice (some ⟨nS, 0, none⟩) 3 3) [s1, s2, s3] fb (.slice pb fb.data.length qb) time W h1 h2 HBB.out)
      have R1 := Lib.hid (fun W (h1 : Sl W (.slice (some ⟨nS, 0, none⟩) 3 3) 8 ([s1, s2, s3] : List Sn).length (([s1, s2, s3] : List Sn).flatMap senL)) (h2 : Sl W (.slice pb fb.data.length qb) 1 fb.data.length (bytes fb.data)) => rDec_any (.slice (some ⟨nS, 0, none⟩) 3 3) [s1, s2, s3] fb (.slice pb fb.data.length qb) time W h1 h2 HBB.out)
      obtain ⟨p1, hp1⟩ : ∃ p, decSn [s1, s2, s3] fb time = p := ⟨_, rfl⟩
      rw [hp1] at P1 R1
      clear hp1
      obtain ⟨⟨x1a, x1b, x1c, x1d⟩, e1⟩ := p1
      dsimp only at P1 R1
      have P2 := Lib.hid (fun W (h1 : Sl W (.slice (some ⟨nS, 0, none⟩) 3 3) 8 ([s1, s2, s3] : List Sn).length (([s1, s2, s3] : List Sn).flatMap senL)) (h2 : Sl W (.slice pb fb.data.length qb) 1 fb.data.length (bytes fb.data)) => pDec_any (.slice (some ⟨nS, 0, none⟩) 3 3) [s1, s2, s3] fb (.slice pb fb.data.length qb) tm W h1 h2 HBB.out)
      have R2 := Lib.hid (fun W (h1 : Sl W (.slice (some ⟨nS, 0, none⟩) 3 3) 8 ([s1, s2, s3] : List Sn).length (([s1, s2, s3] : List Sn).flatMap senL)) (h2 : Sl W (.slice pb fb.data.length qb) 1 fb.data.length (bytes fb.data)) => rDec_any (.slice (some ⟨nS, 0, none⟩) 3 3) [s1, s2, s3] fb (.slice pb fb.data.length qb) tm W h1 h2 HBB.out)
      obtain ⟨p2, hp2⟩ : ∃ p, decSn [s1, s2, s3] fb tm = p := ⟨_, rfl⟩
      rw [hp2] at P2 R2
      clear hp2
      obtain ⟨⟨x2a, x2b, x2c, x2d⟩, e2⟩ := p2
      dsimp only at P2 R2
      have cl := HB.out.l0
      have c0 := HB.out.c0
      have c1 := HB.out.c1
      have c2 := HB.out.c2
      go_wp2_with fail
      clear cl
      clear c0 c1 c2
      refine (P1.out _ HB.out.dl.sl HB.out.dl.f2).mono ?_
      rintro e u200 ⟨rfl, hg⟩
      have HB := Lib.hid (HB.out.by_ hg)
      have gx := gb_alloc (gb_refl u200 none) (.cells #[.int .i64 x1a, .int .i64 x1b, .int .i64 x1c, .int .i64 x1d] 43)
      have KM0 := Lib.hid (Bk.new u200 #[.int .i64 x1a, .int .i64 x1b, .int .i64 x1c, .int .i64 x1d] 43)
      have HB := Lib.hid (HB.out.by_ gx)
      clear hg gx
      go_upto_region 13 with fail
      generalize u200.alloc _ = z200 at *
      generalize u200.heap.size = nm200 at *
      have c0 := HB.out.c0
      have c1 := HB.out.c1
      have c2 := HB.out.c2
      go_wp2_with fail
      clear c0 c1 c2
      refine (R1.out _ HB.out.dl.sl HB.out.dl.f2).mono ?_
      rintro e u201 ⟨rfl, hg⟩
      have HB := Lib.hid (HB.out.by_ hg)
      have KM0 := Lib.hid (KM0.out.of hg (by simp))
      have gx := gb_alloc (gb_refl u201 none) (.cells #[.int .i64 x1a, .int .i64 x1b, .int .i64 x1c, .int .i64 x1d] 43)
      have KM1 := Lib.hid (Bk.new u201 #[.int .i64 x1a, .int .i64 x1b, .int .i64 x1c, .int .i64 x1d] 43)
      have HB := Lib.hid (HB.out.by_ gx)
      have KM0 := Lib.hid (KM0.out.of gx (by simp))
      clear hg gx
      go_upto_region 14 with fail
      generalize u201.alloc _ = z201 at *
      generalize u201.heap.size = nm201 at *
      have c0 := HB.out.c0
      have c1 := HB.out.c1
      have c2 := HB.out.c2
      go_wp2_with fail
      clear c0 c1 c2
      refine (P2.out _ HB.out.dl.sl HB.out.dl.f2).mono ?_
      rintro e u202 ⟨rfl, hg⟩
      have HB := Lib.hid (HB.out.by_ hg)
      have KM0 := Lib.hid (KM0.out.of hg (by simp))
      have KM1 := Lib.hid (KM1.out.of hg (by simp))
      have gx := gb_alloc (gb_refl u202 none) (.cells #[.int .i64 x2a, .int .i64 x2b, .int .i64 x2c, .int .i64 x2d] 43)
      have KM2 := Lib.hid (Bk.new u202 #[.int .i64 x2a, .int .i64 x2b, .int .i64 x2c, .int .i64 x2d] 43)
      have HB := Lib.hid (HB.out.by_ gx)
      have KM0 := Lib.hid (KM0.out.of gx (by simp))
      have KM1 := Lib.hid (KM1.out.of gx (by simp))
      clear hg gx
      go_upto_region 15 with fail
      generalize u202.alloc _ = z202 at *
      generalize u202.heap.size = nm202 at *
      have c0 := HB.out.c0
      have c1 := HB.out.c1
      have c2 := HB.out.c2
      go_wp2_with fail
      clear c0 c1 c2
      refine (R2.out _ HB.out.dl.sl HB.out.dl.f2).mono ?_
      rintro e u203 ⟨rfl, hg⟩
      have HB := Lib.hid (HB.out.by_ hg)
      have KM0 := Lib.hid (KM0.out.of hg (by simp))
      have KM1 := Lib.hid (KM1.out.of hg (by simp))
      have KM2 := Lib.hid (KM2.out.of hg (by simp))
      have gx := gb_alloc (gb_refl u203 none) (.cells #[.int .i64 x2a, .int .i64 x2b, .int .i64 x2c, .int .i64 x2d] 43)
      have KM3 := Lib.hid (Bk.new u203 #[.int .i64 x2a, .int .i64 x2b, .int .i64 x2c, .int .i64 x2d] 43)
      have HB := Lib.hid (HB.out.by_ gx)
      have KM0 := Lib.hid (KM0.out.of gx (by simp))
      have KM1 := Lib.hid (KM1.out.of gx (by simp))
      have KM2 := Lib.hid (KM2.out.of gx (by simp))
      clear hg gx
      go_upto_region 16 with fail
      generalize u203.alloc _ = z203 at *
      generalize u203.heap.size = nm203 at *
      have g0a : z203.cell? ⟨nm200, 0, none⟩ = some (.int .i64 x1a) := KM0.out.cell 0
      have g0b : z203.cell? ⟨nm200, 1, none⟩ = some (.int .i64 x1b) := KM0.out.cell 1
      have g0c : z203.cell? ⟨nm200, 2, none⟩ = some (.int .i64 x1c) := KM0.out.cell 2
      have g0d : z203.cell? ⟨nm200, 3, none⟩ = some (.int .i64 x1d) := KM0.out.cell 3
      have g1a : z203.cell? ⟨nm201, 0, none⟩ = some (.int .i64 x1a) := KM1.out.cell 0
      have g1b : z203.cell? ⟨nm201, 1, none⟩ = some (.int .i64 x1b) := KM1.out.cell 1
      have g1c : z203.cell? ⟨nm201, 2, none⟩ = some (.int .i64 x1c) := KM1.out.cell 2
      have g1d : z203.cell? ⟨nm201, 3, none⟩ = some (.int .i64 x1d) := KM1.out.cell 3
      have g2a : z203.cell? ⟨nm202, 0, none⟩ = some (.int .i64 x2a) := KM2.out.cell 0
      have g2b : z203.cell? ⟨nm202, 1, none⟩ = some (.int .i64 x2b) := KM2.out.cell 1
      have g2c : z203.cell? ⟨nm202, 2, none⟩ = some (.int .i64 x2c) := KM2.out.cell 2
      have g2d : z203.cell? ⟨nm202, 3, none⟩ = some (.int .i64 x2d) := KM2.out.cell 3
      have g3a : z203.cell? ⟨nm203, 0, none⟩ = some (.int .i64 x2a) := KM3.out.cell 0
      have g3b : z203.cell? ⟨nm203, 1, none⟩ = some (.int .i64 x2b) := KM3.out.cell 1
      have g3c : z203.cell? ⟨nm203, 2, none⟩ = some (.int .i64 x2c) := KM3.out.cell 2
      have g3d : z203.cell? ⟨nm203, 3, none⟩ = some (.int .i64 x2d) := KM3.out.cell 3
      clear P1 P2 R1 R2 KM0 KM1 KM2 KM3
      have b1 : (e1 == e1) = true := by simp
      have b2 : (e2 == e2) = true := by simp
      go_wp2_with fail
      clear b1 b2 g0a g0b g0c g0d g1a g1b g1c g1d g2a g2b g2c g2d g3a g3b g3c g3d
      rw [rounds_succ]
      have P1 := Lib.hid (fun W (h1 : Sl W (.slice ra R.length rcap) 8 (R : List Sn).length ((R : List Sn).flatMap senL)) (h2 : Sl W (.slice pb fb.data.length qb) 1 fb.data.length (bytes fb.data)) => pDec_any (.slice ra R.length rcap) R fb (.slice pb fb.data.length qb) time W h1 h2 HBB.out)
      have R1 := Lib.hid (fun W (h1 : Sl W (.slice ra R.length rcap) 8 (R : List Sn).length ((R : List Sn).flatMap senL)) (h2 : Sl W (.slice pb fb.data.length qb) 1 fb.data.length (bytes fb.data)) => rDec_any (.slice ra R.length rcap) R fb (.slice pb fb.data.length qb) time W h1 h2 HBB.out)
      obtain ⟨p1, hp1⟩ : ∃ p, decSn R fb time = p := ⟨_, rfl⟩
      rw [hp1] at P1 R1
      clear hp1
      obtain ⟨⟨x1a, x1b, x1c, x1d⟩, e1⟩ := p1
      dsimp only at P1 R1
      have P2 := Lib.hid (fun W (h1 : Sl W (.slice ra R.length rcap) 8 (R : List Sn).length ((R : List Sn).flatMap senL)) (h2 : Sl W (.slice pb fb.data.length qb) 1 fb.data.length (bytes fb.data)) => pDec_any (.slice ra R.length rcap) R fb (.slice pb fb.data.length qb) tm W h1 h2 HBB.out)
      have R2 := Lib.hid (fun W (h1 : Sl W (.slice ra R.length rcap) 8 (R : List Sn).length ((R : List Sn).flatMap senL)) (h2 : Sl W (.slice pb fb.data.length qb) 1 fb.data.length (bytes fb.data)) => rDec_any (.slice ra R.length rcap) R fb (.slice pb fb.data.length qb) tm W h1 h2 HBB.out)
      obtain ⟨p2, hp2⟩ : ∃ p, decSn R fb tm = p := ⟨_, rfl⟩
      rw [hp2] at P2 R2
      clear hp2
      obtain ⟨⟨x2a, x2b, x2c, x2d⟩, e2⟩ := p2
      dsimp only at P2 R2
      have cl := HB.out.l1
      have c0 := HB.out.c0
      have c1 := HB.out.c1
      have c2 := HB.out.c2
      go_wp2_with fail
      clear cl
      clear c0 c1 c2
      refine (P1.out _ HB.out.dl.sr HB.out.dl.f2).mono ?_
      rintro e u210 ⟨rfl, hg⟩
      have HB := Lib.hid (HB.out.by_ hg)
      have gx := gb_alloc (gb_refl u210 none) (.cells #[.int .i64 x1a, .int .i64 x1b, .int .i64 x1c, .int .i64 x1d] 43)
      have KM0 := Lib.hid (Bk.new u210 #[.int .i64 x1a, .int .i64 x1b, .int .i64 x1c, .int .i64 x1d] 43)
      have HB := Lib.hid (HB.out.by_ gx)
      clear hg gx
      go_upto_region 13 with fail
      generalize u210.alloc _ = z210 at *
      generalize u210.heap.size = nm210 at *
      have c0 := HB.out.c0
      have c1 := HB.out.c1
      have c2 := HB.out.c2
      go_wp2_with fail
      clear c0 c1 c2
      refine (R1.out _ HB.out.dl.sr HB.out.dl.f2).mono ?_
      rintro e u211 ⟨rfl, hg⟩
      have HB := Lib.hid (HB.out.by_ hg)
      have KM0 := Lib.hid (KM0.out.of hg (by simp))
      have gx := gb_alloc (gb_refl u211 none) (.cells #[.int .i64 x1a, .int .i64 x1b, .int .i64 x1c, .int .i64 x1d] 43)
      have KM1 := Lib.hid (Bk.new u211 #[.int .i64 x1a, .int .i64 x1b, .int .i64 x1c, .int .i64 x1d] 43)
      have HB := Lib.hid (HB.out.by_ gx)
      have KM0 := Lib.hid (KM0.out.of gx (by simp))
      clear hg gx
      go_upto_region 14 with fail
      generalize u211.alloc _ = z211 at *
      generalize u211.heap.size = nm211 at *
      have c0 := HB.out.c0
      have c1 := HB.out.c1
      have c2 := HB.out.c2
      go_wp2_with fail
      clear c0 c1 c2
      refine (P2.out _ HB.out.dl.sr HB.out.dl.f2).mono ?_
      rintro e u212 ⟨rfl, hg⟩
      have HB := Lib.hid (HB.out.by_ hg)
      have KM0 := Lib.hid (KM0.out.of hg (by simp))
      have KM1 := Lib.hid (KM1.out.of hg (by simp))
      have gx := gb_alloc (gb_refl u212 none) (.cells #[.int .i64 x2a, .int .i64 x2b, .int .i64 x2c, .int .i64 x2d] 43)
      have KM2 := Lib.hid (Bk.new u212 #[.int .i64 x2a, .int .i64 x2b, .int .i64 x2c, .int .i64 x2d] 43)
      have HB := Lib.hid (HB.out.by_ gx)
      have KM0 := Lib.hid (KM0.out.of gx (by simp))
      have KM1 := Lib.hid (KM1.out.of gx (by simp))
      clear hg gx
      go_upto_region 15 with fail
      generalize u212.alloc _ = z212 at *
      generalize u212.heap.size = nm212 at *
      have c0 := HB.out.c0
      have c1 := HB.out.c1
      have c2 := HB.out.c2
      go_wp2_with fail
      clear c0 c1 c2
      refine (R2.out _ HB.out.dl.sr HB.out.dl.f2).mono ?_
      rintro e u213 ⟨rfl, hg⟩
      have HB := Lib.hid (HB.out.by_ hg)
      have KM0 := Lib.hid (KM0.out.of hg (by simp))
      have KM1 := Lib.hid (KM1.out.of hg (by simp))
      have KM2 := Lib.hid (KM2.out.of hg (by simp))
      have gx := gb_alloc (gb_refl u213 none) (.cells #[.int .i64 x2a, .int .i64 x2b, .int .i64 x2c, .int .i64 x2d] 43)
      have KM3 := Lib.hid (Bk.new u213 #[.int .i64 x2a, .int .i64 x2b, .int .i64 x2c, .int .i64 x2d] 43)
      have HB := Lib.hid (HB.out.by_ gx)
      have KM0 := Lib.hid (KM0.out.of gx (by simp))
      have KM1 := Lib.hid (KM1.out.of gx (by simp))
      have KM2 := Lib.hid (KM2.out.of gx (by simp))
      clear hg gx
      go_upto_region 16 with fail
      generalize u213.alloc _ = z213 at *
      generalize u213.heap.size = nm213 at *
      have g0a : z213.cell? ⟨nm210, 0, none⟩ = some (.int .i64 x1a) := KM0.out.cell 0
      have g0b : z213.cell? ⟨nm210, 1, none⟩ = some (.int .i64 x1b) := KM0.out.cell 1
      have g0c : z213.cell? ⟨nm210, 2, none⟩ = some (.int .i64 x1c) := KM0.out.cell 2
      have g0d : z213.cell? ⟨nm210, 3, none⟩ = some (.int .i64 x1d) := KM0.out.cell 3
      have g1a : z213.cell? ⟨nm211, 0, none⟩ = some (.int .i64 x1a) := KM1.out.cell 0
      have g1b : z213.cell? ⟨nm211, 1, none⟩ = some (.int .i64 x1b) := KM1.out.cell 1
      have g1c : z213.cell? ⟨nm211, 2, none⟩ = some (.int .i64 x1c) := KM1.out.cell 2
      have g1d : z213.cell? ⟨nm211, 3, none⟩ = some (.int .i64 x1d) := KM1.out.cell 3
      have g2a : z213.cell? ⟨nm212, 0, none⟩ = some (.int .i64 x2a) := KM2.out.cell 0
      have g2b : z213.cell? ⟨nm212, 1, none⟩ = some (.int .i64 x2b) := KM2.out.cell 1
      have g2c : z213.cell? ⟨nm212, 2, none⟩ = some (.int .i64 x2c) := KM2.out.cell 2
      have g2d : z213.cell? ⟨nm212, 3, none⟩ = some (.int .i64 x2d) := KM2.out.cell 3
      have g3a : z213.cell? ⟨nm213, 0, none⟩ = some (.int .i64 x2a) := KM3.out.cell 0
      have g3b : z213.cell? ⟨nm213, 1, none⟩ = some (.int .i64 x2b) := KM3.out.cell 1
      have g3c : z213.cell? ⟨nm213, 2, none⟩ = some (.int .i64 x2c) := KM3.out.cell 2
      have g3d : z213.cell? ⟨nm213, 3, none⟩ = some (.int .i64 x2d) := KM3.out.cell 3
      clear P1 P2 R1 R2 KM0 KM1 KM2 KM3
      have b1 : (e1 == e1) = true := by simp
      have b2 : (e2 == e2) = true := by simp
      go_wp2_with fail
      clear b1 b2 g0a g0b g0c g0d g1a g1b g1c g1d g2a g2b g2c g2d g3a g3b g3c g3d
      rw [rounds_succ]
      go_wp2_with fail
      have HDL := Lib.hid HB.out.dl
      clear HB
      rw [rounds_succ]
      go_wp2_with fail
      refine (awake_any _).mono ?_
      rintro e W9 ⟨rfl, hg⟩
      go_wp2_with fail
      go_ret
      exact ⟨rfl, gb_none HDL.out.g hg⟩
end Go.Proofs.Ytackckljldpldaa
