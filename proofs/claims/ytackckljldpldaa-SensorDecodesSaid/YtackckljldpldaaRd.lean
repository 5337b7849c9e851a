/- Stage 5, the document's Decode. -/
import Derived.Test.YtackckljldpldaaWb
import Derived.Test.YtackckljldpldaaRp
import Derived.Test.YtackckljldpldaaMs
namespace Go.Proofs.Ytackckljldpldaa
open Go.RowKit
attribute [local go_sem ↓] Go.wp_at_zero Go.wp_at_succ loadAt_s

theorem refVal_w (s : Sn) (raw : Int) (w : World) (h1 : -9223372036854775808 ≤ raw) (h2 : raw ≤ 9223372036854775807) :
    Calls Try.prog 18 #[snV s, .int .i64 raw] w fun e w' => e = .returned (.agg #[.int .i64 (valSn s raw).1, .int .i64 (valSn s raw).2]) ∧ w.grownBy w' none := refVal_any s raw w h1 h2
/-- While a measurement is read. -/
structure RdS (w : World) (ad : Int) (n10 g off : Nat) (s : Sn) (i : Nat) (t : Int) (dg doff dcap x y : Nat) (na nb : Int) (W : World) : Prop where
  de : DeS w (.int .i64 ad) (.int .i64 1) (.slice (some ⟨dg, doff, none⟩) 2 dcap) W
  sn : SnAt W g (off + i * 8) s
  b0 : W.cell? ⟨dg, doff, none⟩ = some (.int .u8 (x : Int))
  b1 : W.cell? ⟨dg, doff + 1, none⟩ = some (.int .u8 (y : Int))
  m : Bk W n10 #[.int .i64 i, .int .i64 t, .int .i64 na, .int .i64 nb] 43
  ln : w.heap.size + 1 < n10
theorem RdS.by_ {w : World} {ad : Int} {n10 g off : Nat} {s : Sn} {i : Nat} {t : Int} {dg doff dcap x y : Nat} {na nb : Int} {W W' : World} (h : RdS w ad n10 g off s i t dg doff dcap x y na nb W) (o : W.grownBy W' none) : RdS w ad n10 g off s i t dg doff dcap x y na nb W' := ⟨h.de.by_ o, h.sn.by_ o, cell_by h.b0 o, cell_by h.b1 o, h.m.of o (by simp), h.ln⟩
theorem RdS.all {w : World} {ad : Int} {n10 g off : Nat} {s : Sn} {i : Nat} {t : Int} {dg doff dcap x y : Nat} {na nb : Int} {W : World} (h : RdS w ad n10 g off s i t dg doff dcap x y na nb W) : (loadS (.pointer (some ⟨g, off + i * 8, none⟩))).run Try.prog W = .ok (snV s) W ∧ W.cell? ⟨w.heap.size, 2, none⟩ = some (.slice (some ⟨dg, doff, none⟩) 2 dcap) ∧ W.cell? ⟨dg, doff, none⟩ = some (.int .u8 (x : Int)) ∧ W.cell? ⟨dg, doff + 1, none⟩ = some (.int .u8 (y : Int)) ∧ RdS w ad n10 g off s i t dg doff dcap x y na nb W := ⟨run_loadS h.sn, h.de.k4.cell 2, h.b0, h.b1, h⟩
set_option maxRecDepth 100000 in
set_option maxHeartbeats 16000000 in
theorem rDec_any (v : Value) (l : List Sn) (f : Fr) (dv : Value) (t : Int) (w : World) (h : Sl w v 8 l.length (l.flatMap senL)) (hd : Sl w dv 1 f.data.length (bytes f.data)) (hb : ∀ x ∈ f.data, x < 256) :
    Calls Try.prog 26 #[v, .agg #[.int .i64 f.addr, .int .i64 f.kind, dv], .int .i64 t] w fun e w' => e = .returned (.tuple #[.agg #[.int .i64 (decSn l f t).1.1, .int .i64 (decSn l f t).1.2.1, .int .i64 (decSn l f t).1.2.2.1, .int .i64 (decSn l f t).1.2.2.2], .int .i64 (decSn l f t).2]) ∧ w.grownBy w' none := by
  obtain ⟨ad, kd, data⟩ := f
  dsimp only at hd hb ⊢
  have S1 : DeS w (.int .i64 ad) (.int .i64 kd) dv ((w.alloc (.cells #[.int .i64 ad, .int .i64 kd, dv] 34)).alloc (.cells #[.int .i64 0, .int .i64 0, .int .i64 0, .int .i64 0] 43)) := by
    have k1 := Bk.new (w.alloc (.cells #[.int .i64 ad, .int .i64 kd, dv] 34)) #[.int .i64 0, .int .i64 0, .int .i64 0, .int .i64 0] 43
    rw [World.size_alloc] at k1
    exact ⟨(Bk.new w _ _).of (gb_alloc (gb_refl _ none) _) (by simp), k1, gb_alloc (gb_alloc (gb_refl _ _) _) _⟩
  obtain ⟨a, cap, rfl, hn, hm, _⟩ := h.shape
  unfold maxLen at hm
  obtain ⟨da, dcap, rfl, dhn, dhm, dhc⟩ := hd.shape
  unfold maxLen at dhm
  obtain ⟨r, hr⟩ : ∃ r, decSn l ⟨ad, kd, data⟩ t = r := ⟨_, rfl⟩
  obtain ⟨⟨r1, r2, r3, r4⟩, rc⟩ := r
  rw [hr]
  unfold decSn at hr
  dsimp only at hr
  have HV := Lib.hid hr
  have HS1 := Lib.hid S1
  have HL := Lib.hid h
  have HD := Lib.hid hd
  have HB := Lib.hid hb
  have HDC := Lib.hid dhc
  have HT := Lib.hid (in_any t 0 2147483648)
  clear hr S1 h hd hb dhc
  go_enter Try.func26, Try.ntmps26
  go_upto_region 1 with fail
  generalize (w.alloc _).alloc _ = W1 at *
  go_wp2_with fail
  refine (HT.out _).mono ?_
  rintro e w' ⟨rfl, hw'⟩
  subst hw'
  by_cases c0 : 0 ≤ t ∧ t ≤ 2147483648
  · rw [decide_eq_true c0]
    go_wp2_with fail
    go_loopw [8, 9] (fun i8 i9 wr => ∃ k : Nat, k ≤ l.length ∧ i8 = .int .i64 (fIdx ad k (l.drop k)) ∧ i9 = .int .i64 ((k : Int) - 1) ∧ Hid (DeS w (.int .i64 ad) (.int .i64 kd) (.slice da data.length dcap) wr)) (fun _ i9 _ => (intOf i9 + 1).toNat)
    case atStart => exact ⟨l.length, Nat.le_refl _, by rw [List.drop_length]; rfl, by first | rfl | simp, HS1⟩
    case round =>
      obtain ⟨k, hk, rfl, rfl, HS⟩ := hrel
      clear HS1
      cases k with
      | succ j =>
        have hj : j < l.length := by omega
        obtain ⟨g, off, cap', hv, _, hs⟩ := (HL.out.by_ HS.out.g).snAt hj
        injection hv with hv1 _ hv3
        subst hv1 hv3
        have hd' : l.drop j = l.getD j sn0 :: l.drop (j + 1) := by
          rw [List.drop_eq_getElem_cons hj]
          simp [List.getD_eq_getElem?_getD, List.getElem?_eq_getElem hj]
        have e0 := hs.1
        obtain ⟨s, hq⟩ : ∃ s, l.getD j sn0 = s := ⟨_, rfl⟩
        rw [hq] at e0 hd'
        obtain ⟨prev, hpv⟩ : ∃ prev, fIdx ad (j + 1) (l.drop (j + 1)) = prev := ⟨_, rfl⟩
        have HE := Lib.hid (show fIdx ad j (l.drop j) = if s.addr = ad then (j : Int) else prev by rw [hd', fIdx, hpv])
        have e1 : wr.cell? ⟨w.heap.size, 0, none⟩ = some (.int .i64 ad) := HS.out.k4.cell 0
        have i0 : (0 : Int) ≤ (j : Int) := by omega
        have i1 : (j : Int) < (l.length : Int) := by omega
        have hj1 : ((j + 1 : Nat) : Int) - 1 = (j : Int) := by omega
        obtain ⟨sa, hsa⟩ : ∃ sa, s.addr = sa := ⟨_, rfl⟩
        rw [hsa] at e0 HE
        rw [hj1, hpv]
        clear hs hd' hq hpv hsa hj1
        by_cases c1 : sa = ad
        · subst c1
          have c1' : (sa == sa) = true := by simp
          have hE := HE.out
          rw [if_pos rfl] at hE
          have HE2 := Lib.hid hE
          clear HE hE
          go_wp2_with fail
          go_quiet (fail)
          have HS2 := Lib.hid (HS.out.by_ (gb_drewN (gb_refl wr none) nq))
          clear e0 e1 HS
          generalize wr.drewN nq = W3 at *
          go_wp2_with fail
          exact ⟨⟨j, by omega, by rw [HE2.out], rfl, HS2⟩, by simp [intOf] <;> omega⟩
        · have c1' : (sa == ad) = false := beq_false_of_ne c1
          have hE := HE.out
          rw [if_neg c1] at hE
          have HE2 := Lib.hid hE
          clear HE hE
          go_wp2_with fail
          go_quiet (fail)
          have HS2 := Lib.hid (HS.out.by_ (gb_drewN (gb_refl wr none) nq))
          clear e0 e1 HS
          generalize wr.drewN nq = W3 at *
          go_wp2_with fail
          exact ⟨⟨j, by omega, by rw [HE2.out], rfl, HS2⟩, by simp [intOf] <;> omega⟩
      | zero =>
        obtain ⟨at_, hat⟩ : ∃ z, fIdx ad 0 l = z := ⟨_, rfl⟩
        rw [List.drop_zero, hat, show ((0 : Nat) : Int) - 1 = -1 by omega]
        have hV1 := HV.out
        rw [if_neg (by omega), hat] at hV1
        have hcs := fIdx_cases ad l 0
        rw [hat] at hcs
        have HV1 := Lib.hid hV1
        clear hV1 HV hat
        rcases hcs with e | ⟨i, hi, e⟩
        · subst e
          have HV := HV1
          obtain ⟨⟨rfl, rfl, rfl, rfl⟩, rfl⟩ : (r1 = 0 ∧ r2 = 0 ∧ r3 = 0 ∧ r4 = 0) ∧ rc = 9 := by
            have := HV.out
            rw [if_pos (by omega)] at this
            simp only [Prod.mk.injEq] at this
            obtain ⟨⟨h1, h2, h3, h4⟩, h5⟩ := this
            exact ⟨⟨h1.symm, h2.symm, h3.symm, h4.symm⟩, h5.symm⟩
          have k6c := HS.out.k6.cell
          have k6f := HS.out.k6.frozen
          have F := HS.out.fin 0 0 0 0
          simp only [setC] at F
          have HF9 := Lib.hid F
          clear F
          go_wp2_with fail
          clear k6c k6f
          generalize World.setCell _ ⟨w.heap.size + 1, 3, none⟩ _ = W9 at *
          have f9c := HF9.out.1.cell
          refine bodyPost_ret (v := .tuple #[.agg #[.int .i64 0, .int .i64 0, .int .i64 0, .int .i64 0], .int .i64 9]) (by simp [results, Try.results26, go_sem, f9c]) rfl ?_
          exact ⟨rfl, HF9.out.2⟩
        · rw [Nat.zero_add] at e
          subst e
          obtain ⟨g, off, cap', hv, _, hs0⟩ := HL.out.snAt hi
          injection hv with hv1 _ hv3
          subst hv1 hv3
          obtain ⟨s, hq⟩ : ∃ s, l.getD i sn0 = s := ⟨_, rfl⟩
          have hV2 := HV1.out
          rw [if_neg (by omega), Int.toNat_natCast, hq] at hV2
          rw [hq] at hs0
          have hs := hs0.by_ HS.out.g
          have HLI := Lib.hid hs0
          obtain ⟨ck, hck⟩ : ∃ ck, ckSn s = ck := ⟨_, rfl⟩
          rw [hck] at hV2
          have HC := Lib.hid (fun w => refCk_v s w)
          rw [hck] at HC
          have HV2 := Lib.hid hV2
          have L0 := run_loadS hs
          have i0 : (0 : Int) ≤ (i : Int) := by omega
          have i1 : (i : Int) < (l.length : Int) := by omega
          have i2 : decide ((i : Int) < 0) = false := decide_eq_false (by omega)
          have HI := Lib.hid hs
          clear hV2 HV1 hs hs0 hq hck
          go_wp2_with fail
          refine (HC.out _).mono ?_
          rintro e W4 ⟨rfl, hg⟩
          have HS4 := Lib.hid (HS.out.by_ hg)
          have HI4 := Lib.hid (HI.out.by_ hg)
          clear hg L0 HI HS HC i2
          by_cases c1 : ck = 0
          · subst c1
            have hV3 := HV2.out
            rw [if_neg (by simp)] at hV3
            have HV := Lib.hid hV3
            clear HV2 hV3
            obtain ⟨na, nb, hno⟩ : ∃ a b, nothingSp = (a, b) := ⟨_, _, rfl⟩
            have HNO := Lib.hid hno
            have PN := Lib.hid (fun w => nothing_any w)
            rw [hno] at PN
            dsimp only at PN
            clear hno
            have f1 : W4.cell? ⟨w.heap.size, 1, none⟩ = some (.int .i64 kd) := HS4.out.k4.cell 1
            have f2 : W4.cell? ⟨w.heap.size, 2, none⟩ = some (.slice da data.length dcap) := HS4.out.k4.cell 2
            by_cases d1 : kd = 1
            · subst d1
              by_cases d2 : data.length = 2
              · obtain ⟨x, y, rfl⟩ : ∃ x y, data = [x, y] := by
                  match data, d2 with
                  | [x, y], _ => exact ⟨x, y, rfl⟩
                have hx : x < 256 := HB.out x (by simp)
                have hy : y < 256 := HB.out y (by simp)
                obtain ⟨dg, doff, rfl, _⟩ : ∃ g off, da = some ⟨g, off, none⟩ ∧ True := by
                  rcases HDC.out with h0 | ⟨g, off, e, _⟩
                  · simp at h0
                  · exact ⟨g, off, e, trivial⟩
                have hsv : saidSn s ⟨ad, 1, [x, y]⟩ = (valSn s ((x : Int) * 256 + (y : Int)), 0) := by unfold saidSn; rw [if_pos ⟨rfl, rfl⟩]; rfl
                have hV4 := HV.out
                rw [hsv] at hV4
                obtain ⟨p, hp⟩ : ∃ p, valSn s ((x : Int) * 256 + (y : Int)) = p := ⟨_, rfl⟩
                obtain ⟨vx, vy⟩ := p
                rw [hp, if_neg (by simp)] at hV4
                simp only [Prod.mk.injEq] at hV4
                obtain ⟨⟨hr1, hr2, hr3, hr4⟩, hr5⟩ := hV4
                subst hr1 hr2 hr3 hr4 hr5
                have HPV := Lib.hid (fun w => refVal_w s ((x : Int) * 256 + (y : Int)) w (by omega) (by omega))
                rw [hp] at HPV
                dsimp only at HPV
                have HB0 := Lib.hid (show w.cell? ⟨dg, doff, none⟩ = some (.int .u8 (x : Int)) by have := sl_cell (n := 2) HD.out 0 (by omega) rfl; simpa using this)
                have HB1 := Lib.hid (show w.cell? ⟨dg, doff + 1, none⟩ = some (.int .u8 (y : Int)) by have := sl_cell (n := 2) HD.out 1 (by omega) rfl; exact this)
                clear hsv hp HV d2 HDC HB
                go_wp2_with fail
                refine (PN.out _).mono ?_
                rintro e W5 ⟨rfl, hg⟩
                have g6 := gb_alloc hg (.cells #[.int .i64 i, .int .i64 t, .int .i64 na, .int .i64 nb] 43)
                have HR0 := Lib.hid (RdS.by_ (⟨HS4.out.by_ g6, HI4.out.by_ g6, cell_by HB0.out (HS4.out.by_ g6).g, cell_by HB1.out (HS4.out.by_ g6).g, Bk.new W5 _ _, (HS4.out.k6.of hg (by simp)).lt⟩ : RdS w ad W5.heap.size g off s i t dg doff dcap x y na nb (W5.alloc (.cells #[.int .i64 i, .int .i64 t, .int .i64 na, .int .i64 nb] 43))) (gb_drew (gb_refl _ none)))
                have HK := Lib.hid (HS4.out.by_ g6)
                have hK1 : (W5.alloc (.cells #[.int .i64 i, .int .i64 t, .int .i64 na, .int .i64 nb] 43)).cell? ⟨w.heap.size, 1, none⟩ = some (.int .i64 1) := HK.out.k4.cell 1
                clear f1 f2 hg g6 HS4 HI4 HK PN
                go_upto_region 16 with fail
                generalize W5.alloc _ = W6 at *
                generalize W5.heap.size = n10 at *
                go_wp2_with fail
                clear hK1
                have q1 : IntKind.i64.wrap (x : Int) = (x : Int) := IntWalk.i64_in _ (by omega)
                have q2 : IntKind.i64.wrap (y : Int) = (y : Int) := IntWalk.i64_in _ (by omega)
                have q3 : IntKind.i64.wrap ((x : Int) * 256) = (x : Int) * 256 := IntWalk.i64_in _ (by omega)
                have q4 : IntKind.i64.wrap ((x : Int) * 256 + (y : Int)) = (x : Int) * 256 + (y : Int) := IntWalk.i64_in _ (by omega)
                have q5 := or_i64 x y hx hy
                have hR := And.intro (RdS.all HR0.out).1 (And.intro (RdS.all HR0.out).2.1 (And.intro (RdS.all HR0.out).2.2.1 (RdS.all HR0.out).2.2.2.1))
                refine wp_region_held_drew (S := (fun w' => (loadS (.pointer (some ⟨g, off + i * 8, none⟩))).run Try.prog w' = .ok (snV s) w' ∧ w'.cell? ⟨w.heap.size, 2, none⟩ = some (.slice (some ⟨dg, doff, none⟩) 2 dcap) ∧ w'.cell? ⟨dg, doff, none⟩ = some (.int .u8 (x : Int)) ∧ w'.cell? ⟨dg, doff + 1, none⟩ = some (.int .u8 (y : Int)))) (by kernel_rfl) ?_ (fun hHeld => ?_)
                · exact hR
                refine wpAnyH_take (i := 0) (oi := _) (v := ?_) rfl (by kernel_rfl) (by kernel_rfl) (by kernel_rfl) (fun _ _ _ h => h) (Or.inl ⟨by rfl, ?_⟩) (by assumption) ?_
                rotate_left 1
                · intro w hSw; (try dsimp only at hSw); go_simp; try (with_reducible rfl)
                try simp only [Act.put, List.getElem_toArray, List.getElem_cons_zero, List.setIfInBounds_toArray, List.set_cons_zero, List.set_cons_succ]
                refine wpAnyH_take (i := 1) (oi := _) (v := ?_) rfl (by kernel_rfl) (by kernel_rfl) (by kernel_rfl) (fun _ _ _ h => h) (Or.inl ⟨by rfl, ?_⟩) (by assumption) ?_
                rotate_left 1
                · intro w hSw; (try dsimp only at hSw); go_simp; try (with_reducible rfl)
                try simp only [Act.put, List.getElem_toArray, List.getElem_cons_zero, List.getElem_cons_succ, List.setIfInBounds_toArray, List.set_cons_zero, List.set_cons_succ]
                refine wpAnyH_take (i := 2) (oi := _) (v := ?_) rfl (by kernel_rfl) (by kernel_rfl) (by kernel_rfl) (fun _ _ _ h => h) (Or.inl ⟨by rfl, ?_⟩) (by assumption) ?_
                rotate_left 1
                · intro w hSw; (try dsimp only at hSw); go_simp; try (with_reducible rfl)
                try simp only [Act.put, List.getElem_toArray, List.getElem_cons_zero, List.getElem_cons_succ, List.setIfInBounds_toArray, List.set_cons_zero, List.set_cons_succ]
                refine wpAnyH_take (i := 3) (oi := _) (v := ?_) rfl (by kernel_rfl) (by kernel_rfl) (by kernel_rfl) (fun _ _ _ h => h) (Or.inl ⟨by rfl, ?_⟩) (by assumption) ?_
                rotate_left 1
                · intro w hSw; (try dsimp only at hSw); go_simp; try (with_reducible rfl)
                try simp only [Act.put, List.getElem_toArray, List.getElem_cons_zero, List.getElem_cons_succ, List.setIfInBounds_toArray, List.set_cons_zero, List.set_cons_succ]
                refine wpAnyH_take (i := 4) (oi := _) (v := ?_) rfl (by kernel_rfl) (by kernel_rfl) (by kernel_rfl) (fun _ _ _ h => h) (Or.inl ⟨by rfl, ?_⟩) (by assumption) ?_
                rotate_left 1
                · intro w hSw; (try dsimp only at hSw); go_simp; try (with_reducible rfl)
                try simp only [Act.put, List.getElem_toArray, List.getElem_cons_zero, List.getElem_cons_succ, List.setIfInBounds_toArray, List.set_cons_zero, List.set_cons_succ]
                refine wpAnyH_take (i := 5) (oi := _) (v := ?_) rfl (by kernel_rfl) (by kernel_rfl) (by kernel_rfl) (fun _ _ _ h => h) (Or.inl ⟨by rfl, ?_⟩) (by assumption) ?_
                rotate_left 1
                · intro w hSw; (try dsimp only at hSw); go_simp; try (with_reducible rfl)
                try simp only [Act.put, List.getElem_toArray, List.getElem_cons_zero, List.getElem_cons_succ, List.setIfInBounds_toArray, List.set_cons_zero, List.set_cons_succ]
                refine wpAnyH_take (i := 6) (oi := _) (v := ?_) rfl (by kernel_rfl) (by kernel_rfl) (by kernel_rfl) (fun _ _ _ h => h) (Or.inl ⟨by rfl, ?_⟩) (by assumption) ?_
                rotate_left 1
                · intro w hSw; (try dsimp only at hSw); go_simp; try (with_reducible rfl)
                try simp only [Act.put, List.getElem_toArray, List.getElem_cons_zero, List.getElem_cons_succ, List.setIfInBounds_toArray, List.set_cons_zero, List.set_cons_succ]
                refine wpAnyH_take (i := 7) (oi := _) (v := ?_) rfl (by kernel_rfl) (by kernel_rfl) (by kernel_rfl) (fun _ _ _ h => h) (Or.inl ⟨by rfl, ?_⟩) (by assumption) ?_
                rotate_left 1
                · intro w hSw; (try dsimp only at hSw); go_simp; try (with_reducible rfl)
                try simp only [Act.put, List.getElem_toArray, List.getElem_cons_zero, List.getElem_cons_succ, List.setIfInBounds_toArray, List.set_cons_zero, List.set_cons_succ]
                refine wpAnyH_take (i := 8) (oi := _) (v := ?_) rfl (by kernel_rfl) (by kernel_rfl) (by kernel_rfl) (fun _ _ _ h => h) (Or.inl ⟨by rfl, ?_⟩) (by assumption) ?_
                rotate_left 1
                · intro w hSw; (try dsimp only at hSw); go_simp; try (with_reducible rfl)
                try simp only [Act.put, List.getElem_toArray, List.getElem_cons_zero, List.getElem_cons_succ, List.setIfInBounds_toArray, List.set_cons_zero, List.set_cons_succ]
                refine wpAnyH_take (i := 9) (oi := _) (v := ?_) rfl (by kernel_rfl) (by kernel_rfl) (by kernel_rfl) (fun _ _ _ h => h) (Or.inl ⟨by rfl, ?_⟩) (by assumption) ?_
                rotate_left 1
                · intro w hSw; (try dsimp only at hSw); go_simp; try (with_reducible rfl)
                try simp only [Act.put, List.getElem_toArray, List.getElem_cons_zero, List.getElem_cons_succ, List.setIfInBounds_toArray, List.set_cons_zero, List.set_cons_succ]
                refine wpAnyH_take (i := 10) (oi := _) (v := ?_) rfl (by kernel_rfl) (by kernel_rfl) (by kernel_rfl) (fun _ _ _ h => h) (Or.inl ⟨by rfl, ?_⟩) (by assumption) ?_
                rotate_left 1
                · intro w hSw; (try dsimp only at hSw); go_simp; try (with_reducible rfl)
                try simp only [Act.put, List.getElem_toArray, List.getElem_cons_zero, List.getElem_cons_succ, List.setIfInBounds_toArray, List.set_cons_zero, List.set_cons_succ]
                refine wpAnyH_take (i := 11) (oi := _) (v := ?_) rfl (by kernel_rfl) (by kernel_rfl) (by kernel_rfl) (fun _ _ _ h => h) (Or.inl ⟨by rfl, ?_⟩) (by assumption) ?_
                rotate_left 1
                · intro w hSw; (try dsimp only at hSw); go_simp; try (with_reducible rfl)
                try simp only [Act.put, List.getElem_toArray, List.getElem_cons_zero, List.getElem_cons_succ, List.setIfInBounds_toArray, List.set_cons_zero, List.set_cons_succ]
                refine wpAnyH_take (i := 12) (oi := _) (v := ?_) rfl (by kernel_rfl) (by kernel_rfl) (by kernel_rfl) (fun _ _ _ h => h) (Or.inl ⟨by rfl, ?_⟩) (by assumption) ?_
                rotate_left 1
                · intro w hSw; (try dsimp only at hSw); go_simp; try (with_reducible rfl)
                try simp only [Act.put, List.getElem_toArray, List.getElem_cons_zero, List.getElem_cons_succ, List.setIfInBounds_toArray, List.set_cons_zero, List.set_cons_succ]
                refine wpAnyH_take (i := 13) (oi := _) (v := ?_) rfl (by kernel_rfl) (by kernel_rfl) (by kernel_rfl) (fun _ _ _ h => h) (Or.inl ⟨by rfl, ?_⟩) (by assumption) ?_
                rotate_left 1
                · intro w hSw; (try dsimp only at hSw); go_simp; try (with_reducible rfl)
                try simp only [Act.put, List.getElem_toArray, List.getElem_cons_zero, List.getElem_cons_succ, List.setIfInBounds_toArray, List.set_cons_zero, List.set_cons_succ]
                refine wpAnyH_take (i := 14) (oi := _) (v := ?_) rfl (by kernel_rfl) (by kernel_rfl) (by kernel_rfl) (fun _ _ _ h => h) (Or.inl ⟨by rfl, ?_⟩) (by assumption) ?_
                rotate_left 1
                · intro w hSw; (try dsimp only at hSw); go_simp; try (with_reducible rfl)
                try simp only [Act.put, List.getElem_toArray, List.getElem_cons_zero, List.getElem_cons_succ, List.setIfInBounds_toArray, List.set_cons_zero, List.set_cons_succ]
                refine wpAnyH_take (i := 15) (oi := _) (v := ?_) rfl (by kernel_rfl) (by kernel_rfl) (by kernel_rfl) (fun _ _ _ h => h) (Or.inl ⟨by rfl, ?_⟩) (by assumption) ?_
                rotate_left 1
                · intro w hSw; (try dsimp only at hSw); go_simp; try (with_reducible rfl)
                try simp only [Act.put, List.getElem_toArray, List.getElem_cons_zero, List.getElem_cons_succ, List.setIfInBounds_toArray, List.set_cons_zero, List.set_cons_succ]
                refine wpAnyH_ready (rs := [16]) (by kernel_rfl) (by simp) ?_
                refine AllReadyH.cons (o := _) rfl (fun K hK => ?_) AllReadyH.nil
                go_simp
                first | refine (HPV.out _).mono ?_ | (rw [q5]; refine (HPV.out _).mono ?_) | (rw [q1, q2, q3, q5]; refine (HPV.out _).mono ?_)
                rintro e w6 ⟨rfl, hg6⟩
                have HR6 := Lib.hid (RdS.by_ HR0.out hg6)
                have hS6 := (RdS.all HR6.out)
                have hS6 := And.intro hS6.1 (And.intro hS6.2.1 (And.intro hS6.2.2.1 hS6.2.2.2.1))
                have k10c := HR6.out.m.cell
                have k10f := HR6.out.m.frozen
                have o7 := gb_set (gb_set (gb_refl w6 (some n10)) ⟨n10, 2, none⟩ (.inl rfl) (.int .i64 vx)) ⟨n10, 3, none⟩ (.inl rfl) (.int .i64 vy)
                have hln := HR6.out.ln
                have HD7 := Lib.hid (HR6.out.de.oth o7 (by omega) (by omega) (by omega))
                have HM7 := Lib.hid ((HR6.out.m.set 2 (.int .i64 vx)).set 3 (.int .i64 vy))
                clear hg6 o7 hln HR0
                go_wp2_with fail
                refine hK.out _ _ ?_ (fun hHeld2 => ?_)
                · exact hS6
                clear hK K hHeld
                have hHeld := hHeld2
                clear hHeld2
                try simp only [Act.put, List.getElem_toArray, List.getElem_cons_zero, List.getElem_cons_succ, List.setIfInBounds_toArray, List.set_cons_zero, List.set_cons_succ]
                refine wpAnyH_take (i := 17) (oi := _) (v := ?_) rfl (by kernel_rfl) (by kernel_rfl) (by kernel_rfl) (fun _ _ _ h => h) (Or.inl ⟨by rfl, ?_⟩) (by assumption) ?_
                rotate_left 1
                · intro w hSw; (try dsimp only at hSw); go_simp; try (with_reducible rfl)
                try simp only [Act.put, List.getElem_toArray, List.getElem_cons_zero, List.getElem_cons_succ, List.setIfInBounds_toArray, List.set_cons_zero, List.set_cons_succ]
                refine wpAnyH_ready (rs := [18]) (by kernel_rfl) (by simp) ?_
                refine AllReadyH.cons (o := _) rfl (fun K hK => ?_) AllReadyH.nil
                go_simp
                have hS6 := And.intro (run_loadS (HLI.out.by_ HD7.out.g)) (And.intro (HD7.out.k4.cell 2) (And.intro (cell_by HB0.out HD7.out.g) (cell_by HB1.out HD7.out.g)))
                refine hK.out _ _ ?_ (fun hHeld2 => ?_)
                · exact hS6
                clear hK K hHeld
                have hHeld := hHeld2
                clear hHeld2
                try simp only [Act.put]
                refine wpAnyH_done (by kernel_rfl) ?_ _
                clear hHeld hS6 k10c k10f hR
                generalize World.setCell _ ⟨n10, 3, none⟩ _ = W8 at *
                have m7c := HM7.out.cell
                have k6c := HD7.out.k6.cell
                have k6f := HD7.out.k6.frozen
                have F := HD7.out.fin i t vx vy
                simp only [setC] at F
                have HF9 := Lib.hid F
                clear F
                go_wp2_with fail
                clear k6c k6f m7c
                generalize World.setCell _ ⟨w.heap.size + 1, 3, none⟩ _ = W9 at *
                have f9c := HF9.out.1.cell
                refine bodyPost_ret (v := .tuple #[.agg #[.int .i64 i, .int .i64 t, .int .i64 vx, .int .i64 vy], .int .i64 0]) (by simp [results, Try.results26, go_sem, f9c]) rfl ?_
                exact ⟨rfl, HF9.out.2⟩
              · have d2' : ((data.length : Int) == 2) = false := beq_false_of_ne (by omega)
                have d3' : ((data.length : Int) != 2) = true := bne_iff_ne.2 (by omega)
                obtain ⟨⟨rfl, rfl, rfl, rfl⟩, rfl⟩ : (r1 = 0 ∧ r2 = 0 ∧ r3 = 0 ∧ r4 = 0) ∧ rc = 6 := by
                  have := HV.out
                  rw [show saidSn s ⟨ad, 1, data⟩ = ((0, 0), 6) by unfold saidSn; rw [if_neg (fun h => d2 h.2), if_neg (by simp), if_pos (.inl rfl)]] at this; rw [if_pos (by simp)] at this
                  simp only [Prod.mk.injEq] at this
                  obtain ⟨⟨h1, h2, h3, h4⟩, h5⟩ := this
                  exact ⟨⟨h1.symm, h2.symm, h3.symm, h4.symm⟩, h5.symm⟩
                have k6c := HS4.out.k6.cell
                have k6f := HS4.out.k6.frozen
                have F := HS4.out.fin 0 0 0 0
                simp only [setC] at F
                have HF9 := Lib.hid F
                clear F
                go_wp2_with fail
                clear k6c k6f f1 f2
                generalize World.setCell _ ⟨w.heap.size + 1, 3, none⟩ _ = W9 at *
                have f9c := HF9.out.1.cell
                refine bodyPost_ret (v := .tuple #[.agg #[.int .i64 0, .int .i64 0, .int .i64 0, .int .i64 0], .int .i64 6]) (by simp [results, Try.results26, go_sem, f9c]) rfl ?_
                exact ⟨rfl, HF9.out.2⟩
            · by_cases d2 : kd = 2
              · subst d2
                by_cases d3 : data.length = 0
                · obtain rfl : data = [] := List.eq_nil_of_length_eq_zero d3
                  have hV4 := HV.out
                  rw [show saidSn s ⟨ad, 2, []⟩ = (nothingSp, 0) by unfold saidSn; rw [if_neg (by simp), if_pos ⟨rfl, rfl⟩], if_neg (by simp), HNO.out] at hV4
                  simp only [Prod.mk.injEq] at hV4
                  obtain ⟨⟨hr1, hr2, hr3, hr4⟩, hr5⟩ := hV4
                  subst hr1 hr2 hr3 hr4 hr5
                  clear HV HNO
                  go_wp2_with fail
                  refine (PN.out _).mono ?_
                  rintro e W5 ⟨rfl, hg⟩
                  have g6 := gb_alloc hg (.cells #[.int .i64 i, .int .i64 t, .int .i64 na, .int .i64 nb] 43)
                  have HS6 := Lib.hid (HS4.out.by_ g6)
                  have HM6 := Lib.hid (Bk.new W5 #[.int .i64 i, .int .i64 t, .int .i64 na, .int .i64 nb] 43)
                  clear hg g6 HS4 f1 f2
                  go_upto_region 16 with fail
                  generalize W5.alloc _ = W6 at *
                  generalize W5.heap.size = n10 at *
                  have f1 : W6.cell? ⟨w.heap.size, 1, none⟩ = some (.int .i64 2) := HS6.out.k4.cell 1
                  have m7c := HM6.out.cell
                  have k6c := HS6.out.k6.cell
                  have k6f := HS6.out.k6.frozen
                  have F := HS6.out.fin i t na nb
                  simp only [setC] at F
                  have HF9 := Lib.hid F
                  clear F
                  go_wp2_with fail
                  clear k6c k6f m7c f1
                  generalize World.setCell _ ⟨w.heap.size + 1, 3, none⟩ _ = W9 at *
                  have f9c := HF9.out.1.cell
                  refine bodyPost_ret (v := .tuple #[.agg #[.int .i64 i, .int .i64 t, .int .i64 na, .int .i64 nb], .int .i64 0]) (by simp [results, Try.results26, go_sem, f9c]) rfl ?_
                  exact ⟨rfl, HF9.out.2⟩
                · have d4' : ((data.length : Int) == 0) = false := beq_false_of_ne (by omega)
                  have d5' : ((data.length : Int) != 0) = true := bne_iff_ne.2 (by omega)
                  obtain ⟨⟨rfl, rfl, rfl, rfl⟩, rfl⟩ : (r1 = 0 ∧ r2 = 0 ∧ r3 = 0 ∧ r4 = 0) ∧ rc = 6 := by
                    have := HV.out
                    rw [show saidSn s ⟨ad, 2, data⟩ = ((0, 0), 6) by unfold saidSn; rw [if_neg (by simp), if_neg (fun h => d3 h.2), if_pos (.inr rfl)]] at this; rw [if_pos (by simp)] at this
                    simp only [Prod.mk.injEq] at this
                    obtain ⟨⟨h1, h2, h3, h4⟩, h5⟩ := this
                    exact ⟨⟨h1.symm, h2.symm, h3.symm, h4.symm⟩, h5.symm⟩
                  have k6c := HS4.out.k6.cell
                  have k6f := HS4.out.k6.frozen
                  have F := HS4.out.fin 0 0 0 0
                  simp only [setC] at F
                  have HF9 := Lib.hid F
                  clear F
                  go_wp2_with fail
                  clear k6c k6f f1 f2
                  generalize World.setCell _ ⟨w.heap.size + 1, 3, none⟩ _ = W9 at *
                  have f9c := HF9.out.1.cell
                  refine bodyPost_ret (v := .tuple #[.agg #[.int .i64 0, .int .i64 0, .int .i64 0, .int .i64 0], .int .i64 6]) (by simp [results, Try.results26, go_sem, f9c]) rfl ?_
                  exact ⟨rfl, HF9.out.2⟩
              · have e1 : (kd == 1) = false := beq_false_of_ne d1
                have e2 : (kd == 2) = false := beq_false_of_ne d2
                have e3 : (kd != 1) = true := bne_iff_ne.2 d1
                have e4 : (kd != 2) = true := bne_iff_ne.2 d2
                obtain ⟨⟨rfl, rfl, rfl, rfl⟩, rfl⟩ : (r1 = 0 ∧ r2 = 0 ∧ r3 = 0 ∧ r4 = 0) ∧ rc = 5 := by
                  have := HV.out
                  rw [show saidSn s ⟨ad, kd, data⟩ = ((0, 0), 5) by unfold saidSn; rw [if_neg (by dsimp only; omega), if_neg (by dsimp only; omega), if_neg (by dsimp only; omega)]] at this; rw [if_pos (by simp)] at this
                  simp only [Prod.mk.injEq] at this
                  obtain ⟨⟨h1, h2, h3, h4⟩, h5⟩ := this
                  exact ⟨⟨h1.symm, h2.symm, h3.symm, h4.symm⟩, h5.symm⟩
                have k6c := HS4.out.k6.cell
                have k6f := HS4.out.k6.frozen
                have F := HS4.out.fin 0 0 0 0
                simp only [setC] at F
                have HF9 := Lib.hid F
                clear F
                go_wp2_with fail
                clear k6c k6f f1 f2
                generalize World.setCell _ ⟨w.heap.size + 1, 3, none⟩ _ = W9 at *
                have f9c := HF9.out.1.cell
                refine bodyPost_ret (v := .tuple #[.agg #[.int .i64 0, .int .i64 0, .int .i64 0, .int .i64 0], .int .i64 5]) (by simp [results, Try.results26, go_sem, f9c]) rfl ?_
                exact ⟨rfl, HF9.out.2⟩
          · have c1' : (ck != 0) = true := bne_iff_ne.2 c1
            have HV := HV2
            obtain ⟨⟨rfl, rfl, rfl, rfl⟩, rfl⟩ : (r1 = 0 ∧ r2 = 0 ∧ r3 = 0 ∧ r4 = 0) ∧ rc = 9 := by
              have := HV.out
              rw [if_pos c1] at this
              simp only [Prod.mk.injEq] at this
              obtain ⟨⟨h1, h2, h3, h4⟩, h5⟩ := this
              exact ⟨⟨h1.symm, h2.symm, h3.symm, h4.symm⟩, h5.symm⟩
            have k6c := HS4.out.k6.cell
            have k6f := HS4.out.k6.frozen
            have F := HS4.out.fin 0 0 0 0
            simp only [setC] at F
            have HF9 := Lib.hid F
            clear F
            go_wp2_with fail
            clear k6c k6f
            generalize World.setCell _ ⟨w.heap.size + 1, 3, none⟩ _ = W9 at *
            have f9c := HF9.out.1.cell
            refine bodyPost_ret (v := .tuple #[.agg #[.int .i64 0, .int .i64 0, .int .i64 0, .int .i64 0], .int .i64 9]) (by simp [results, Try.results26, go_sem, f9c]) rfl ?_
            exact ⟨rfl, HF9.out.2⟩
  · rw [decide_eq_false c0]
    obtain ⟨⟨rfl, rfl, rfl, rfl⟩, rfl⟩ : (r1 = 0 ∧ r2 = 0 ∧ r3 = 0 ∧ r4 = 0) ∧ rc = 8 := by
      have := HV.out
      rw [if_pos c0] at this
      simp only [Prod.mk.injEq] at this
      obtain ⟨⟨h1, h2, h3, h4⟩, h5⟩ := this
      exact ⟨⟨h1.symm, h2.symm, h3.symm, h4.symm⟩, h5.symm⟩
    have k6c := HS1.out.k6.cell
    have k6f := HS1.out.k6.frozen
    have F := HS1.out.fin 0 0 0 0
    simp only [setC] at F
    have HF9 := Lib.hid F
    clear F
    go_wp2_with fail
    clear k6c k6f
    generalize World.setCell _ ⟨w.heap.size + 1, 3, none⟩ _ = W9 at *
    have f9c := HF9.out.1.cell
    refine bodyPost_ret (v := .tuple #[.agg #[.int .i64 0, .int .i64 0, .int .i64 0, .int .i64 0], .int .i64 8]) (by simp [results, Try.results26, go_sem, f9c]) rfl ?_
    exact ⟨rfl, HF9.out.2⟩
end Go.Proofs.Ytackckljldpldaa
