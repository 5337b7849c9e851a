/- The statement SensorTrue: the walk. -/
import Derived.Test.YtackckljldpldaaNs
namespace Go.Proofs.Ytackckljldpldaa
open Go.RowKit
attribute [local go_sem ↓] Go.wp_at_zero Go.wp_at_succ loadAt_s

theorem run_loadS_l {W : World} {g o : Nat} {s : Sn} (k : SnAt W g o s) : (loadS (.pointer (some ⟨g, o, none⟩))).run Try.prog W = .ok (.agg #[.int .i64 s.addr, .int .i64 s.kind, .int .i64 s.target, .int .i64 s.offset, .int .i64 s.scale, .int .i64 s.error, .int .i64 s.drift, .int .i64 s.life]) W := run_loadS k
/-- The maths of it. -/
theorem true_maths {o P e m V X1 X2 : Int} (_ : 0 ≤ e) (hm : 1000 * o + P = m) {md : Int} (hmd : 0 ≤ md) (hV : m / 1000 + md - e = V) (hX1 : o + P / 1000 - e = X1) (hX2 : o + -((-P) / 1000) + e = X2) (hc : 1000 * V - m ≤ 1000 * e) : X1 ≤ V ∧ V ≤ X2 := by
  subst hm hV hX1 hX2
  omega

set_option maxRecDepth 100000 in
set_option maxHeartbeats 16000000 in
theorem true_walk (cv : Value) (lc : List Nat) (n off more : Int) (w : World) (hc : Sl w cv 1 lc.length (bytes lc)) (hb : ∀ x ∈ lc, x < 256) (hn : 0 ≤ n ∧ n ≤ 65535) (ho1 : -9223372036854775808 ≤ off) (ho2 : off ≤ 9223372036854775807) (hm : 0 ≤ more ∧ more ≤ 255) :
    Calls Try.prog 6 #[cv, .int .u16 n, .int .i64 off, .int .u8 more] w fun e w' => e = .returned (.bool true) ∧ w.grownBy w' none := by
  obtain ⟨a, cap, rfl, _, _, _⟩ := hc.shape
  have HN := Lib.hid (new_sl _ lc w hc hb)
  have hwn : wrap64 n = n := IntWalk.wrap64_in n (by omega)
  have hwm : wrap64 more = more := IntWalk.wrap64_in more (by omega)
  clear hc hb
  go_enter Try.func6, Try.ntmps6
  go_wp2_with fail
  refine HN.out.mono ?_
  rintro e W2 ⟨rfl, ⟨l3, hcd⟩, hg⟩
  have HS := Lib.hid (sensor_any w.heap.size l3 0 3 0 0 W2 hcd)
  have G2 := Lib.hid hg
  clear hcd hg HN
  go_wp2_with fail
  refine HS.out.mono ?_
  rintro e W3 ⟨s, rfl, hk, hl, hx, _, hg3⟩
  have hck := ck_drawn hk hl hx (by omega) (by omega) (by omega)
  have hoff : -50 ≤ s.offset ∧ s.offset ≤ 20 := by omega
  have hsc : 300 ≤ s.scale ∧ s.scale ≤ 2000 := by omega
  have her : 0 ≤ s.error ∧ s.error ≤ 5 := by omega
  have hkd : s.kind = 3 := hk.1
  have HCK := Lib.hid hck
  have HKD := Lib.hid hkd
  have hwide : ∀ e', 0 ≤ e' → e' ≤ 300 → ckSn { s with error := e' } = 0 := fun e' h1 h2 => ck_of (by dsimp only; omega) (by unfold snOk; dsimp only; omega)
  have HW := Lib.hid hwide
  clear hk hl hx hck hkd hwide HS
  have S4 : SnAt (W3.alloc (.cells (senL s).toArray 24)) W3.heap.size 0 s := Bk.snAt (Bk.new _ _ _)
  have G4 := Lib.hid (gb_alloc (gb_new G2.out hg3 (Nat.le_refl _)) (.cells (senL s).toArray 24))
  have HS4 := Lib.hid S4
  clear S4 hg3 G2
  unfold senL at HS4 G4 ⊢
  go_upto_region 3 with fail
  generalize W3.alloc _ = W4 at *
  generalize W3.heap.size = n10 at *
  have L4 := run_loadS_l HS4.out
  obtain ⟨p, hp⟩ : ∃ p, valSn s n = p := ⟨_, rfl⟩
  obtain ⟨X1, X2⟩ := p
  have PV := Lib.hid (fun w => pVal_any s n w (by omega) (by omega))
  rw [hp] at PV
  have HX := Lib.hid ((sc_flow HCK.out HKD.out hn).symm.trans hp)
  clear hp
  dsimp only at PV
  unfold senL at PV
  go_wp2_with fail
  refine (PV.out _).mono ?_
  rintro e W5 ⟨rfl, hg5⟩
  have g6 := gb_alloc hg5 (.cells #[.int .i64 X1, .int .i64 X2] 29)
  have HK6 := Lib.hid (Bk.new W5 #[.int .i64 X1, .int .i64 X2] 29)
  have HS6 := Lib.hid (HS4.out.by_ g6)
  have G6 := Lib.hid (gb_none G4.out g6)
  clear g6 hg5 HS4 G4 L4 PV
  go_upto_region 4 with fail
  generalize W5.alloc _ = W6 at *
  generalize W5.heap.size = n11 at *
  -- the numbers
  obtain ⟨P, hP⟩ : ∃ P, s.scale * n = P := ⟨_, rfl⟩
  have hPb := mul_bd (show -1000000 ≤ s.scale ∧ s.scale ≤ 1000000 by omega) hn
  rw [hP] at hPb HX
  obtain ⟨oT, hoT⟩ : ∃ oT, 1000 * s.offset = oT := ⟨_, rfl⟩
  obtain ⟨m, hm'⟩ : ∃ m, oT + P = m := ⟨_, rfl⟩
  obtain ⟨e2, he2⟩ : ∃ e2, 2 * s.error = e2 := ⟨_, rfl⟩
  obtain ⟨e21, he21⟩ : ∃ e21, e2 + 1 = e21 := ⟨_, rfl⟩
  obtain ⟨fl, hfl⟩ : ∃ fl, m / 1000 = fl := ⟨_, rfl⟩
  obtain ⟨md, hmd⟩ : ∃ md, off % e21 = md := ⟨_, rfl⟩
  have hmdb : 0 ≤ md ∧ md < e21 := by rw [← hmd]; exact ⟨Int.emod_nonneg _ (by omega), Int.emod_lt_of_pos _ (by omega)⟩
  obtain ⟨fm, hfm⟩ : ∃ fm, fl + md = fm := ⟨_, rfl⟩
  obtain ⟨V, hV⟩ : ∃ V, fm - s.error = V := ⟨_, rfl⟩
  obtain ⟨vT, hvT⟩ : ∃ vT, 1000 * V = vT := ⟨_, rfl⟩
  obtain ⟨d1, hd1⟩ : ∃ d1, vT - m = d1 := ⟨_, rfl⟩
  obtain ⟨d2, hd2⟩ : ∃ d2, m - vT = d2 := ⟨_, rfl⟩
  obtain ⟨eT, heT⟩ : ∃ eT, 1000 * s.error = eT := ⟨_, rfl⟩
  obtain ⟨ew, hew⟩ : ∃ ew, s.error + more = ew := ⟨_, rfl⟩
  have hew2 : 0 ≤ ew ∧ ew ≤ 300 := by omega
  have w1 : wrap64 (s.scale * n) = P := by rw [hP]; exact IntWalk.wrap64_in P (by omega)
  have w2 : wrap64 (1000 * s.offset) = oT := by rw [hoT]; exact IntWalk.wrap64_in oT (by omega)
  have w3 : wrap64 (oT + P) = m := by rw [hm']; exact IntWalk.wrap64_in m (by omega)
  have w4 : wrap64 (2 * s.error) = e2 := by rw [he2]; exact IntWalk.wrap64_in e2 (by omega)
  have w5 : wrap64 (e2 + 1) = e21 := by rw [he21]; exact IntWalk.wrap64_in e21 (by omega)
  have w6 : wrap64 (fl + md) = fm := by rw [hfm]; exact IntWalk.wrap64_in fm (by omega)
  have w7 : wrap64 (fm - s.error) = V := by rw [hV]; exact IntWalk.wrap64_in V (by omega)
  have w8 : wrap64 (1000 * V) = vT := by rw [hvT]; exact IntWalk.wrap64_in vT (by omega)
  have w9 : wrap64 (vT - m) = d1 := by rw [hd1]; exact IntWalk.wrap64_in d1 (by omega)
  have w10 : wrap64 (m - vT) = d2 := by rw [hd2]; exact IntWalk.wrap64_in d2 (by omega)
  have w11 : wrap64 (1000 * s.error) = eT := by rw [heT]; exact IntWalk.wrap64_in eT (by omega)
  have w12 : wrap64 (s.error + more) = ew := by rw [hew]; exact IntWalk.wrap64_in ew (by omega)
  have u4 : IntKind.i64.wrap (2 * s.error) = e2 := by rw [he2]; exact IntWalk.i64_in e2 (by omega)
  have u5 : IntKind.i64.wrap (e2 + 1) = e21 := by rw [he21]; exact IntWalk.i64_in e21 (by omega)
  have u6 : IntKind.i64.wrap (fl + md) = fm := by rw [hfm]; exact IntWalk.i64_in fm (by omega)
  have u7 : IntKind.i64.wrap (fm - s.error) = V := by rw [hV]; exact IntWalk.i64_in V (by omega)
  have U := Lib.hid (And.intro u4 (And.intro u5 (And.intro u6 u7)))
  clear u4 u5 u6 u7
  have HM := Lib.hid (show d1 ≤ eT → X1 ≤ V ∧ V ≤ X2 by
    intro hc
    injection HX.out with hX1 hX2
    exact true_maths (o := s.offset) (P := P) (e := s.error) (m := m) her.1 (by omega) hmdb.1 (by omega) hX1 hX2 (by omega))
  have HEW := Lib.hid (show ∀ p, valSn { s with error := ew } n = p → p.1 ≤ X1 ∧ X2 ≤ p.2 by
    intro p hp
    rw [sc_flow (HW.out ew hew2.1 hew2.2) HKD.out hn] at hp
    injection HX.out with hX1 hX2
    rw [← hp]
    dsimp only
    rw [hP]
    omega)
  have HF := Lib.hid (fun w => floor_any m w (by omega) (by omega))
  rw [hfl] at HF
  have HMO := Lib.hid (fun w => mod_pos off e21 w (by omega) ho1 ho2 (by omega))
  rw [hmd] at HMO
  clear her hP hoT hm' he2 he21 hfl hmd hfm hV hvT hd1 hd2 heT hew hPb hmdb hoff hsc HX ho1 ho2
  have c3 : W6.cell? ⟨n10, 3, none⟩ = some (.int .i64 s.offset) := HS6.out.2.2.2.1
  have c4 : W6.cell? ⟨n10, 4, none⟩ = some (.int .i64 s.scale) := HS6.out.2.2.2.2.1
  have c5 : W6.cell? ⟨n10, 5, none⟩ = some (.int .i64 s.error) := HS6.out.2.2.2.2.2.1
  go_wp2_with fail
  have hE0 : W6.drew.cell? ⟨n10, 5, none⟩ = some (.int .i64 s.error) := c5
  go_region_held3 (fun w' => w'.cell? ⟨n10, 5, none⟩ = some (.int .i64 s.error))
    (first | (with_reducible exact hE0) | fail)
    ((first
      | (go_at_call 29; (with_reducible refine (HF.out _).mono ?_); rintro e w6 ⟨rfl, rfl⟩)
      | (go_at_call 15; (rw [U.out.1, U.out.2.1]); (with_reducible refine (HMO.out _).mono ?_); rintro e w6 ⟨rfl, rfl⟩)
      | fail))
  all_goals
    clear c3 c4 c5
    have HS6' := Lib.hid (show SnAt W6.drew n10 0 s from HS6.out)
    have HK6' := Lib.hid (show Bk W6.drew n11 #[.int .i64 X1, .int .i64 X2] 29 from HK6.out)
    have G6' := Lib.hid (gb_none G6.out (gb_drew (gb_refl W6 none)))
    clear HS6 HK6 G6
    generalize W6.drew = W7 at *
    rw [U.out.2.2.1, U.out.2.2.2]
    have c5 : W7.cell? ⟨n10, 5, none⟩ = some (.int .i64 s.error) := HS6'.out.2.2.2.2.2.1
    clear U HF HMO hE0
    by_cases q1 : eT < d1
    · have q1' : decide (eT < d1) = true := by simpa using q1
      go_wp2_with fail
      refine (awake_any _).mono ?_
      rintro e W8 ⟨rfl, hg⟩
      go_wp2_with fail
      go_ret
      exact ⟨rfl, gb_none G6'.out hg⟩
    · have q1' : decide (eT < d1) = false := by simpa using q1
      by_cases q2 : eT < d2
      · have q2' : decide (eT < d2) = true := by simpa using q2
        go_wp2_with fail
        refine (awake_any _).mono ?_
        rintro e W8 ⟨rfl, hg⟩
        go_wp2_with fail
        go_ret
        exact ⟨rfl, gb_none G6'.out hg⟩
      · have q2' : decide (eT < d2) = false := by simpa using q2
        have hVX := HM.out (by omega)
        clear HM
        have L7 := run_loadS_l HS6'.out
        have g8 := gb_alloc (gb_refl W7 none) (.cells (senL s).toArray 24)
        have HB8 := Lib.hid (Bk.new W7 (senL s).toArray 24)
        have HK8 := Lib.hid (HK6'.out.of g8 (by simp))
        have G8 := Lib.hid (gb_none G6'.out g8)
        have hle : w.heap.size ≤ W7.heap.size := G6'.out.size
        have hne : n11 ≠ W7.heap.size := Nat.ne_of_lt HK6'.out.lt
        clear g8 HS6' HK6' G6'
        unfold senL at HB8 HK8 G8
        go_upto_region 9 with fail
        clear L7 c5
        generalize W7.alloc _ = W8 at *
        generalize W7.heap.size = n14 at *
        have k8c := HB8.out.cell
        have k8f := HB8.out.frozen
        have g9 := gb_set (gb_refl W8 (some n14)) ⟨n14, 5, none⟩ (.inl rfl) (.int .i64 ew)
        have HB9 := Lib.hid (HB8.out.set 5 (.int .i64 ew))
        have HK9 := Lib.hid (HK8.out.of g9 (by simpa using Ne.symm hne))
        have G9 := Lib.hid (gb_new G8.out g9 hle)
        clear g9 HB8 HK8 G8
        go_upto_region 10 with fail
        clear k8c k8f
        generalize World.setCell _ ⟨n14, 5, none⟩ _ = W9 at *
        obtain ⟨p, hp⟩ : ∃ p, valSn { s with error := ew } n = p := ⟨_, rfl⟩
        obtain ⟨Y1, Y2⟩ := p
        have hY := HEW.out _ hp
        have PV := Lib.hid (fun w => pVal_any { s with error := ew } n w (by omega) (by omega))
        rw [hp] at PV
        dsimp only [senL] at PV hY
        clear hp HEW
        have S9 : SnAt W9 n14 0 { s with error := ew } := Bk.snAt (by simpa [senL] using HB9.out)
        have L9 := run_loadS_l S9
        dsimp only at L9
        clear S9
        go_wp2_with fail
        refine (PV.out _).mono ?_
        rintro e W10 ⟨rfl, hg10⟩
        have g11 := gb_alloc hg10 (.cells #[.int .i64 Y1, .int .i64 Y2] 29)
        have HK11 := Lib.hid (HK9.out.of g11 (by simp))
        have HY11 := Lib.hid (Bk.new W10 #[.int .i64 Y1, .int .i64 Y2] 29)
        have G11 := Lib.hid (gb_none G9.out g11)
        clear L9 HB9 HK9 G9 hg10 g11 PV
        go_upto_region 11 with fail
        generalize W10.alloc _ = W11 at *
        generalize W10.heap.size = n15 at *
        have x0 : W11.cell? ⟨n11, 0, none⟩ = some (.int .i64 X1) := HK11.out.cell 0
        have x1 : W11.cell? ⟨n11, 1, none⟩ = some (.int .i64 X2) := HK11.out.cell 1
        have y0 : W11.cell? ⟨n15, 0, none⟩ = some (.int .i64 Y1) := HY11.out.cell 0
        have y1 : W11.cell? ⟨n15, 1, none⟩ = some (.int .i64 Y2) := HY11.out.cell 1
        obtain ⟨v1, v2⟩ := hVX
        obtain ⟨v3, v4⟩ := hY
        have b1 : decide (X1 ≤ V) = true := by simpa using v1
        have b2 : decide (V ≤ X2) = true := by simpa using v2
        have b3 : decide (Y1 ≤ X1) = true := by simpa using v3
        have b4 : decide (X2 ≤ Y2) = true := by simpa using v4
        go_wp2_with fail
        refine (awake_any _).mono ?_
        rintro e W12 ⟨rfl, hg⟩
        go_wp2_with fail
        go_ret
        exact ⟨rfl, gb_none G11.out hg⟩
end Go.Proofs.Ytackckljldpldaa
