/- The statement SensorFaults: the walk. -/
import Derived.Test.YtackckljldpldaaTr
import Derived.Test.YtackckljldpldaaRp
namespace Go.Proofs.Ytackckljldpldaa
open Go.RowKit
attribute [local go_sem ↓] Go.wp_at_zero Go.wp_at_succ loadAt_s

theorem dec_state1 {s : Sn} (hck : ckSn s = 0) (ha : s.addr = 5) : decSn [s] ⟨5, 2, []⟩ 3 = ((0, 3, nothingSp.1, nothingSp.2), 0) := by
  have hf : fIdx 5 0 [s] = 0 := by unfold fIdx; rw [if_pos ha]; rfl
  unfold decSn
  rw [if_neg (by omega)]
  dsimp only
  rw [hf, if_neg (by omega)]
  simp [hck, saidSn]
theorem dec_state2 {s : Sn} (hck : ckSn s = 0) (ha : s.addr = 5) (hi lo : Nat) (n : Int) (hn : (hi : Int) * 256 + lo = n) : decSn [s] ⟨5, 1, [hi, lo]⟩ 3 = ((0, 3, (valSn s n).1, (valSn s n).2), 0) := by
  have hf : fIdx 5 0 [s] = 0 := by unfold fIdx; rw [if_pos ha]; rfl
  unfold decSn
  rw [if_neg (by omega)]
  dsimp only
  rw [hf, if_neg (by omega)]
  simp [hck, saidSn, hn]

/-- The two measurements and what is wanted. -/
structure FaS (w : World) (n11 n13 n15 : Nat) (a b x y : Int) (W : World) : Prop where
  m11 : Bk W n11 #[.int .i64 0, .int .i64 3, .int .i64 a, .int .i64 b] 43
  m13 : Bk W n13 #[.int .i64 0, .int .i64 3, .int .i64 x, .int .i64 y] 43
  s15 : Bk W n15 #[.int .i64 x, .int .i64 y] 29
  g : w.grownBy W none
theorem FaS.by_ {w : World} {n11 n13 n15 : Nat} {a b x y : Int} {W W' : World} (h : FaS w n11 n13 n15 a b x y W) (o : W.grownBy W' none) : FaS w n11 n13 n15 a b x y W' := ⟨h.m11.of o (by simp), h.m13.of o (by simp), h.s15.of o (by simp), gb_none h.g o⟩
theorem FaS.all {w : World} {n11 n13 n15 : Nat} {a b x y : Int} {W : World} (h : FaS w n11 n13 n15 a b x y W) : W.cell? ⟨n11, 2, none⟩ = some (.int .i64 a) ∧ W.cell? ⟨n11, 3, none⟩ = some (.int .i64 b) ∧ W.cell? ⟨n13, 2, none⟩ = some (.int .i64 x) ∧ W.cell? ⟨n13, 3, none⟩ = some (.int .i64 y) ∧ W.cell? ⟨n15, 0, none⟩ = some (.int .i64 x) ∧ W.cell? ⟨n15, 1, none⟩ = some (.int .i64 y) ∧ FaS w n11 n13 n15 a b x y W :=
  ⟨h.m11.cell 2, h.m11.cell 3, h.m13.cell 2, h.m13.cell 3, h.s15.cell 0, h.s15.cell 1, h⟩

set_option maxRecDepth 100000 in
set_option maxHeartbeats 16000000 in
theorem faults_walk (cv : Value) (lc : List Nat) (n kd : Int) (w : World) (hc : Sl w cv 1 lc.length (bytes lc)) (hb : ∀ x ∈ lc, x < 256) (hn : 0 ≤ n ∧ n ≤ 65535) (hkd : 0 ≤ kd ∧ kd ≤ 255) :
    Calls Try.prog 7 #[cv, .int .u16 n, .int .u8 kd] w fun e w' => e = .returned (.bool true) ∧ w.grownBy w' none := by
  obtain ⟨a, cap, rfl, _, _, _⟩ := hc.shape
  have HN := Lib.hid (new_sl _ lc w hc hb)
  have hwn : wrap64 n = n := IntWalk.wrap64_in n (by omega)
  have hwk : wrap64 kd = kd := IntWalk.wrap64_in kd (by omega)
  obtain ⟨m, hm⟩ : ∃ m, kd.tmod 3 = m := ⟨_, rfl⟩
  have hm1 : 0 ≤ m ∧ m < 3 := by
    have h1 := Int.tmod_nonneg 3 hkd.1
    have h2 := Int.tmod_lt_of_pos kd (show (0 : Int) < 3 by omega)
    omega
  obtain ⟨k, hk⟩ : ∃ k, 4 + m = k := ⟨_, rfl⟩
  have hw4 : wrap64 (4 + m) = k := by rw [hk]; exact IntWalk.wrap64_in k (by omega)
  obtain ⟨mo, hmo⟩ : ∃ mo : Int, (m = 0 ∧ mo = 1) ∨ (m = 1 ∧ mo = 2) ∨ (m = 2 ∧ mo = 5) := by
    rcases (show m = 0 ∨ m = 1 ∨ m = 2 by omega) with h | h | h
    · exact ⟨1, .inl ⟨h, rfl⟩⟩
    · exact ⟨2, .inr (.inl ⟨h, rfl⟩)⟩
    · exact ⟨5, .inr (.inr ⟨h, rfl⟩)⟩
  have HK := Lib.hid hk
  have HMO := Lib.hid hmo
  have HM1 := Lib.hid hm1
  clear hc hb hk hmo hm1 hkd
  go_enter Try.func7, Try.ntmps7
  go_wp2_with fail
  refine HN.out.mono ?_
  rintro e W2 ⟨rfl, ⟨l3, hcd⟩, hg⟩
  have G2 := Lib.hid hg
  have HCD := Lib.hid hcd
  clear hg HN hcd
  go_upto_region 3 with fail
  go_cut [9] from 9 to 27 (fun t wx => t = .int .i64 mo ∧ W2.grownBy wx none)
  case first =>
    have kb := Bk.new W2 #[.int .i64 1, .int .i64 2, .int .i64 5] 3
    have gb := gb_alloc (gb_refl W2 none) (.cells #[.int .i64 1, .int .i64 2, .int .i64 5] 3)
    have kc0 := kb.cell 0
    have kc1 := kb.cell 1
    have kc2 := kb.cell 2
    clear kb
    rcases HMO.out with ⟨rfl, rfl⟩ | ⟨rfl, rfl⟩ | ⟨rfl, rfl⟩
    all_goals
      go_wp2_with fail
      go_meet
      exact ⟨rfl, gb⟩
  case rest =>
    obtain ⟨rfl, hgc⟩ := hcut
    have G3 := Lib.hid (gb_none G2.out hgc)
    have HS := Lib.hid (sensor_any w.heap.size l3 0 k 5 0 _ (HCD.out.keep hgc (fun g e => by cases e)))
    clear hgc HCD G2
    go_wp2_with fail
    refine HS.out.mono ?_
    rintro e W4 ⟨s, rfl, hk', hl, hx, _, hg4⟩
    have hkk : 4 ≤ k ∧ k ≤ 6 := by have := HK.out; have := HM1.out; omega
    have hck := ck_drawn hk' hl hx (by omega) (by omega) (by omega)
    have hval : valSn s n = if mo < n then nothingSp else (n, n) := by
      have h1 := HK.out
      have h2 : (if s.kind = 6 then (5 : Int) else if s.kind = 5 then 2 else 1) = mo := by
        rw [hk'.1]
        rcases HMO.out with ⟨e1, e2⟩ | ⟨e1, e2⟩ | ⟨e1, e2⟩
        · rw [if_neg (by omega), if_neg (by omega), e2]
        · rw [if_neg (by omega), if_pos (by omega), e2]
        · rw [if_pos (by omega), e2]
      unfold valSn
      rw [if_neg (by rw [hck]; omega), if_pos (by omega), h2]
    have HV := Lib.hid hval
    have hd1 := dec_state1 hck hk'.2.1
    have HD2 := Lib.hid (fun hi lo h => dec_state2 hck hk'.2.1 hi lo n h)
    have S5 : SnAt (W4.alloc (.cells (senL s).toArray 24)) W4.heap.size 0 s := Bk.snAt (Bk.new _ _ _)
    have G5 := Lib.hid (gb_alloc (gb_new G3.out hg4 (Nat.le_refl _)) (.cells (senL s).toArray 24))
    have HS5 := Lib.hid S5
    clear S5 hg4 G3 hk' hl hx hck hval HS
    obtain ⟨na, nb, hno⟩ : ∃ a b, nothingSp = (a, b) := ⟨_, _, rfl⟩
    have PN := Lib.hid (fun w => pnothing_any w)
    rw [hno] at PN hd1 HV
    dsimp only at PN hd1
    clear hno
    unfold senL at HS5 G5 ⊢
    go_upto_region 5 with fail
    generalize W4.alloc _ = W5 at *
    generalize W4.heap.size = n10 at *
    have L5 := run_loadS_l HS5.out
    have D1 := pDec_any (.slice (some ⟨W5.heap.size, 0, none⟩) 1 1) [s] ⟨5, 2, []⟩ (.slice none 0 0) 3 _ (sl_new W5 (senL s).toArray 24 _ rfl (by simp [maxLen]) (sz := 8) rfl) ⟨rfl, .inl ⟨rfl, .inl rfl⟩⟩ (by simp)
    rw [hd1] at D1
    have g6 := gb_alloc (gb_refl W5 none) (.cells (senL s).toArray 24)
    have HD1 := Lib.hid D1
    have G6 := Lib.hid (gb_none G5.out g6)
    have HS6 := Lib.hid (HS5.out.by_ g6)
    clear D1 hd1 g6
    unfold senL at HD1 G6 HS6
    dsimp only at HD1
    go_wp2_with fail
    refine HD1.out.mono ?_
    rintro e W7 ⟨rfl, hg7⟩
    have g8 := gb_alloc hg7 (.cells #[.int .i64 0, .int .i64 3, .int .i64 na, .int .i64 nb] 43)
    have G8 := Lib.hid (gb_none G6.out g8)
    have HS8 := Lib.hid (HS6.out.by_ g8)
    have HM8 := Lib.hid (Bk.new W7 #[.int .i64 0, .int .i64 3, .int .i64 na, .int .i64 nb] 43)
    clear HD1 G6 HS6 g8 hg7 L5 HS5 G5
    go_upto_region 6 with fail
    generalize W7.alloc _ = W8 at *
    generalize W7.heap.size = n11 at *
    have L8 := run_loadS_l HS8.out
    obtain ⟨hi, hhi⟩ : ∃ hi : Nat, n / 256 = (hi : Int) := ⟨(n / 256).toNat, by omega⟩
    obtain ⟨lo, hlo⟩ : ∃ lo : Nat, n % 256 = (lo : Int) := ⟨(n % 256).toNat, by omega⟩
    have hd2 := HD2.out hi lo (by omega)
    obtain ⟨v, hv⟩ : ∃ v, valSn s n = v := ⟨_, rfl⟩
    obtain ⟨v1, v2⟩ := v
    rw [hv] at hd2 HV
    clear hv
    have HD : Hid (∃ W9, ((W8.alloc (.cells #[.int .i64 s.addr, .int .i64 s.kind, .int .i64 s.target, .int .i64 s.offset, .int .i64 s.scale, .int .i64 s.error, .int .i64 s.drift, .int .i64 s.life] 24)).alloc (.cells #[.int .u8 (n / 256), .int .u8 (n % 256)] 5)) = W9 ∧ W8.grownBy W9 none ∧ Calls Try.prog 25 #[.slice (some ⟨W8.heap.size, 0, none⟩) 1 1, .agg #[.int .i64 5, .int .i64 1, .slice (some ⟨W8.heap.size + 1, 0, none⟩) 2 2], .int .i64 3] W9 fun e w' => e = .returned (.tuple #[.agg #[.int .i64 0, .int .i64 3, .int .i64 v1, .int .i64 v2], .int .i64 0]) ∧ W9.grownBy w' none) := by
      refine Lib.hid ⟨_, rfl, gb_alloc (gb_alloc (gb_refl W8 none) _) _, ?_⟩
      rw [hhi, hlo]
      have s2 := (sl_new W8 (senL s).toArray 24 _ rfl (by simp [maxLen]) (sz := 8) rfl).by_ (gb_alloc (gb_refl _ none) (.cells #[.int .u8 (hi : Int), .int .u8 (lo : Int)] 5))
      have s3 := sl_newn (W8.alloc (.cells (senL s).toArray 24)) [hi, lo] 5 2 _ (World.size_alloc _ _) rfl (by simp [maxLen])
      have hd := pDec_any (.slice (some ⟨W8.heap.size, 0, none⟩) 1 1) [s] ⟨5, 1, [hi, lo]⟩ (.slice (some ⟨W8.heap.size + 1, 0, none⟩) 2 2) 3 _ s2 s3 (by intro x hx; simp at hx; omega)
      rw [hd2] at hd
      exact hd
    obtain ⟨W9, hW9, g9, hd⟩ := HD.out
    clear HD hd2 hhi hlo HD2
    have HE := Lib.hid hW9
    have HD := Lib.hid hd
    have G9 := Lib.hid (gb_none G8.out g9)
    have HM9 := Lib.hid (HM8.out.of g9 (by simp))
    clear hW9 hd g9 G8 HM8 HS8
    go_wp2_with fail
    rw [HE.out]
    refine HD.out.mono ?_
    rintro e W10 ⟨rfl, hg10⟩
    have g11 := gb_alloc hg10 (.cells #[.int .i64 0, .int .i64 3, .int .i64 v1, .int .i64 v2] 43)
    have G11 := Lib.hid (gb_none G9.out g11)
    have HM11 := Lib.hid (HM9.out.of g11 (by simp))
    have HN11 := Lib.hid (Bk.new W10 #[.int .i64 0, .int .i64 3, .int .i64 v1, .int .i64 v2] 43)
    clear HE HD G9 HM9 hg10 g11 L8
    go_upto_region 7 with fail
    generalize W10.alloc _ = W11 at *
    generalize W10.heap.size = n13 at *
    have g12 := gb_alloc (gb_refl W11 none) (.cells #[.int .i64 n, .int .i64 n] 29)
    have G12 := Lib.hid (gb_none G11.out g12)
    have HM12 := Lib.hid (HM11.out.of g12 (by simp))
    have HN12 := Lib.hid (HN11.out.of g12 (by simp))
    have HB12 := Lib.hid (Bk.new W11 #[.int .i64 n, .int .i64 n] 29)
    have hle : w.heap.size ≤ W11.heap.size := G11.out.size
    clear g12 G11 HM11 HN11
    go_upto_region 8 with fail
    generalize W11.alloc _ = W12 at *
    generalize W11.heap.size = n15 at *
    by_cases c1 : mo < n
    · have c1' : decide (mo < n) = true := by simpa using c1
      have hv := HV.out
      rw [if_pos c1] at hv
      injection hv with h1 h2
      subst h1 h2
      clear HV
      go_wp2_with fail
      refine (PN.out _).mono ?_
      rintro e W13 ⟨rfl, hg13⟩
      have kb := HB12.out.of hg13 (by simp)
      have go := setC_gb n15 [.int .i64 v1, .int .i64 v2] W13 0
      have FF : FaS w n11 n13 n15 v1 v2 v1 v2 (setC W13 n15 0 [.int .i64 v1, .int .i64 v2]) :=
        ⟨(HM12.out.of hg13 (by simp)).of go (by simpa using Ne.symm (Bk.ne HM12.out HB12.out (by decide))), (HN12.out.of hg13 (by simp)).of go (by simpa using Ne.symm (Bk.ne HN12.out HB12.out (by decide))), kb.all [.int .i64 v1, .int .i64 v2] rfl, gb_new (gb_none G12.out hg13) go hle⟩
      simp only [setC] at FF
      have HF := Lib.hid FF
      have kc := kb.cell
      have kf := kb.frozen
      clear FF go hg13 HM12 HN12 HB12 G12
      go_upto_region 10 with fail
      clear kc kf kb
      generalize World.setCell _ ⟨n15, 1, none⟩ _ = W14 at *
      obtain ⟨na, hna⟩ : ∃ x, v1 = x := ⟨_, rfl⟩
      obtain ⟨nb, hnb⟩ : ∃ x, v2 = x := ⟨_, rfl⟩
      have hS0 := FaS.all (HF.out.by_ (gb_drew (gb_refl W14 none)))
      have b1 : (v1 == v1) = true := by simp
      have b2 : (v2 == v2) = true := by simp
      clear HF
      refine wp_region_held_drew (S := (fun w' => w'.cell? ⟨n11, 2, none⟩ = some (.int .i64 v1) ∧ w'.cell? ⟨n11, 3, none⟩ = some (.int .i64 v2) ∧ w'.cell? ⟨n13, 2, none⟩ = some (.int .i64 v1) ∧ w'.cell? ⟨n13, 3, none⟩ = some (.int .i64 v2) ∧ w'.cell? ⟨n15, 0, none⟩ = some (.int .i64 v1) ∧ w'.cell? ⟨n15, 1, none⟩ = some (.int .i64 v2) ∧ FaS w n11 n13 n15 v1 v2 v1 v2 w')) (by kernel_rfl) ?_ (fun hHeld => ?_)
      · exact hS0
      refine wpAnyH_take (i := 0) (oi := _) (v := ?_) rfl (by kernel_rfl) (by kernel_rfl) (by kernel_rfl) (fun _ _ _ h => h) (Or.inl ⟨by rfl, ?_⟩) (by assumption) ?_
      rotate_left 1
      · intro w hSw; (try dsimp only at hSw); go_simp; try (with_reducible rfl)
      try simp only [Act.put, List.getElem_toArray, List.getElem_cons_zero, List.setIfInBounds_toArray, List.set_cons_zero, List.set_cons_succ]
      refine wpAnyH_take (i := 1) (oi := _) (v := ?_) rfl (by kernel_rfl) (by kernel_rfl) (by kernel_rfl) (fun _ _ _ h => h) (Or.inl ⟨by rfl, ?_⟩) (by assumption) ?_
      rotate_left 1
      · intro w hSw; (try dsimp only at hSw); go_simp; try (with_reducible rfl)
      try simp only [Act.put, List.getElem_toArray, List.getElem_cons_zero, List.getElem_cons_succ, List.setIfInBounds_toArray, List.set_cons_zero, List.set_cons_succ]
      refine wpAnyH_take (i := 2) (oi := _) (v := ?_) rfl (by kernel_rfl) (by kernel_rfl) (by kernel_rfl) (fun _ _ _ h => h) (Or.inl ⟨by rfl, ?_⟩) (by assumption) ?_
      rotate_left 1
      · intro w hSw; (try dsimp only at hSw); go_simp; try (with_reducible rfl)
      try simp only [Act.put, List.getElem_toArray, List.getElem_cons_zero, List.getElem_cons_succ, List.setIfInBounds_toArray, List.set_cons_zero, List.set_cons_succ]
      refine wpAnyH_take (i := 3) (oi := _) (v := ?_) rfl (by kernel_rfl) (by kernel_rfl) (by kernel_rfl) (fun _ _ _ h => h) (Or.inl ⟨by rfl, ?_⟩) (by assumption) ?_
      rotate_left 1
      · intro w hSw; (try dsimp only at hSw); go_simp; try (with_reducible rfl)
      try simp only [Act.put, List.getElem_toArray, List.getElem_cons_zero, List.getElem_cons_succ, List.setIfInBounds_toArray, List.set_cons_zero, List.set_cons_succ]
      refine wpAnyH_take (i := 4) (oi := _) (v := ?_) rfl (by kernel_rfl) (by kernel_rfl) (by kernel_rfl) (fun _ _ _ h => h) (Or.inl ⟨by rfl, ?_⟩) (by assumption) ?_
      rotate_left 1
      · intro w hSw; (try dsimp only at hSw); go_simp; try (with_reducible rfl)
      try simp only [Act.put, List.getElem_toArray, List.getElem_cons_zero, List.getElem_cons_succ, List.setIfInBounds_toArray, List.set_cons_zero, List.set_cons_succ]
      refine wpAnyH_take (i := 5) (oi := _) (v := ?_) rfl (by kernel_rfl) (by kernel_rfl) (by kernel_rfl) (fun _ _ _ h => h) (Or.inl ⟨by rfl, ?_⟩) (by assumption) ?_
      rotate_left 1
      · intro w hSw; (try dsimp only at hSw); go_simp; try (with_reducible rfl)
      try simp only [Act.put, List.getElem_toArray, List.getElem_cons_zero, List.getElem_cons_succ, List.setIfInBounds_toArray, List.set_cons_zero, List.set_cons_succ]
      refine wpAnyH_take (i := 6) (oi := _) (v := ?_) rfl (by kernel_rfl) (by kernel_rfl) (by kernel_rfl) (fun _ _ _ h => h) (Or.inl ⟨by rfl, ?_⟩) (by assumption) ?_
      rotate_left 1
      · intro w hSw; (try dsimp only at hSw); go_simp; try (with_reducible rfl)
      try simp only [Act.put, List.getElem_toArray, List.getElem_cons_zero, List.getElem_cons_succ, List.setIfInBounds_toArray, List.set_cons_zero, List.set_cons_succ]
      refine wpAnyH_take (i := 7) (oi := _) (v := ?_) rfl (by kernel_rfl) (by kernel_rfl) (by kernel_rfl) (fun _ _ _ h => h) (Or.inl ⟨by rfl, ?_⟩) (by assumption) ?_
      rotate_left 1
      · intro w hSw; (try dsimp only at hSw); go_simp; try (with_reducible rfl)
      try simp only [Act.put, List.getElem_toArray, List.getElem_cons_zero, List.getElem_cons_succ, List.setIfInBounds_toArray, List.set_cons_zero, List.set_cons_succ]
      refine wpAnyH_take (i := 8) (oi := _) (v := ?_) rfl (by kernel_rfl) (by kernel_rfl) (by kernel_rfl) (fun _ _ _ h => h) (Or.inl ⟨by rfl, ?_⟩) (by assumption) ?_
      rotate_left 1
      · intro w hSw; (try dsimp only at hSw); go_simp; try (with_reducible rfl)
      try simp only [Act.put, List.getElem_toArray, List.getElem_cons_zero, List.getElem_cons_succ, List.setIfInBounds_toArray, List.set_cons_zero, List.set_cons_succ]
      refine wpAnyH_ready (rs := [9]) (by kernel_rfl) (by simp) ?_
      refine AllReadyH.cons (o := _) rfl (fun K hK => ?_) AllReadyH.nil
      go_simp
      refine (PN.out _).mono ?_
      rintro e w6 ⟨rfl, hg6⟩
      have hS6 := FaS.all (FaS.by_ hHeld.2.2.2.2.2.2 hg6)
      clear hg6
      go_wp2_with fail
      refine hK.out _ _ ?_ (fun hHeld2 => ?_)
      · exact hS6
      clear hK K hHeld
      have hHeld := hHeld2
      clear hHeld2
      try simp only [Act.put, List.getElem_toArray, List.getElem_cons_zero, List.getElem_cons_succ, List.setIfInBounds_toArray, List.set_cons_zero, List.set_cons_succ]
      refine wpAnyH_take (i := 10) (oi := _) (v := ?_) rfl (by kernel_rfl) (by kernel_rfl) (by kernel_rfl) (fun _ _ _ h => h) (Or.inl ⟨by rfl, ?_⟩) (by assumption) ?_
      rotate_left 1
      · intro w hSw; (try dsimp only at hSw); go_simp; try (with_reducible rfl)
      try simp only [Act.put, List.getElem_toArray, List.getElem_cons_zero, List.getElem_cons_succ, List.setIfInBounds_toArray, List.set_cons_zero, List.set_cons_succ]
      refine wpAnyH_take (i := 11) (oi := _) (v := ?_) rfl (by kernel_rfl) (by kernel_rfl) (by kernel_rfl) (fun _ _ _ h => h) (Or.inl ⟨by rfl, ?_⟩) (by assumption) ?_
      rotate_left 1
      · intro w hSw; (try dsimp only at hSw); go_simp; try (with_reducible rfl)
      try simp only [Act.put, List.getElem_toArray, List.getElem_cons_zero, List.getElem_cons_succ, List.setIfInBounds_toArray, List.set_cons_zero, List.set_cons_succ]
      refine wpAnyH_take (i := 12) (oi := _) (v := ?_) rfl (by kernel_rfl) (by kernel_rfl) (by kernel_rfl) (fun _ _ _ h => h) (Or.inl ⟨by rfl, ?_⟩) (by assumption) ?_
      rotate_left 1
      · intro w hSw; (try dsimp only at hSw); go_simp; try (with_reducible rfl)
      try simp only [Act.put, List.getElem_toArray, List.getElem_cons_zero, List.getElem_cons_succ, List.setIfInBounds_toArray, List.set_cons_zero, List.set_cons_succ]
      refine wpAnyH_take (i := 13) (oi := _) (v := ?_) rfl (by kernel_rfl) (by kernel_rfl) (by kernel_rfl) (fun _ _ _ h => h) (Or.inl ⟨by rfl, ?_⟩) (by assumption) ?_
      rotate_left 1
      · intro w hSw; (try dsimp only at hSw); go_simp; try (with_reducible rfl)
      try simp only [Act.put, List.getElem_toArray, List.getElem_cons_zero, List.getElem_cons_succ, List.setIfInBounds_toArray, List.set_cons_zero, List.set_cons_succ]
      refine wpAnyH_take (i := 14) (oi := _) (v := ?_) rfl (by kernel_rfl) (by kernel_rfl) (by kernel_rfl) (fun _ _ _ h => h) (Or.inl ⟨by rfl, ?_⟩) (by assumption) ?_
      rotate_left 1
      · intro w hSw; (try dsimp only at hSw); go_simp; try (with_reducible rfl)
      try simp only [Act.put, List.getElem_toArray, List.getElem_cons_zero, List.getElem_cons_succ, List.setIfInBounds_toArray, List.set_cons_zero, List.set_cons_succ]
      refine wpAnyH_take (i := 15) (oi := _) (v := ?_) rfl (by kernel_rfl) (by kernel_rfl) (by kernel_rfl) (fun _ _ _ h => h) (Or.inl ⟨by rfl, ?_⟩) (by assumption) ?_
      rotate_left 1
      · intro w hSw; (try dsimp only at hSw); go_simp; try (with_reducible rfl)
      try simp only [Act.put, List.getElem_toArray, List.getElem_cons_zero, List.getElem_cons_succ, List.setIfInBounds_toArray, List.set_cons_zero, List.set_cons_succ]
      refine wpAnyH_take (i := 16) (oi := _) (v := ?_) rfl (by kernel_rfl) (by kernel_rfl) (by kernel_rfl) (fun _ _ _ h => h) (Or.inl ⟨by rfl, ?_⟩) (by assumption) ?_
      rotate_left 1
      · intro w hSw; (try dsimp only at hSw); go_simp; try (with_reducible rfl)
      try simp only [Act.put, List.getElem_toArray, List.getElem_cons_zero, List.getElem_cons_succ, List.setIfInBounds_toArray, List.set_cons_zero, List.set_cons_succ]
      refine wpAnyH_take (i := 17) (oi := _) (v := ?_) rfl (by kernel_rfl) (by kernel_rfl) (by kernel_rfl) (fun _ _ _ h => h) (Or.inl ⟨by rfl, ?_⟩) (by assumption) ?_
      rotate_left 1
      · intro w hSw; (try dsimp only at hSw); go_simp; try (with_reducible rfl)
      try simp only [Act.put, List.getElem_toArray, List.getElem_cons_zero, List.getElem_cons_succ, List.setIfInBounds_toArray, List.set_cons_zero, List.set_cons_succ]
      refine wpAnyH_take (i := 18) (oi := _) (v := ?_) rfl (by kernel_rfl) (by kernel_rfl) (by kernel_rfl) (fun _ _ _ h => h) (Or.inl ⟨by rfl, ?_⟩) (by assumption) ?_
      rotate_left 1
      · intro w hSw; (try dsimp only at hSw); go_simp; try (with_reducible rfl)
      try simp only [Act.put, List.getElem_toArray, List.getElem_cons_zero, List.getElem_cons_succ, List.setIfInBounds_toArray, List.set_cons_zero, List.set_cons_succ]
      refine wpAnyH_ready (rs := [19]) (by kernel_rfl) (by simp) ?_
      refine AllReadyH.cons (o := _) rfl (fun K hK => ?_) AllReadyH.nil
      go_simp
      refine (awake_any _).mono ?_
      rintro e w6 ⟨rfl, hg6⟩
      have hS6 := FaS.all (FaS.by_ hHeld.2.2.2.2.2.2 hg6)
      clear hg6
      go_wp2_with fail
      refine hK.out _ _ ?_ (fun hHeld2 => ?_)
      · exact hS6
      clear hK K hHeld
      have hHeld := hHeld2
      clear hHeld2
      try simp only [Act.put, List.getElem_toArray, List.getElem_cons_zero, List.getElem_cons_succ, List.setIfInBounds_toArray, List.set_cons_zero, List.set_cons_succ]
      refine wpAnyH_take (i := 20) (oi := _) (v := ?_) rfl (by kernel_rfl) (by kernel_rfl) (by kernel_rfl) (fun _ _ _ h => h) (Or.inl ⟨by rfl, ?_⟩) (by assumption) ?_
      rotate_left 1
      · intro w hSw; (try dsimp only at hSw); go_simp; try (with_reducible rfl)
      try simp only [Act.put, List.getElem_toArray, List.getElem_cons_zero, List.getElem_cons_succ, List.setIfInBounds_toArray, List.set_cons_zero, List.set_cons_succ]
      refine wpAnyH_take (i := 21) (oi := _) (v := ?_) rfl (by kernel_rfl) (by kernel_rfl) (by kernel_rfl) (fun _ _ _ h => h) (Or.inl ⟨by rfl, ?_⟩) (by assumption) ?_
      rotate_left 1
      · intro w hSw; (try dsimp only at hSw); go_simp; try (with_reducible rfl)
      try simp only [Act.put, List.getElem_toArray, List.getElem_cons_zero, List.getElem_cons_succ, List.setIfInBounds_toArray, List.set_cons_zero, List.set_cons_succ]
      refine wpAnyH_done (by kernel_rfl) ?_ _
      go_wp2_with fail
      go_ret
      exact ⟨rfl, hS6.2.2.2.2.2.2.g⟩
    · have c1' : decide (mo < n) = false := by simpa using c1
      have hv := HV.out
      rw [if_neg c1] at hv
      injection hv with h1 h2
      subst h1 h2
      clear HV
      go_upto_region 10 with fail
      have hS0 := FaS.all (FaS.by_ (⟨HM12.out, HN12.out, HB12.out, G12.out⟩ : FaS w n11 n13 n15 na nb v2 v2 W12) (gb_drew (gb_refl W12 none)))
      have b1 : (v2 == v2) = true := by simp
      have b2 : (na == na) = true := by simp
      have b3 : (nb == nb) = true := by simp
      clear HM12 HN12 HB12 G12
      refine wp_region_held_drew (S := (fun w' => w'.cell? ⟨n11, 2, none⟩ = some (.int .i64 na) ∧ w'.cell? ⟨n11, 3, none⟩ = some (.int .i64 nb) ∧ w'.cell? ⟨n13, 2, none⟩ = some (.int .i64 v2) ∧ w'.cell? ⟨n13, 3, none⟩ = some (.int .i64 v2) ∧ w'.cell? ⟨n15, 0, none⟩ = some (.int .i64 v2) ∧ w'.cell? ⟨n15, 1, none⟩ = some (.int .i64 v2) ∧ FaS w n11 n13 n15 na nb v2 v2 w')) (by kernel_rfl) ?_ (fun hHeld => ?_)
      · exact hS0
      refine wpAnyH_take (i := 0) (oi := _) (v := ?_) rfl (by kernel_rfl) (by kernel_rfl) (by kernel_rfl) (fun _ _ _ h => h) (Or.inl ⟨by rfl, ?_⟩) (by assumption) ?_
      rotate_left 1
      · intro w hSw; (try dsimp only at hSw); go_simp; try (with_reducible rfl)
      try simp only [Act.put, List.getElem_toArray, List.getElem_cons_zero, List.setIfInBounds_toArray, List.set_cons_zero, List.set_cons_succ]
      refine wpAnyH_take (i := 1) (oi := _) (v := ?_) rfl (by kernel_rfl) (by kernel_rfl) (by kernel_rfl) (fun _ _ _ h => h) (Or.inl ⟨by rfl, ?_⟩) (by assumption) ?_
      rotate_left 1
      · intro w hSw; (try dsimp only at hSw); go_simp; try (with_reducible rfl)
      try simp only [Act.put, List.getElem_toArray, List.getElem_cons_zero, List.getElem_cons_succ, List.setIfInBounds_toArray, List.set_cons_zero, List.set_cons_succ]
      refine wpAnyH_take (i := 2) (oi := _) (v := ?_) rfl (by kernel_rfl) (by kernel_rfl) (by kernel_rfl) (fun _ _ _ h => h) (Or.inl ⟨by rfl, ?_⟩) (by assumption) ?_
      rotate_left 1
      · intro w hSw; (try dsimp only at hSw); go_simp; try (with_reducible rfl)
      try simp only [Act.put, List.getElem_toArray, List.getElem_cons_zero, List.getElem_cons_succ, List.setIfInBounds_toArray, List.set_cons_zero, List.set_cons_succ]
      refine wpAnyH_take (i := 3) (oi := _) (v := ?_) rfl (by kernel_rfl) (by kernel_rfl) (by kernel_rfl) (fun _ _ _ h => h) (Or.inl ⟨by rfl, ?_⟩) (by assumption) ?_
      rotate_left 1
      · intro w hSw; (try dsimp only at hSw); go_simp; try (with_reducible rfl)
      try simp only [Act.put, List.getElem_toArray, List.getElem_cons_zero, List.getElem_cons_succ, List.setIfInBounds_toArray, List.set_cons_zero, List.set_cons_succ]
      refine wpAnyH_take (i := 4) (oi := _) (v := ?_) rfl (by kernel_rfl) (by kernel_rfl) (by kernel_rfl) (fun _ _ _ h => h) (Or.inl ⟨by rfl, ?_⟩) (by assumption) ?_
      rotate_left 1
      · intro w hSw; (try dsimp only at hSw); go_simp; try (with_reducible rfl)
      try simp only [Act.put, List.getElem_toArray, List.getElem_cons_zero, List.getElem_cons_succ, List.setIfInBounds_toArray, List.set_cons_zero, List.set_cons_succ]
      refine wpAnyH_take (i := 5) (oi := _) (v := ?_) rfl (by kernel_rfl) (by kernel_rfl) (by kernel_rfl) (fun _ _ _ h => h) (Or.inl ⟨by rfl, ?_⟩) (by assumption) ?_
      rotate_left 1
      · intro w hSw; (try dsimp only at hSw); go_simp; try (with_reducible rfl)
      try simp only [Act.put, List.getElem_toArray, List.getElem_cons_zero, List.getElem_cons_succ, List.setIfInBounds_toArray, List.set_cons_zero, List.set_cons_succ]
      refine wpAnyH_take (i := 6) (oi := _) (v := ?_) rfl (by kernel_rfl) (by kernel_rfl) (by kernel_rfl) (fun _ _ _ h => h) (Or.inl ⟨by rfl, ?_⟩) (by assumption) ?_
      rotate_left 1
      · intro w hSw; (try dsimp only at hSw); go_simp; try (with_reducible rfl)
      try simp only [Act.put, List.getElem_toArray, List.getElem_cons_zero, List.getElem_cons_succ, List.setIfInBounds_toArray, List.set_cons_zero, List.set_cons_succ]
      refine wpAnyH_take (i := 7) (oi := _) (v := ?_) rfl (by kernel_rfl) (by kernel_rfl) (by kernel_rfl) (fun _ _ _ h => h) (Or.inl ⟨by rfl, ?_⟩) (by assumption) ?_
      rotate_left 1
      · intro w hSw; (try dsimp only at hSw); go_simp; try (with_reducible rfl)
      try simp only [Act.put, List.getElem_toArray, List.getElem_cons_zero, List.getElem_cons_succ, List.setIfInBounds_toArray, List.set_cons_zero, List.set_cons_succ]
      refine wpAnyH_take (i := 8) (oi := _) (v := ?_) rfl (by kernel_rfl) (by kernel_rfl) (by kernel_rfl) (fun _ _ _ h => h) (Or.inl ⟨by rfl, ?_⟩) (by assumption) ?_
      rotate_left 1
      · intro w hSw; (try dsimp only at hSw); go_simp; try (with_reducible rfl)
      try simp only [Act.put, List.getElem_toArray, List.getElem_cons_zero, List.getElem_cons_succ, List.setIfInBounds_toArray, List.set_cons_zero, List.set_cons_succ]
      refine wpAnyH_ready (rs := [9]) (by kernel_rfl) (by simp) ?_
      refine AllReadyH.cons (o := _) rfl (fun K hK => ?_) AllReadyH.nil
      go_simp
      refine (PN.out _).mono ?_
      rintro e w6 ⟨rfl, hg6⟩
      have hS6 := FaS.all (FaS.by_ hHeld.2.2.2.2.2.2 hg6)
      clear hg6
      go_wp2_with fail
      refine hK.out _ _ ?_ (fun hHeld2 => ?_)
      · exact hS6
      clear hK K hHeld
      have hHeld := hHeld2
      clear hHeld2
      try simp only [Act.put, List.getElem_toArray, List.getElem_cons_zero, List.getElem_cons_succ, List.setIfInBounds_toArray, List.set_cons_zero, List.set_cons_succ]
      refine wpAnyH_take (i := 10) (oi := _) (v := ?_) rfl (by kernel_rfl) (by kernel_rfl) (by kernel_rfl) (fun _ _ _ h => h) (Or.inl ⟨by rfl, ?_⟩) (by assumption) ?_
      rotate_left 1
      · intro w hSw; (try dsimp only at hSw); go_simp; try (with_reducible rfl)
      try simp only [Act.put, List.getElem_toArray, List.getElem_cons_zero, List.getElem_cons_succ, List.setIfInBounds_toArray, List.set_cons_zero, List.set_cons_succ]
      refine wpAnyH_take (i := 11) (oi := _) (v := ?_) rfl (by kernel_rfl) (by kernel_rfl) (by kernel_rfl) (fun _ _ _ h => h) (Or.inl ⟨by rfl, ?_⟩) (by assumption) ?_
      rotate_left 1
      · intro w hSw; (try dsimp only at hSw); go_simp; try (with_reducible rfl)
      try simp only [Act.put, List.getElem_toArray, List.getElem_cons_zero, List.getElem_cons_succ, List.setIfInBounds_toArray, List.set_cons_zero, List.set_cons_succ]
      refine wpAnyH_take (i := 12) (oi := _) (v := ?_) rfl (by kernel_rfl) (by kernel_rfl) (by kernel_rfl) (fun _ _ _ h => h) (Or.inl ⟨by rfl, ?_⟩) (by assumption) ?_
      rotate_left 1
      · intro w hSw; (try dsimp only at hSw); go_simp; try (with_reducible rfl)
      try simp only [Act.put, List.getElem_toArray, List.getElem_cons_zero, List.getElem_cons_succ, List.setIfInBounds_toArray, List.set_cons_zero, List.set_cons_succ]
      refine wpAnyH_take (i := 13) (oi := _) (v := ?_) rfl (by kernel_rfl) (by kernel_rfl) (by kernel_rfl) (fun _ _ _ h => h) (Or.inl ⟨by rfl, ?_⟩) (by assumption) ?_
      rotate_left 1
      · intro w hSw; (try dsimp only at hSw); go_simp; try (with_reducible rfl)
      try simp only [Act.put, List.getElem_toArray, List.getElem_cons_zero, List.getElem_cons_succ, List.setIfInBounds_toArray, List.set_cons_zero, List.set_cons_succ]
      refine wpAnyH_take (i := 14) (oi := _) (v := ?_) rfl (by kernel_rfl) (by kernel_rfl) (by kernel_rfl) (fun _ _ _ h => h) (Or.inl ⟨by rfl, ?_⟩) (by assumption) ?_
      rotate_left 1
      · intro w hSw; (try dsimp only at hSw); go_simp; try (with_reducible rfl)
      try simp only [Act.put, List.getElem_toArray, List.getElem_cons_zero, List.getElem_cons_succ, List.setIfInBounds_toArray, List.set_cons_zero, List.set_cons_succ]
      refine wpAnyH_take (i := 15) (oi := _) (v := ?_) rfl (by kernel_rfl) (by kernel_rfl) (by kernel_rfl) (fun _ _ _ h => h) (Or.inl ⟨by rfl, ?_⟩) (by assumption) ?_
      rotate_left 1
      · intro w hSw; (try dsimp only at hSw); go_simp; try (with_reducible rfl)
      try simp only [Act.put, List.getElem_toArray, List.getElem_cons_zero, List.getElem_cons_succ, List.setIfInBounds_toArray, List.set_cons_zero, List.set_cons_succ]
      refine wpAnyH_take (i := 16) (oi := _) (v := ?_) rfl (by kernel_rfl) (by kernel_rfl) (by kernel_rfl) (fun _ _ _ h => h) (Or.inl ⟨by rfl, ?_⟩) (by assumption) ?_
      rotate_left 1
      · intro w hSw; (try dsimp only at hSw); go_simp; try (with_reducible rfl)
      try simp only [Act.put, List.getElem_toArray, List.getElem_cons_zero, List.getElem_cons_succ, List.setIfInBounds_toArray, List.set_cons_zero, List.set_cons_succ]
      refine wpAnyH_take (i := 17) (oi := _) (v := ?_) rfl (by kernel_rfl) (by kernel_rfl) (by kernel_rfl) (fun _ _ _ h => h) (Or.inl ⟨by rfl, ?_⟩) (by assumption) ?_
      rotate_left 1
      · intro w hSw; (try dsimp only at hSw); go_simp; try (with_reducible rfl)
      try simp only [Act.put, List.getElem_toArray, List.getElem_cons_zero, List.getElem_cons_succ, List.setIfInBounds_toArray, List.set_cons_zero, List.set_cons_succ]
      refine wpAnyH_take (i := 18) (oi := _) (v := ?_) rfl (by kernel_rfl) (by kernel_rfl) (by kernel_rfl) (fun _ _ _ h => h) (Or.inl ⟨by rfl, ?_⟩) (by assumption) ?_
      rotate_left 1
      · intro w hSw; (try dsimp only at hSw); go_simp; try (with_reducible rfl)
      try simp only [Act.put, List.getElem_toArray, List.getElem_cons_zero, List.getElem_cons_succ, List.setIfInBounds_toArray, List.set_cons_zero, List.set_cons_succ]
      refine wpAnyH_ready (rs := [19]) (by kernel_rfl) (by simp) ?_
      refine AllReadyH.cons (o := _) rfl (fun K hK => ?_) AllReadyH.nil
      go_simp
      refine (awake_any _).mono ?_
      rintro e w6 ⟨rfl, hg6⟩
      have hS6 := FaS.all (FaS.by_ hHeld.2.2.2.2.2.2 hg6)
      clear hg6
      go_wp2_with fail
      refine hK.out _ _ ?_ (fun hHeld2 => ?_)
      · exact hS6
      clear hK K hHeld
      have hHeld := hHeld2
      clear hHeld2
      try simp only [Act.put, List.getElem_toArray, List.getElem_cons_zero, List.getElem_cons_succ, List.setIfInBounds_toArray, List.set_cons_zero, List.set_cons_succ]
      refine wpAnyH_take (i := 20) (oi := _) (v := ?_) rfl (by kernel_rfl) (by kernel_rfl) (by kernel_rfl) (fun _ _ _ h => h) (Or.inl ⟨by rfl, ?_⟩) (by assumption) ?_
      rotate_left 1
      · intro w hSw; (try dsimp only at hSw); go_simp; try (with_reducible rfl)
      try simp only [Act.put, List.getElem_toArray, List.getElem_cons_zero, List.getElem_cons_succ, List.setIfInBounds_toArray, List.set_cons_zero, List.set_cons_succ]
      refine wpAnyH_take (i := 21) (oi := _) (v := ?_) rfl (by kernel_rfl) (by kernel_rfl) (by kernel_rfl) (fun _ _ _ h => h) (Or.inl ⟨by rfl, ?_⟩) (by assumption) ?_
      rotate_left 1
      · intro w hSw; (try dsimp only at hSw); go_simp; try (with_reducible rfl)
      try simp only [Act.put, List.getElem_toArray, List.getElem_cons_zero, List.getElem_cons_succ, List.setIfInBounds_toArray, List.set_cons_zero, List.set_cons_succ]
      refine wpAnyH_done (by kernel_rfl) ?_ _
      go_wp2_with fail
      go_ret
      exact ⟨rfl, hS6.2.2.2.2.2.2.g⟩
end Go.Proofs.Ytackckljldpldaa
