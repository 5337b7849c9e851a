/- Stage 5, the document's Value. -/
import Derived.Test.YtackckljldpldaaS5
namespace Go.Proofs.Ytackckljldpldaa
open Go.RowKit
attribute [local go_sem ↓] Go.wp_at_zero Go.wp_at_succ

/-- While a raw number is read: the sensor, the result. -/
structure VaS (w : World) (s : Sn) (W : World) : Prop where
  k0 : Bk W w.heap.size (senL s).toArray 24
  k4 : Bk W (w.heap.size + 1) #[.int .i64 0, .int .i64 0] 29
  g : w.grownBy W none
theorem VaS.by_ {w : World} {s : Sn} {W W' : World} (h : VaS w s W) (o : W.grownBy W' none) : VaS w s W' := ⟨h.k0.of o (by simp), h.k4.of o (by simp), gb_none h.g o⟩
theorem VaS.fin {w : World} {s : Sn} {W : World} (h : VaS w s W) (x y : Int) : Bk (setC W (w.heap.size + 1) 0 [.int .i64 x, .int .i64 y]) (w.heap.size + 1) #[.int .i64 x, .int .i64 y] 29 ∧ w.grownBy (setC W (w.heap.size + 1) 0 [.int .i64 x, .int .i64 y]) none :=
  ⟨h.k4.all [.int .i64 x, .int .i64 y] rfl, gb_new h.g (setC_gb _ _ _ _) (by omega)⟩

theorem VaS.oth {w : World} {s : Sn} {W W' : World} {n : Nat} (h : VaS w s W) (o : W.grownBy W' (some n)) (h1 : n ≠ w.heap.size) (h2 : n ≠ w.heap.size + 1) (h3 : w.heap.size ≤ n) : VaS w s W' :=
  ⟨h.k0.of o (by simpa using h1), h.k4.of o (by simpa using h2), gb_new h.g o h3⟩
theorem mul_bd {a b : Int} (h1 : -1000000 ≤ a ∧ a ≤ 1000000) (h2 : 0 ≤ b ∧ b ≤ 65535) : -65535000000 ≤ a * b ∧ a * b ≤ 65535000000 := by
  constructor
  · have h := Int.mul_le_mul_of_nonneg_right h1.1 h2.1
    omega
  · have h := Int.mul_le_mul_of_nonneg_right h1.2 h2.1
    omega
theorem ck0 {s : Sn} (h : ckSn s = 0) : (1 ≤ s.kind ∧ s.kind ≤ 6) ∧ snOk s := by
  unfold ckSn at h
  by_cases h1 : 1 ≤ s.kind ∧ s.kind ≤ 6
  · rw [if_neg (by omega)] at h
    by_cases h2 : snOk s
    · exact ⟨h1, h2⟩
    · rw [if_pos h2] at h; omega
  · rw [if_pos h1] at h; omega

set_option maxRecDepth 100000 in
set_option maxHeartbeats 8000000 in
theorem refVal_any (s : Sn) (raw : Int) (w : World) (hr1 : -9223372036854775808 ≤ raw) (hr2 : raw ≤ 9223372036854775807) :
    Calls Try.prog 18 #[.agg (senL s).toArray, .int .i64 raw] w fun e w' => e = .returned (.agg #[.int .i64 (valSn s raw).1, .int .i64 (valSn s raw).2]) ∧ w.grownBy w' none := by
  have S1 : VaS w s ((w.alloc (.cells (senL s).toArray 24)).alloc (.cells #[.int .i64 0, .int .i64 0] 29)) := by
    have k := Bk.new (w.alloc (.cells (senL s).toArray 24)) #[.int .i64 0, .int .i64 0] 29
    rw [World.size_alloc] at k
    exact ⟨(Bk.new w _ _).of (gb_alloc (gb_refl _ none) _) (by simp), k, gb_alloc (gb_alloc (gb_refl _ _) _) _⟩
  obtain ⟨v, hv⟩ : ∃ v, valSn s raw = v := ⟨_, rfl⟩
  rw [hv]
  have HV := Lib.hid hv
  have HS1 := Lib.hid S1
  have hck := refCk_any s
  obtain ⟨ck, hck0⟩ : ∃ ck, ckSn s = ck := ⟨_, rfl⟩
  rw [hck0] at hck
  have HCK := Lib.hid hck0
  have HC := Lib.hid hck
  clear hv S1 hck hck0
  unfold senL at HS1 HC ⊢
  go_enter Try.func18, Try.ntmps18
  go_upto_region 1 with fail
  generalize (w.alloc _).alloc _ = W1 at *
  have k0c : ∀ o, W1.cell? ⟨w.heap.size, o, none⟩ = (senL s).toArray[o]? := HS1.out.k0.cell
  unfold senL at k0c
  go_wp2_with fail
  refine (HC.out _).mono ?_
  rintro e W2 ⟨rfl, hg2⟩
  have HS2 := Lib.hid (HS1.out.by_ hg2)
  clear k0c hg2 HS1
  by_cases c0 : ck = 0
  · subst c0
    go_wp2_with fail
    refine (in_any raw 0 65535 _).mono ?_
    rintro e W3 ⟨rfl, rfl⟩
    by_cases c1 : 0 ≤ raw ∧ raw ≤ 65535
    · rw [decide_eq_true c1]
      obtain ⟨hkb, hok⟩ := ck0 HCK.out
      have hk0 : W3.cell? ⟨w.heap.size, 1, none⟩ = some (.int .i64 s.kind) := HS2.out.k0.cell 1
      go_wp2_with fail
      refine (stately_any s.kind _).mono ?_
      rintro e W4 ⟨rfl, rfl⟩
      by_cases c2 : 4 ≤ s.kind
      · rw [decide_eq_true c2]
        obtain ⟨kd, hkd⟩ : ∃ kd, s.kind = kd := ⟨_, rfl⟩
        have HKD := Lib.hid hkd
        rw [hkd] at hk0 c2 hkb
        clear hkd
        rcases (show kd = 4 ∨ kd = 5 ∨ kd = 6 by omega) with rfl | rfl | rfl
        · by_cases c3 : 1 < raw
          · have c3' : decide ((1 : Int) < raw) = true := by simpa using c3
            have hv : v = nothingSp := by rw [← HV.out]; unfold valSn; rw [if_neg (by rw [HCK.out]; omega), if_pos (by rw [HKD.out]; omega), HKD.out, if_pos (by simpa using c3)]
            subst hv
            go_wp2_with fail
            refine (nothing_any _).mono ?_
            rintro e W8 ⟨rfl, hg8⟩
            have HS8 := Lib.hid (HS2.out.by_ hg8)
            clear hg8
            have k4c := HS8.out.k4.cell
            have k4f := HS8.out.k4.frozen
            have F := HS8.out.fin nothingSp.1 nothingSp.2
            simp only [setC] at F
            have HF9 := Lib.hid F
            clear F
            go_wp2_with fail
            clear k4c k4f
            generalize World.setCell _ ⟨w.heap.size + 1, 1, none⟩ _ = W9 at *
            have f9c := HF9.out.1.cell
            refine bodyPost_ret (v := .agg #[.int .i64 nothingSp.1, .int .i64 nothingSp.2]) (by simp [results, Try.results18, go_sem, f9c]) rfl ?_
            exact ⟨rfl, HF9.out.2⟩
          · have c3' : decide ((1 : Int) < raw) = false := by simpa using c3
            have hv : v = (raw, raw) := by rw [← HV.out]; unfold valSn; rw [if_neg (by rw [HCK.out]; omega), if_pos (by rw [HKD.out]; omega), HKD.out, if_neg (by simpa using c3)]
            subst hv
            have k4c := HS2.out.k4.cell
            have k4f := HS2.out.k4.frozen
            have F := HS2.out.fin raw raw
            simp only [setC] at F
            have HF9 := Lib.hid F
            clear F
            go_wp2_with fail
            clear k4c k4f
            generalize World.setCell _ ⟨w.heap.size + 1, 1, none⟩ _ = W9 at *
            have f9c := HF9.out.1.cell
            refine bodyPost_ret (v := .agg #[.int .i64 raw, .int .i64 raw]) (by simp [results, Try.results18, go_sem, f9c]) rfl ?_
            exact ⟨rfl, HF9.out.2⟩
          
        · by_cases c3 : 2 < raw
          · have c3' : decide ((2 : Int) < raw) = true := by simpa using c3
            have hv : v = nothingSp := by rw [← HV.out]; unfold valSn; rw [if_neg (by rw [HCK.out]; omega), if_pos (by rw [HKD.out]; omega), HKD.out, if_pos (by simpa using c3)]
            subst hv
            go_wp2_with fail
            refine (nothing_any _).mono ?_
            rintro e W8 ⟨rfl, hg8⟩
            have HS8 := Lib.hid (HS2.out.by_ hg8)
            clear hg8
            have k4c := HS8.out.k4.cell
            have k4f := HS8.out.k4.frozen
            have F := HS8.out.fin nothingSp.1 nothingSp.2
            simp only [setC] at F
            have HF9 := Lib.hid F
            clear F
            go_wp2_with fail
            clear k4c k4f
            generalize World.setCell _ ⟨w.heap.size + 1, 1, none⟩ _ = W9 at *
            have f9c := HF9.out.1.cell
            refine bodyPost_ret (v := .agg #[.int .i64 nothingSp.1, .int .i64 nothingSp.2]) (by simp [results, Try.results18, go_sem, f9c]) rfl ?_
            exact ⟨rfl, HF9.out.2⟩
          · have c3' : decide ((2 : Int) < raw) = false := by simpa using c3
            have hv : v = (raw, raw) := by rw [← HV.out]; unfold valSn; rw [if_neg (by rw [HCK.out]; omega), if_pos (by rw [HKD.out]; omega), HKD.out, if_neg (by simpa using c3)]
            subst hv
            have k4c := HS2.out.k4.cell
            have k4f := HS2.out.k4.frozen
            have F := HS2.out.fin raw raw
            simp only [setC] at F
            have HF9 := Lib.hid F
            clear F
            go_wp2_with fail
            clear k4c k4f
            generalize World.setCell _ ⟨w.heap.size + 1, 1, none⟩ _ = W9 at *
            have f9c := HF9.out.1.cell
            refine bodyPost_ret (v := .agg #[.int .i64 raw, .int .i64 raw]) (by simp [results, Try.results18, go_sem, f9c]) rfl ?_
            exact ⟨rfl, HF9.out.2⟩
          
        · by_cases c3 : 5 < raw
          · have c3' : decide ((5 : Int) < raw) = true := by simpa using c3
            have hv : v = nothingSp := by rw [← HV.out]; unfold valSn; rw [if_neg (by rw [HCK.out]; omega), if_pos (by rw [HKD.out]; omega), HKD.out, if_pos (by simpa using c3)]
            subst hv
            go_wp2_with fail
            refine (nothing_any _).mono ?_
            rintro e W8 ⟨rfl, hg8⟩
            have HS8 := Lib.hid (HS2.out.by_ hg8)
            clear hg8
            have k4c := HS8.out.k4.cell
            have k4f := HS8.out.k4.frozen
            have F := HS8.out.fin nothingSp.1 nothingSp.2
            simp only [setC] at F
            have HF9 := Lib.hid F
            clear F
            go_wp2_with fail
            clear k4c k4f
            generalize World.setCell _ ⟨w.heap.size + 1, 1, none⟩ _ = W9 at *
            have f9c := HF9.out.1.cell
            refine bodyPost_ret (v := .agg #[.int .i64 nothingSp.1, .int .i64 nothingSp.2]) (by simp [results, Try.results18, go_sem, f9c]) rfl ?_
            exact ⟨rfl, HF9.out.2⟩
          · have c3' : decide ((5 : Int) < raw) = false := by simpa using c3
            have hv : v = (raw, raw) := by rw [← HV.out]; unfold valSn; rw [if_neg (by rw [HCK.out]; omega), if_pos (by rw [HKD.out]; omega), HKD.out, if_neg (by simpa using c3)]
            subst hv
            have k4c := HS2.out.k4.cell
            have k4f := HS2.out.k4.frozen
            have F := HS2.out.fin raw raw
            simp only [setC] at F
            have HF9 := Lib.hid F
            clear F
            go_wp2_with fail
            clear k4c k4f
            generalize World.setCell _ ⟨w.heap.size + 1, 1, none⟩ _ = W9 at *
            have f9c := HF9.out.1.cell
            refine bodyPost_ret (v := .agg #[.int .i64 raw, .int .i64 raw]) (by simp [results, Try.results18, go_sem, f9c]) rfl ?_
            exact ⟨rfl, HF9.out.2⟩
          
      · rw [decide_eq_false c2]
        obtain ⟨p, hp⟩ : ∃ p, s.scale * raw = p := ⟨_, rfl⟩
        obtain ⟨ok1, ok2, ok3, ok4, ok5, ok6, ok7⟩ := hok
        have hpb := mul_bd ok4 c1
        rw [hp] at hpb
        obtain ⟨fl, hfl⟩ : ∃ fl, p / 1000 = fl := ⟨_, rfl⟩
        obtain ⟨ce, hce⟩ : ∃ ce, -((-p) / 1000) = ce := ⟨_, rfl⟩
        have hf1 : -65535000 ≤ fl ∧ fl ≤ 65535000 := by omega
        have hc1 : -65535000 ≤ ce ∧ ce ≤ 65535000 := by omega
        obtain ⟨lo, hlo⟩ : ∃ lo, s.offset + fl - s.error = lo := ⟨_, rfl⟩
        obtain ⟨hi, hhi⟩ : ∃ hi, s.offset + ce + s.error = hi := ⟨_, rfl⟩
        obtain ⟨l1, hl1⟩ : ∃ l1, s.offset + fl = l1 := ⟨_, rfl⟩
        obtain ⟨l2, hl2⟩ : ∃ l2, s.offset + ce = l2 := ⟨_, rfl⟩
        have HP := Lib.hid hp
        have HFL := Lib.hid hfl
        have HCE := Lib.hid hce
        have HLO := Lib.hid hlo
        have HHI := Lib.hid hhi
        have hw1 : IntKind.i64.wrap (s.scale * raw) = p := by rw [hp]; exact IntWalk.i64_in _ (by omega)
        have hw2 : IntKind.i64.wrap (s.offset + fl) = l1 := by rw [hl1]; exact IntWalk.i64_in _ (by omega)
        have hw3 : IntKind.i64.wrap (l1 - s.error) = lo := by rw [← hl1, hlo]; exact IntWalk.i64_in _ (by omega)
        have hw4 : IntKind.i64.wrap (s.offset + ce) = l2 := by rw [hl2]; exact IntWalk.i64_in _ (by omega)
        have hw5 : IntKind.i64.wrap (l2 + s.error) = hi := by rw [← hl2, hhi]; exact IntWalk.i64_in _ (by omega)
        have HB := Lib.hid (show -4611686018427387904 ≤ p ∧ p ≤ 4611686018427387904 by omega)
        clear hp hfl hce hlo hhi hl1 hl2 hpb hf1 hc1 ok1 ok2 ok3 ok4 ok5 ok6 ok7
        go_upto_region 12 with fail
        go_cut [6] from 32 to 54 (fun q wx => ∃ n6 : Nat, q = .pointer (some ⟨n6, 0, none⟩) ∧ W4.heap.size ≤ n6 ∧ W4.grownBy wx none ∧ Bk wx n6 #[.int .i64 lo, .int .i64 hi] 29)
        case first =>
          have gA := gb_drew (gb_alloc (gb_refl W4 none) (.cells #[.int .i64 0, .int .i64 0] 29))
          have gB := gb_drew (gb_refl W4 none)
          have gC := gb_alloc gB (.cells #[.int .i64 lo, .int .i64 hi] 29)
          have gS := gb_drew (gb_alloc (gb_refl W4 none) (.cells #[.int .i64 lo, .int .i64 hi] 29))
          have e0 : (W4.drew).cell? ⟨w.heap.size, 3, none⟩ = some (.int .i64 s.offset) := (HS2.out.k0.of gB (by simp)).cell 3
          have e1 : (W4.drew).cell? ⟨w.heap.size, 4, none⟩ = some (.int .i64 s.scale) := (HS2.out.k0.of gB (by simp)).cell 4
          have e2 : (W4.drew).cell? ⟨w.heap.size, 5, none⟩ = some (.int .i64 s.error) := (HS2.out.k0.of gB (by simp)).cell 5
          have c0 : ((W4.alloc (.cells #[.int .i64 0, .int .i64 0] 29)).drew).cell? ⟨w.heap.size, 3, none⟩ = some (.int .i64 s.offset) := (HS2.out.k0.of gA (by simp)).cell 3
          have c1' : ((W4.alloc (.cells #[.int .i64 0, .int .i64 0] 29)).drew).cell? ⟨w.heap.size, 4, none⟩ = some (.int .i64 s.scale) := (HS2.out.k0.of gA (by simp)).cell 4
          have c2' : ((W4.alloc (.cells #[.int .i64 0, .int .i64 0] 29)).drew).cell? ⟨w.heap.size, 5, none⟩ = some (.int .i64 s.error) := (HS2.out.k0.of gA (by simp)).cell 5
          have b0 : (W4.drew.alloc (.cells #[.int .i64 lo, .int .i64 hi] 29)).cell? ⟨w.heap.size, 3, none⟩ = some (.int .i64 s.offset) := (HS2.out.k0.of gC (by simp)).cell 3
          have b1 : (W4.drew.alloc (.cells #[.int .i64 lo, .int .i64 hi] 29)).cell? ⟨w.heap.size, 4, none⟩ = some (.int .i64 s.scale) := (HS2.out.k0.of gC (by simp)).cell 4
          have b2 : (W4.drew.alloc (.cells #[.int .i64 lo, .int .i64 hi] 29)).cell? ⟨w.heap.size, 5, none⟩ = some (.int .i64 s.error) := (HS2.out.k0.of gC (by simp)).cell 5
          have d0 : ((W4.alloc (.cells #[.int .i64 lo, .int .i64 hi] 29)).drew).cell? ⟨w.heap.size, 3, none⟩ = some (.int .i64 s.offset) := (HS2.out.k0.of gS (by simp)).cell 3
          have d1 : ((W4.alloc (.cells #[.int .i64 lo, .int .i64 hi] 29)).drew).cell? ⟨w.heap.size, 4, none⟩ = some (.int .i64 s.scale) := (HS2.out.k0.of gS (by simp)).cell 4
          have d2 : ((W4.alloc (.cells #[.int .i64 lo, .int .i64 hi] 29)).drew).cell? ⟨w.heap.size, 5, none⟩ = some (.int .i64 s.error) := (HS2.out.k0.of gS (by simp)).cell 5
          have HKS := Lib.hid ((Bk.new W4 #[.int .i64 lo, .int .i64 hi] 29).of (gb_drew (gb_refl _ none)) (by simp))
          have HGS := Lib.hid gS
          have HGC := Lib.hid gC
          have HKC := Lib.hid (Bk.new W4.drew #[.int .i64 lo, .int .i64 hi] 29)
          clear gA gB gC gS hk0
          go_region_held3 (fun w' => w'.cell? ⟨w.heap.size, 3, none⟩ = some (.int .i64 s.offset) ∧ w'.cell? ⟨w.heap.size, 4, none⟩ = some (.int .i64 s.scale) ∧ w'.cell? ⟨w.heap.size, 5, none⟩ = some (.int .i64 s.error))
            (first | (with_reducible exact ⟨e0, e1, e2⟩) | (with_reducible exact ⟨c0, c1', c2'⟩) | (with_reducible exact ⟨b0, b1, b2⟩) | (with_reducible exact ⟨d0, d1, d2⟩) | fail)
            ((first
              | (go_at_call 29; refine (floor_any p _ HB.out.1 HB.out.2).mono ?_; rw [HFL.out]; rintro e w' ⟨rfl, rfl⟩)
              | (go_at_call 52; refine (ceil_any p _ HB.out.1 HB.out.2).mono ?_; rw [HCE.out]; rintro e w' ⟨rfl, rfl⟩)
              | fail))
          all_goals go_wp2_with fail
          all_goals go_meet
          all_goals first | exact ⟨_, rfl, Nat.le_refl _, HGS.out, HKS.out⟩ | exact ⟨_, rfl, Nat.le_refl _, HGC.out, HKC.out⟩
        case rest =>
          obtain ⟨n6, rfl, hn6, hg6, hk6⟩ := hcut
          have HS6 := Lib.hid (HS2.out.by_ hg6)
          have HK6 := Lib.hid hk6
          have hk4lt := HS2.out.k4.lt
          have k6c := hk6.cell
          have hk1 : wc.cell? ⟨w.heap.size, 1, none⟩ = some (.int .i64 s.kind) := HS6.out.k0.cell 1
          clear hg6 hk6 hw1 hw2 hw3 hw4 hw5 hk0
          go_wp2_with fail
          refine (gassy_any s.kind _).mono ?_
          rintro e w' ⟨rfl, hw'⟩
          subst hw'
          by_cases c4 : s.kind = 1 ∨ s.kind = 2
          · rw [decide_eq_true c4]
            obtain ⟨A, hA⟩ : ∃ A, (if lo < 0 then (0 : Int) else lo) = A := ⟨_, rfl⟩
            obtain ⟨B, hB⟩ : ∃ B, (if hi < 0 then (0 : Int) else hi) = B := ⟨_, rfl⟩
            have mA : max lo 0 = A := by rw [← hA]; split <;> omega
            have mB : max hi 0 = B := by rw [← hB]; split <;> omega
            have hv : v = (A, B) := by rw [← HV.out]; unfold valSn; rw [if_neg (by rw [HCK.out]; omega), if_neg (by omega), if_pos c4, HP.out, HFL.out, HCE.out, HLO.out, HHI.out, mA, mB]
            subst hv
            clear mA mB
            have k6f := HK6.out.frozen
            have X7 := HS6.out.oth (setC_gb n6 [.int .i64 A, .int .i64 B] _ 0) (by omega) (by omega) (by omega)
            have X8 := HK6.out.all [.int .i64 A, .int .i64 B] rfl
            simp only [setC] at X7 X8
            have HS7 := Lib.hid X7
            have K7 := Lib.hid X8
            clear X7 X8
            go_upto_region 15 with fail
            try rw [hA, hB]
            generalize World.setCell _ ⟨n6, 1, none⟩ _ = W7 at *
            clear k6f hA hB
            have F := HS7.out.fin A B
            simp only [setC] at F
            have HF9 := Lib.hid F
            have k6d := K7.out.cell
            have k4c := HS7.out.k4.cell
            have k4f := HS7.out.k4.frozen
            clear F
            go_wp2_with fail
            clear k4c k4f k6d
            generalize World.setCell _ ⟨w.heap.size + 1, 1, none⟩ _ = W9 at *
            have f9c := HF9.out.1.cell
            refine bodyPost_ret (v := .agg #[.int .i64 A, .int .i64 B]) (by simp [results, Try.results18, go_sem, f9c]) rfl ?_
            exact ⟨rfl, HF9.out.2⟩
          · rw [decide_eq_false c4]
            have hv : v = (lo, hi) := by rw [← HV.out]; unfold valSn; rw [if_neg (by rw [HCK.out]; omega), if_neg (by omega), if_neg c4, HP.out, HFL.out, HCE.out, HLO.out, HHI.out]
            subst hv
            have HS7 := HS6
            have K7 := HK6
            have F := HS7.out.fin lo hi
            simp only [setC] at F
            have HF9 := Lib.hid F
            have k6d := K7.out.cell
            have k4c := HS7.out.k4.cell
            have k4f := HS7.out.k4.frozen
            clear F
            go_wp2_with fail
            clear k4c k4f k6d
            generalize World.setCell _ ⟨w.heap.size + 1, 1, none⟩ _ = W9 at *
            have f9c := HF9.out.1.cell
            refine bodyPost_ret (v := .agg #[.int .i64 lo, .int .i64 hi]) (by simp [results, Try.results18, go_sem, f9c]) rfl ?_
            exact ⟨rfl, HF9.out.2⟩
    · rw [decide_eq_false c1]
      have hv : v = nothingSp := by rw [← HV.out]; unfold valSn; rw [if_pos (.inr c1)]
      subst hv
      go_wp2_with fail
      refine (nothing_any _).mono ?_
      rintro e W8 ⟨rfl, hg8⟩
      have HS8 := Lib.hid (HS2.out.by_ hg8)
      clear hg8
      have k4c := HS8.out.k4.cell
      have k4f := HS8.out.k4.frozen
      have F := HS8.out.fin nothingSp.1 nothingSp.2
      simp only [setC] at F
      have HF9 := Lib.hid F
      clear F
      go_wp2_with fail
      clear k4c k4f
      generalize World.setCell _ ⟨w.heap.size + 1, 1, none⟩ _ = W9 at *
      have f9c := HF9.out.1.cell
      refine bodyPost_ret (v := .agg #[.int .i64 nothingSp.1, .int .i64 nothingSp.2]) (by simp [results, Try.results18, go_sem, f9c]) rfl ?_
      exact ⟨rfl, HF9.out.2⟩
  · have c0' : (ck != 0) = true := bne_iff_ne.2 c0
    have hv : v = nothingSp := by rw [← HV.out]; unfold valSn; rw [if_pos (.inl (by rw [HCK.out]; exact c0))]
    subst hv
    go_wp2_with fail
    refine (nothing_any _).mono ?_
    rintro e W8 ⟨rfl, hg8⟩
    have HS8 := Lib.hid (HS2.out.by_ hg8)
    clear hg8
    have k4c := HS8.out.k4.cell
    have k4f := HS8.out.k4.frozen
    have F := HS8.out.fin nothingSp.1 nothingSp.2
    simp only [setC] at F
    have HF9 := Lib.hid F
    clear F
    go_wp2_with fail
    clear k4c k4f
    generalize World.setCell _ ⟨w.heap.size + 1, 1, none⟩ _ = W9 at *
    have f9c := HF9.out.1.cell
    refine bodyPost_ret (v := .agg #[.int .i64 nothingSp.1, .int .i64 nothingSp.2]) (by simp [results, Try.results18, go_sem, f9c]) rfl ?_
    exact ⟨rfl, HF9.out.2⟩
end Go.Proofs.Ytackckljldpldaa
