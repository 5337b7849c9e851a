/- Stage 5, the program's Decode. -/
import Derived.Test.YtackckljldpldaaWa
namespace Go.Proofs.Ytackckljldpldaa
open Go.RowKit
attribute [local go_sem ↓] Go.wp_at_zero Go.wp_at_succ loadAt_s

theorem said_v (s : Sn) (ad kd : Int) (dt : List Nat) (dv : Value) (w : World) (h : Sl w dv 1 dt.length (bytes dt)) (hb : ∀ x ∈ dt, x < 256) :
    Calls Try.prog 56 #[snV s, .agg #[.int .i64 ad, .int .i64 kd, dv]] w fun e w' => e = .returned (.tuple #[.agg #[.int .i64 (saidSn s ⟨ad, kd, dt⟩).1.1, .int .i64 (saidSn s ⟨ad, kd, dt⟩).1.2], .int .i64 (saidSn s ⟨ad, kd, dt⟩).2]) ∧ w.grownBy w' none := said_any s ⟨ad, kd, dt⟩ dv w h hb
theorem pCk_v (s : Sn) (w : World) : Calls Try.prog 44 #[snV s] w fun e w' => e = .returned (.int .i64 (ckSn s)) ∧ w.grownBy w' none := pCk_any s w

/-- The measurement of a telegram, or the error. -/
def decSn (l : List Sn) (f : Fr) (t : Int) : (Int × Int × Int × Int) × Int :=
  if ¬ (0 ≤ t ∧ t ≤ 2147483648) then ((0, 0, 0, 0), 8)
  else if fIdx f.addr 0 l < 0 then ((0, 0, 0, 0), 9)
  else if ckSn (l.getD (fIdx f.addr 0 l).toNat sn0) ≠ 0 then ((0, 0, 0, 0), 9)
  else if (saidSn (l.getD (fIdx f.addr 0 l).toNat sn0) f).2 ≠ 0 then ((0, 0, 0, 0), (saidSn (l.getD (fIdx f.addr 0 l).toNat sn0) f).2)
  else ((fIdx f.addr 0 l, t, (saidSn (l.getD (fIdx f.addr 0 l).toNat sn0) f).1.1, (saidSn (l.getD (fIdx f.addr 0 l).toNat sn0) f).1.2), 0)
theorem fIdx_cases (a : Int) (l : List Sn) (k : Nat) : fIdx a k l = -1 ∨ ∃ i : Nat, i < l.length ∧ fIdx a k l = ((k + i : Nat) : Int) := by
  induction l generalizing k with
  | nil => exact .inl rfl
  | cons s l ih =>
    unfold fIdx
    by_cases h : s.addr = a
    · rw [if_pos h]; exact .inr ⟨0, by simp, by simp⟩
    · rw [if_neg h]
      rcases ih (k + 1) with e | ⟨i, hi, e⟩
      · exact .inl e
      · exact .inr ⟨i + 1, by simp; omega, by rw [e]; omega⟩

structure DeS (w : World) (x y z : Value) (W : World) : Prop where
  k4 : Bk W w.heap.size #[x, y, z] 34
  k6 : Bk W (w.heap.size + 1) #[.int .i64 0, .int .i64 0, .int .i64 0, .int .i64 0] 43
  g : w.grownBy W none
theorem DeS.by_ {w : World} {x y z : Value} {W W' : World} (h : DeS w x y z W) (o : W.grownBy W' none) : DeS w x y z W' := ⟨h.k4.of o (by simp), h.k6.of o (by simp), gb_none h.g o⟩
theorem DeS.fin {w : World} {x y z : Value} {W : World} (h : DeS w x y z W) (a b c d : Int) : Bk (setC W (w.heap.size + 1) 0 [.int .i64 a, .int .i64 b, .int .i64 c, .int .i64 d]) (w.heap.size + 1) #[.int .i64 a, .int .i64 b, .int .i64 c, .int .i64 d] 43 ∧ w.grownBy (setC W (w.heap.size + 1) 0 [.int .i64 a, .int .i64 b, .int .i64 c, .int .i64 d]) none :=
  ⟨h.k6.all [.int .i64 a, .int .i64 b, .int .i64 c, .int .i64 d] rfl, gb_new h.g (setC_gb _ _ _ _) (by omega)⟩

theorem DeS.oth {w : World} {x y z : Value} {W W' : World} {n : Nat} (h : DeS w x y z W) (o : W.grownBy W' (some n)) (h1 : n ≠ w.heap.size) (h2 : n ≠ w.heap.size + 1) (h3 : w.heap.size ≤ n) : DeS w x y z W' :=
  ⟨h.k4.of o (by simpa using h1), h.k6.of o (by simpa using h2), gb_new h.g o h3⟩
set_option maxRecDepth 100000 in
set_option maxHeartbeats 8000000 in
theorem pDec_any (v : Value) (l : List Sn) (f : Fr) (dv : Value) (t : Int) (w : World) (h : Sl w v 8 l.length (l.flatMap senL)) (hd : Sl w dv 1 f.data.length (bytes f.data)) (hb : ∀ x ∈ f.data, x < 256) :
    Calls Try.prog 25 #[v, .agg #[.int .i64 f.addr, .int .i64 f.kind, dv], .int .i64 t] w fun e w' => e = .returned (.tuple #[.agg #[.int .i64 (decSn l f t).1.1, .int .i64 (decSn l f t).1.2.1, .int .i64 (decSn l f t).1.2.2.1, .int .i64 (decSn l f t).1.2.2.2], .int .i64 (decSn l f t).2]) ∧ w.grownBy w' none := by
  obtain ⟨ad, kd, data⟩ := f
  dsimp only at hd hb ⊢
  have S1 : DeS w (.int .i64 ad) (.int .i64 kd) dv ((w.alloc (.cells #[.int .i64 ad, .int .i64 kd, dv] 34)).alloc (.cells #[.int .i64 0, .int .i64 0, .int .i64 0, .int .i64 0] 43)) := by
    have k1 := Bk.new (w.alloc (.cells #[.int .i64 ad, .int .i64 kd, dv] 34)) #[.int .i64 0, .int .i64 0, .int .i64 0, .int .i64 0] 43
    rw [World.size_alloc] at k1
    exact ⟨(Bk.new w _ _).of (gb_alloc (gb_refl _ none) _) (by simp), k1, gb_alloc (gb_alloc (gb_refl _ _) _) _⟩
  obtain ⟨a, cap, rfl, hn, hm, _⟩ := h.shape
  unfold maxLen at hm
  obtain ⟨da, dcap, rfl, dhn, dhm, _⟩ := hd.shape
  unfold maxLen at dhm
  obtain ⟨r, hr⟩ : ∃ r, decSn l ⟨ad, kd, data⟩ t = r := ⟨_, rfl⟩
  obtain ⟨⟨r1, r2, r3, r4⟩, rc⟩ := r
  rw [hr]
  have HV := Lib.hid hr
  have HS1 := Lib.hid S1
  have HL := Lib.hid h
  have HD := Lib.hid hd
  have HB := Lib.hid hb
  clear hr S1 h hd hb
  have hmf : ∀ (fn : Fn) (first cap : Array Value) (w : World), (Instr.makeFunc fn first cap).run Try.prog w = .ok (.func fn first cap) w := fun _ _ _ _ => rfl
  go_enter Try.func25, Try.ntmps25
  go_upto_region 1 with fail
  generalize (w.alloc _).alloc _ = W1 at *
  have k4c := HS1.out.k4.cell
  go_wp2_with fail
  refine (win1 0 2147483648 t _ _ rfl _).mono ?_
  rintro e W2 ⟨rfl, hg⟩
  have HS2 := Lib.hid (HS1.out.by_ hg)
  clear hg k4c HS1
  by_cases c0 : (0 : Int) ≤ t ∧ t ≤ 2147483648
  · rw [decide_eq_true c0]
    have k4c := HS2.out.k4.cell
    go_wp2_with fail
    refine (idx_any _ l _ ad _ (HL.out.by_ HS2.out.g) (HS2.out.k4.cell 0)).mono ?_
    rintro e W3 ⟨rfl, hg⟩
    have HS3 := Lib.hid (HS2.out.by_ hg)
    clear hg k4c HS2
    rcases fIdx_cases ad l 0 with hi | ⟨k, hk, hi⟩
    · rw [hi]
      obtain ⟨⟨rfl, rfl, rfl, rfl⟩, rfl⟩ : (r1 = 0 ∧ r2 = 0 ∧ r3 = 0 ∧ r4 = 0) ∧ rc = 9 := by
        have e := HV.out
        unfold decSn at e
        dsimp only at e
        rw [if_neg (fun hh => hh c0), if_pos (by rw [hi]; omega)] at e
        simp only [Prod.mk.injEq] at e
        obtain ⟨⟨rfl, rfl, rfl, rfl⟩, rfl⟩ := e
        exact ⟨⟨rfl, rfl, rfl, rfl⟩, rfl⟩
      have k6c := HS3.out.k6.cell
      have k6f := HS3.out.k6.frozen
      have F := HS3.out.fin 0 0 0 0
      simp only [setC] at F
      have HF9 := Lib.hid F
      clear F
      go_wp2_with fail
      generalize World.setCell _ ⟨w.heap.size + 1, 3, none⟩ _ = W9 at *
      have f9c := HF9.out.1.cell
      refine bodyPost_ret (v := .tuple #[.agg #[.int .i64 0, .int .i64 0, .int .i64 0, .int .i64 0], .int .i64 9]) (by simp [results, Try.results25, go_sem, f9c]) rfl ?_
      exact ⟨rfl, HF9.out.2⟩
    · rw [Nat.zero_add] at hi
      rw [hi]
      obtain ⟨g, off, cap', hv, _, hs⟩ := (HL.out.by_ HS3.out.g).snAt hk
      injection hv with hv1 _ hv3
      subst hv1 hv3
      have hv := HV.out
      unfold decSn at hv
      dsimp only at hv
      rw [if_neg (fun hh => hh c0), hi, if_neg (by omega), Int.toNat_natCast] at hv
      generalize l.getD k sn0 = s at *
      have L0 := run_loadS hs
      have i0 : (0 : Int) ≤ (k : Int) := by omega
      have i1 : (k : Int) < (l.length : Int) := by omega
      have HN := Lib.hid hs
      have HW := Lib.hid hv
      clear hs hv HV hi
      have hlt : ((k : Int) < 0) = False := by simp
      have hltd : decide ((k : Int) < 0) = false := by simp
      go_wp2_with fail
      refine (pCk_v s _).mono ?_
      rintro e W4 ⟨rfl, hg⟩
      have HS4 := Lib.hid (HS3.out.by_ hg)
      have HN4 := Lib.hid (HN.out.by_ hg)
      clear hg HS3 HN L0
      by_cases c1 : ckSn s = 0
      · rw [c1]
        have hw := HW.out
        rw [if_neg (fun hh => hh c1)] at hw
        obtain ⟨⟨⟨x, y⟩, c⟩, hsd⟩ : ∃ q, saidSn s ⟨ad, kd, data⟩ = q := ⟨_, rfl⟩
        have HSD := Lib.hid (said_v s ad kd data (.slice da data.length dcap))
        rw [hsd] at hw HSD
        dsimp only at hw HSD
        have HX := Lib.hid hw
        clear hw hsd HW
        go_upto_region 6 with fail
        have HSd := Lib.hid (HS4.out.by_ (gb_drew (gb_refl W4 none)))
        have HNd := Lib.hid (HN4.out.by_ (gb_drew (gb_refl W4 none)))
        have HSe := Lib.hid (HS4.out.by_ (gb_drew (gb_alloc (gb_refl W4 none) (.cells #[.int .i64 0, .int .i64 0] 29))))
        have HNe := Lib.hid (HN4.out.by_ (gb_drew (gb_alloc (gb_refl W4 none) (.cells #[.int .i64 0, .int .i64 0] 29))))
        have HKe := Lib.hid ((Bk.new W4 #[.int .i64 0, .int .i64 0] 29).of (gb_drew (gb_refl _ none)) (by simp))
        have hge := gb_drew (gb_alloc (gb_refl W4 none) (.cells #[.int .i64 0, .int .i64 0] 29))
        have L0 := run_loadS HNd.out
        have k0 : (W4.drew).cell? ⟨w.heap.size, 0, none⟩ = some (.int .i64 ad) := HSd.out.k4.cell 0
        have k1 : (W4.drew).cell? ⟨w.heap.size, 1, none⟩ = some (.int .i64 kd) := HSd.out.k4.cell 1
        have k2 : (W4.drew).cell? ⟨w.heap.size, 2, none⟩ = some (.slice da data.length dcap) := HSd.out.k4.cell 2
        have L5 := run_loadS HNe.out
        have e0 : ((W4.alloc (.cells #[.int .i64 0, .int .i64 0] 29)).drew).cell? ⟨w.heap.size, 0, none⟩ = some (.int .i64 ad) := HSe.out.k4.cell 0
        have e1 : ((W4.alloc (.cells #[.int .i64 0, .int .i64 0] 29)).drew).cell? ⟨w.heap.size, 1, none⟩ = some (.int .i64 kd) := HSe.out.k4.cell 1
        have e2 : ((W4.alloc (.cells #[.int .i64 0, .int .i64 0] 29)).drew).cell? ⟨w.heap.size, 2, none⟩ = some (.slice da data.length dcap) := HSe.out.k4.cell 2
        have hsz4 : w.heap.size < W4.heap.size := HS4.out.k4.lt
        have hsz5 : w.heap.size + 1 < W4.heap.size := HS4.out.k6.lt
        clear HS4
        go_region_held3 (fun w' => (loadS (.pointer (some ⟨g, off + k * 8, none⟩))).run Try.prog w' = .ok (snV s) w' ∧ w'.cell? ⟨w.heap.size, 0, none⟩ = some (.int .i64 ad) ∧ w'.cell? ⟨w.heap.size, 1, none⟩ = some (.int .i64 kd) ∧ w'.cell? ⟨w.heap.size, 2, none⟩ = some (.slice da data.length dcap))
          (first | (with_reducible exact ⟨L0, k0, k1, k2⟩) | (with_reducible exact ⟨L6, f0, f1, f2⟩) | (with_reducible exact ⟨L7, g0, g1, g2⟩) | (with_reducible exact ⟨L8, h0, h1, h2⟩) | (with_reducible exact ⟨L5, e0, e1, e2⟩) | fail)
          ((first
            | (go_at_call 56; (with_reducible refine (HSD.out W4.drew (HD.out.by_ HSd.out.g) HB.out).mono ?_); rintro e w6 ⟨rfl, hg6⟩; have HS6 := Lib.hid (HSd.out.by_ hg6); have HN6 := Lib.hid (HNd.out.by_ hg6); have L6 := run_loadS HN6.out; have f0 : (w6).cell? ⟨w.heap.size, 0, none⟩ = some (.int .i64 ad) := HS6.out.k4.cell 0; have f1 : (w6).cell? ⟨w.heap.size, 1, none⟩ = some (.int .i64 kd) := HS6.out.k4.cell 1; have f2 : (w6).cell? ⟨w.heap.size, 2, none⟩ = some (.slice da data.length dcap) := HS6.out.k4.cell 2; have hgA := gb_alloc (gb_refl w6 none) (.cells #[.int .i64 0, .int .i64 0] 29); have HS7 := Lib.hid (HS6.out.by_ hgA); have HN7 := Lib.hid (HN6.out.by_ hgA); have L7 := run_loadS HN7.out; have g0 : (w6.alloc (.cells #[.int .i64 0, .int .i64 0] 29)).cell? ⟨w.heap.size, 0, none⟩ = some (.int .i64 ad) := HS7.out.k4.cell 0; have g1 : (w6.alloc (.cells #[.int .i64 0, .int .i64 0] 29)).cell? ⟨w.heap.size, 1, none⟩ = some (.int .i64 kd) := HS7.out.k4.cell 1; have g2 : (w6.alloc (.cells #[.int .i64 0, .int .i64 0] 29)).cell? ⟨w.heap.size, 2, none⟩ = some (.slice da data.length dcap) := HS7.out.k4.cell 2; have hgB := gb_alloc (gb_refl w6 none) (.cells #[.int .i64 x, .int .i64 y] 29); have HS8 := Lib.hid (HS6.out.by_ hgB); have HN8 := Lib.hid (HN6.out.by_ hgB); have HK8 := Lib.hid (Bk.new w6 #[.int .i64 x, .int .i64 y] 29); have L8 := run_loadS HN8.out; have h0 : (w6.alloc (.cells #[.int .i64 x, .int .i64 y] 29)).cell? ⟨w.heap.size, 0, none⟩ = some (.int .i64 ad) := HS8.out.k4.cell 0; have h1 : (w6.alloc (.cells #[.int .i64 x, .int .i64 y] 29)).cell? ⟨w.heap.size, 1, none⟩ = some (.int .i64 kd) := HS8.out.k4.cell 1; have h2 : (w6.alloc (.cells #[.int .i64 x, .int .i64 y] 29)).cell? ⟨w.heap.size, 2, none⟩ = some (.slice da data.length dcap) := HS8.out.k4.cell 2; clear hg6 hgA hgB)
            | (go_at_call 56; (with_reducible refine (HSD.out (W4.alloc (.cells #[.int .i64 0, .int .i64 0] 29)).drew (HD.out.by_ HSe.out.g) HB.out).mono ?_); rintro e w6 ⟨rfl, hg6⟩; have HS6 := Lib.hid (HSe.out.by_ hg6); have HN6 := Lib.hid (HNe.out.by_ hg6); have HK6 := Lib.hid (HKe.out.of hg6 (by simp)); have k6c := HK6.out.cell; have k6f := HK6.out.frozen; have L6 := run_loadS HN6.out; have f0 : (w6).cell? ⟨w.heap.size, 0, none⟩ = some (.int .i64 ad) := HS6.out.k4.cell 0; have f1 : (w6).cell? ⟨w.heap.size, 1, none⟩ = some (.int .i64 kd) := HS6.out.k4.cell 1; have f2 : (w6).cell? ⟨w.heap.size, 2, none⟩ = some (.slice da data.length dcap) := HS6.out.k4.cell 2; have hgB := setC_gb W4.heap.size [.int .i64 x, .int .i64 y] w6 0; have HK8 := Lib.hid (HK6.out.all [.int .i64 x, .int .i64 y] rfl); have HS8 := Lib.hid (DeS.oth HS6.out hgB (by omega) (by omega) (by omega)); have HN8 := Lib.hid (HN4.out.by_ (gb_new (gb_none hge hg6) hgB (Nat.le_refl _))); have L8 := run_loadS HN8.out; have h0 : (setC w6 W4.heap.size 0 [.int .i64 x, .int .i64 y]).cell? ⟨w.heap.size, 0, none⟩ = some (.int .i64 ad) := HS8.out.k4.cell 0; have h1 : (setC w6 W4.heap.size 0 [.int .i64 x, .int .i64 y]).cell? ⟨w.heap.size, 1, none⟩ = some (.int .i64 kd) := HS8.out.k4.cell 1; have h2 : (setC w6 W4.heap.size 0 [.int .i64 x, .int .i64 y]).cell? ⟨w.heap.size, 2, none⟩ = some (.slice da data.length dcap) := HS8.out.k4.cell 2; simp only [setC] at L8 h0 h1 h2 HS8 HK8; clear hg6 hgB)
            | fail))
        all_goals
          clear L0 k0 k1 k2 L6 f0 f1 f2 L8 h0 h1 h2 HN8 HS6 HN6
          (first | (clear L7 g0 g1 g2 HS7 HN7; generalize w6.alloc (.cells #[.int .i64 x, .int .i64 y] 29) = W8 at *) | (clear k6c k6f HK6; generalize World.setCell (World.setCell w6 _ _) _ _ = W8 at *))
          clear HSd HNd HSe HNe HKe hge HN4 L5 e0 e1 e2
          by_cases c2 : c = 0
          · subst c2
            have hw := HX.out
            rw [if_neg (fun hh => hh rfl)] at hw
            simp only [Prod.mk.injEq] at hw
            obtain ⟨⟨rfl, rfl, rfl, rfl⟩, rfl⟩ := hw
            clear HX
            have k8c := HK8.out.cell
            have k6c := HS8.out.k6.cell
            have k6f := HS8.out.k6.frozen
            have F := HS8.out.fin ((k : Int)) t x y
            simp only [setC] at F
            have HF9 := Lib.hid F
            clear F
            go_wp2_with fail
            generalize World.setCell _ ⟨w.heap.size + 1, 3, none⟩ _ = W9 at *
            have f9c := HF9.out.1.cell
            refine bodyPost_ret (v := .tuple #[.agg #[.int .i64 ((k : Int)), .int .i64 t, .int .i64 x, .int .i64 y], .int .i64 0]) (by simp [results, Try.results25, go_sem, f9c]) rfl ?_
            exact ⟨rfl, HF9.out.2⟩
          · have hw := HX.out
            rw [if_pos c2] at hw
            simp only [Prod.mk.injEq] at hw
            obtain ⟨⟨rfl, rfl, rfl, rfl⟩, rfl⟩ := hw
            clear HX
            have hcb : (c == 0) = false := by simpa using c2
            have hcn : (c != 0) = true := by simpa using c2
            have k6c := HS8.out.k6.cell
            have k6f := HS8.out.k6.frozen
            have F := HS8.out.fin 0 0 0 0
            simp only [setC] at F
            have HF9 := Lib.hid F
            clear F
            go_wp2_with fail
            generalize World.setCell _ ⟨w.heap.size + 1, 3, none⟩ _ = W9 at *
            have f9c := HF9.out.1.cell
            refine bodyPost_ret (v := .tuple #[.agg #[.int .i64 0, .int .i64 0, .int .i64 0, .int .i64 0], .int .i64 c]) (by simp [results, Try.results25, go_sem, f9c]) rfl ?_
            exact ⟨rfl, HF9.out.2⟩
      · have hcb : (ckSn s == 0) = false := by simpa using c1
        have hcn : (ckSn s != 0) = true := by simpa using c1
        have hw := HW.out
        rw [if_pos c1] at hw
        simp only [Prod.mk.injEq] at hw
        obtain ⟨⟨rfl, rfl, rfl, rfl⟩, rfl⟩ := hw
        generalize ckSn s = ck at *
        have k6c := HS4.out.k6.cell
        have k6f := HS4.out.k6.frozen
        have F := HS4.out.fin 0 0 0 0
        simp only [setC] at F
        have HF9 := Lib.hid F
        clear F
        go_wp2_with fail
        generalize World.setCell _ ⟨w.heap.size + 1, 3, none⟩ _ = W9 at *
        have f9c := HF9.out.1.cell
        refine bodyPost_ret (v := .tuple #[.agg #[.int .i64 0, .int .i64 0, .int .i64 0, .int .i64 0], .int .i64 9]) (by simp [results, Try.results25, go_sem, f9c]) rfl ?_
        exact ⟨rfl, HF9.out.2⟩
  · rw [decide_eq_false c0]
    obtain ⟨⟨rfl, rfl, rfl, rfl⟩, rfl⟩ : (r1 = 0 ∧ r2 = 0 ∧ r3 = 0 ∧ r4 = 0) ∧ rc = 8 := by
      have e := HV.out
      unfold decSn at e
      dsimp only at e
      rw [if_pos c0] at e
      simp only [Prod.mk.injEq] at e
      obtain ⟨⟨rfl, rfl, rfl, rfl⟩, rfl⟩ := e
      exact ⟨⟨rfl, rfl, rfl, rfl⟩, rfl⟩
    have k6c := HS2.out.k6.cell
    have k6f := HS2.out.k6.frozen
    have F := HS2.out.fin 0 0 0 0
    simp only [setC] at F
    have HF9 := Lib.hid F
    clear F
    go_wp2_with fail
    generalize World.setCell _ ⟨w.heap.size + 1, 3, none⟩ _ = W9 at *
    have f9c := HF9.out.1.cell
    refine bodyPost_ret (v := .tuple #[.agg #[.int .i64 0, .int .i64 0, .int .i64 0, .int .i64 0], .int .i64 8]) (by simp [results, Try.results25, go_sem, f9c]) rfl ?_
    exact ⟨rfl, HF9.out.2⟩
end Go.Proofs.Ytackckljldpldaa
