/- Stage 5, the program's Value. -/
import Derived.Test.YtackckljldpldaaW7
namespace Go.Proofs.Ytackckljldpldaa
open Go.RowKit
attribute [local go_sem ↓] Go.wp_at_zero Go.wp_at_succ

theorem valSn_out {s : Sn} {raw : Int} (h : ckSn s = 0) (hr : ¬ (0 ≤ raw ∧ raw ≤ grk s.kind)) : valSn s raw = nothingSp := by
  obtain ⟨hk, _⟩ := ck0 h
  unfold valSn
  unfold grk at hr
  by_cases h1 : 0 ≤ raw ∧ raw ≤ 65535
  · rw [if_neg (by rw [h]; omega)]
    by_cases h4 : 4 ≤ s.kind
    · rw [if_pos h4]
      rcases (show s.kind = 4 ∨ s.kind = 5 ∨ s.kind = 6 by omega) with h5 | h5 | h5 <;> rw [h5] at hr ⊢ <;> simp at hr ⊢ <;> omega
    · rw [if_neg (by omega), if_neg (by omega), if_neg (by omega)] at hr
      omega
  · rw [if_pos (.inr h1)]
theorem valSn_st {s : Sn} {raw : Int} (h : ckSn s = 0) (hr : 0 ≤ raw ∧ raw ≤ grk s.kind) (h4 : s.kind = 4 ∨ s.kind = 5 ∨ s.kind = 6) : valSn s raw = (raw, raw) := by
  unfold valSn
  unfold grk at hr
  rcases h4 with h5 | h5 | h5 <;> rw [h5] at hr ⊢ <;> simp [h] at hr ⊢ <;> (rw [if_neg (by omega), if_neg (by omega)])
theorem grk_le (k : Int) : 1 ≤ grk k ∧ grk k ≤ 65535 := by unfold grk; split <;> (try split) <;> (try split) <;> omega
theorem valSn_sc {s : Sn} {raw : Int} (h : ckSn s = 0) (hr : 0 ≤ raw ∧ raw ≤ grk s.kind) (h4 : ¬ (s.kind = 4 ∨ s.kind = 5 ∨ s.kind = 6)) : valSn s raw = scSn s raw := by
  obtain ⟨hk, _⟩ := ck0 h
  have := grk_le s.kind
  unfold valSn scSn
  rw [if_neg (by rw [h]; omega), if_neg (by omega)]

set_option maxRecDepth 100000 in
set_option maxHeartbeats 8000000 in
theorem pVal_any (s : Sn) (raw : Int) (w : World) (hr1 : -9223372036854775808 ≤ raw) (hr2 : raw ≤ 9223372036854775807) :
    Calls Try.prog 17 #[.agg (senL s).toArray, .int .i64 raw] w fun e w' => e = .returned (.agg #[.int .i64 (valSn s raw).1, .int .i64 (valSn s raw).2]) ∧ w.grownBy w' none := by
  have S1 : VaS w s ((w.alloc (.cells (senL s).toArray 24)).alloc (.cells #[.int .i64 0, .int .i64 0] 29)) := by
    have k := Bk.new (w.alloc (.cells (senL s).toArray 24)) #[.int .i64 0, .int .i64 0] 29
    rw [World.size_alloc] at k
    exact ⟨(Bk.new w _ _).of (gb_alloc (gb_refl _ none) _) (by simp), k, gb_alloc (gb_alloc (gb_refl _ _) _) _⟩
  obtain ⟨v, hv⟩ : ∃ v, valSn s raw = v := ⟨_, rfl⟩
  rw [hv]
  have HV := Lib.hid hv
  have HS1 := Lib.hid S1
  have HC := Lib.hid (pCk_any s)
  have HSC := Lib.hid (scaled_any s raw)
  obtain ⟨ck, hck0⟩ : ∃ ck, ckSn s = ck := ⟨_, rfl⟩
  rw [hck0] at HC
  have HCK := Lib.hid hck0
  clear hv S1 hck0
  unfold senL at HS1 HC HSC ⊢
  go_enter Try.func17, Try.ntmps17
  go_upto_region 1 with fail
  generalize (w.alloc _).alloc _ = W1 at *
  have k0c : ∀ o, W1.cell? ⟨w.heap.size, o, none⟩ = (senL s).toArray[o]? := HS1.out.k0.cell
  unfold senL at k0c
  go_wp2_with fail
  refine (HC.out _).mono ?_
  rintro e W2 ⟨rfl, hg2⟩
  have HS2 := Lib.hid (HS1.out.by_ hg2)
  clear k0c hg2 HS1
  by_cases c0 : ck = 0
  · subst c0
    obtain ⟨hkb, hok⟩ := ck0 HCK.out
    have HOK := Lib.hid hok
    clear hok
    have k0c : ∀ o, W2.cell? ⟨w.heap.size, o, none⟩ = (senL s).toArray[o]? := HS2.out.k0.cell
    unfold senL at k0c
    go_wp2_with fail
    refine (greatest_any s.kind _).mono ?_
    rintro e w' ⟨rfl, hw'⟩
    subst hw'
    obtain ⟨gr, hgr⟩ : ∃ gr, grk s.kind = gr := ⟨_, rfl⟩
    have hgb := grk_le s.kind
    rw [hgr] at hgb ⊢
    have HGR := Lib.hid hgr
    clear hgr k0c
    go_wp2_with fail
    refine (win1 0 gr raw _ _ rfl _).mono ?_
    rintro e W3 ⟨rfl, hg⟩
    have HS3 := Lib.hid (HS2.out.by_ hg)
    clear hg HS2
    by_cases c1 : 0 ≤ raw ∧ raw ≤ gr
    · rw [decide_eq_true c1]
      have k0c : ∀ o, W3.cell? ⟨w.heap.size, o, none⟩ = (senL s).toArray[o]? := HS3.out.k0.cell
      unfold senL at k0c
      go_wp2_with fail
      refine (tells_any s.kind _).mono ?_
      rintro e w' ⟨rfl, hw'⟩
      subst hw'
      by_cases c2 : s.kind = 4 ∨ s.kind = 5 ∨ s.kind = 6
      · rw [decide_eq_true c2]
        have hv : v = (raw, raw) := by rw [← HV.out]; exact valSn_st HCK.out (by rw [HGR.out]; exact c1) c2
        subst hv
        clear k0c
        have k4c := HS3.out.k4.cell
        have k4f := HS3.out.k4.frozen
        have F := HS3.out.fin raw raw
        simp only [setC] at F
        have HF9 := Lib.hid F
        clear F
        go_wp2_with fail
        clear k4c k4f
        generalize World.setCell _ ⟨w.heap.size + 1, 1, none⟩ _ = W9 at *
        have f9c := HF9.out.1.cell
        refine bodyPost_ret (v := .agg #[.int .i64 raw, .int .i64 raw]) (by simp [results, Try.results17, go_sem, f9c]) rfl ?_
        exact ⟨rfl, HF9.out.2⟩
      · rw [decide_eq_false c2]
        have hv : v = scSn s raw := by rw [← HV.out]; exact valSn_sc HCK.out (by rw [HGR.out]; exact c1) c2
        obtain ⟨x, y⟩ := v
        rw [← hv] at HSC
        clear hv
        go_wp2_with fail
        refine (HSC.out _ HOK.out (by omega)).mono ?_
        rintro e W8 ⟨rfl, hg8⟩
        have HS8 := Lib.hid (HS3.out.by_ hg8)
        clear hg8 k0c
        have k4c := HS8.out.k4.cell
        have k4f := HS8.out.k4.frozen
        have F := HS8.out.fin x y
        simp only [setC] at F
        have HF9 := Lib.hid F
        clear F
        go_wp2_with fail
        clear k4c k4f
        generalize World.setCell _ ⟨w.heap.size + 1, 1, none⟩ _ = W9 at *
        have f9c := HF9.out.1.cell
        refine bodyPost_ret (v := .agg #[.int .i64 x, .int .i64 y]) (by simp [results, Try.results17, go_sem, f9c]) rfl ?_
        exact ⟨rfl, HF9.out.2⟩
    · rw [decide_eq_false c1]
      have hv : v = nothingSp := by rw [← HV.out]; exact valSn_out HCK.out (by rw [HGR.out]; exact c1)
      subst hv
      go_wp2_with fail
      refine (pnothing_any _).mono ?_
      rintro e W8 ⟨rfl, hg8⟩
      have HS8 := Lib.hid (HS3.out.by_ hg8)
      clear hg8
      have k4c := HS8.out.k4.cell
      have k4f := HS8.out.k4.frozen
      have F := HS8.out.fin nothingSp.1 nothingSp.2
      simp only [setC] at F
      have HF9 := Lib.hid F
      clear F
      go_wp2_with fail
      clear k4c k4f
      generalize World.setCell _ ⟨w.heap.size + 1, 1, none⟩ _ = W9 at *
      have f9c := HF9.out.1.cell
      refine bodyPost_ret (v := .agg #[.int .i64 nothingSp.1, .int .i64 nothingSp.2]) (by simp [results, Try.results17, go_sem, f9c]) rfl ?_
      exact ⟨rfl, HF9.out.2⟩
  · have c0' : (ck != 0) = true := bne_iff_ne.2 c0
    have hv : v = nothingSp := by rw [← HV.out]; unfold valSn; rw [if_pos (.inl (by rw [HCK.out]; exact c0))]
    subst hv
    go_wp2_with fail
    refine (pnothing_any _).mono ?_
    rintro e W8 ⟨rfl, hg8⟩
    have HS8 := Lib.hid (HS2.out.by_ hg8)
    clear hg8
    have k4c := HS8.out.k4.cell
    have k4f := HS8.out.k4.frozen
    have F := HS8.out.fin nothingSp.1 nothingSp.2
    simp only [setC] at F
    have HF9 := Lib.hid F
    clear F
    go_wp2_with fail
    clear k4c k4f
    generalize World.setCell _ ⟨w.heap.size + 1, 1, none⟩ _ = W9 at *
    have f9c := HF9.out.1.cell
    refine bodyPost_ret (v := .agg #[.int .i64 nothingSp.1, .int .i64 nothingSp.2]) (by simp [results, Try.results17, go_sem, f9c]) rfl ?_
    exact ⟨rfl, HF9.out.2⟩
end Go.Proofs.Ytackckljldpldaa
