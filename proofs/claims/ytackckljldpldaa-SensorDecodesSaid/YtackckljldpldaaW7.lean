/- Stage 5, the program's scaled. -/
import Derived.Test.YtackckljldpldaaW6
namespace Go.Proofs.Ytackckljldpldaa
open Go.RowKit
attribute [local go_sem ↓] Go.wp_at_zero Go.wp_at_succ

/-- What a raw number says on the scale of a sensor. -/
def scSn (s : Sn) (raw : Int) : Int × Int :=
  if s.kind = 1 ∨ s.kind = 2 then (max (s.offset + (s.scale * raw) / 1000 - s.error) 0, max (s.offset + -((-(s.scale * raw)) / 1000) + s.error) 0)
  else (s.offset + (s.scale * raw) / 1000 - s.error, s.offset + -((-(s.scale * raw)) / 1000) + s.error)

set_option maxRecDepth 100000 in
set_option maxHeartbeats 8000000 in
theorem scaled_any (s : Sn) (raw : Int) (w : World) (hs : snOk s) (hr : 0 ≤ raw ∧ raw ≤ 65535) :
    Calls Try.prog 48 #[.agg (senL s).toArray, .int .i64 raw] w fun e w' => e = .returned (.agg #[.int .i64 (scSn s raw).1, .int .i64 (scSn s raw).2]) ∧ w.grownBy w' none := by
  have S1 : VaS w s ((w.alloc (.cells (senL s).toArray 24)).alloc (.cells #[.int .i64 0, .int .i64 0] 29)) := by
    have k := Bk.new (w.alloc (.cells (senL s).toArray 24)) #[.int .i64 0, .int .i64 0] 29
    rw [World.size_alloc] at k
    exact ⟨(Bk.new w _ _).of (gb_alloc (gb_refl _ none) _) (by simp), k, gb_alloc (gb_alloc (gb_refl _ _) _) _⟩
  obtain ⟨v, hv⟩ : ∃ v, scSn s raw = v := ⟨_, rfl⟩
  rw [hv]
  have HV := Lib.hid hv
  have HS1 := Lib.hid S1
  obtain ⟨p, hp⟩ : ∃ p, s.scale * raw = p := ⟨_, rfl⟩
  obtain ⟨ok1, ok2, ok3, ok4, ok5, ok6, ok7⟩ := hs
  have hpb := mul_bd ok4 hr
  rw [hp] at hpb
  obtain ⟨t, ht⟩ : ∃ t, p.tdiv 1000 = t := ⟨_, rfl⟩
  obtain ⟨r, hrr⟩ : ∃ r, p.tmod 1000 = r := ⟨_, rfl⟩
  have m1 := Int.mul_tdiv_add_tmod p 1000
  have m2 := Int.tmod_lt_of_pos p (show (0 : Int) < 1000 by omega)
  have m3 := Int.lt_tmod_of_pos p (show (0 : Int) < 1000 by omega)
  have q3 : (r < 0 ∧ p / 1000 = t - 1 ∧ -((-p) / 1000) = t) ∨ (0 < r ∧ p / 1000 = t ∧ -((-p) / 1000) = t + 1) ∨ (r = 0 ∧ p / 1000 = t ∧ -((-p) / 1000) = t) := by
    have mt1 := Int.tmod_nonneg 1000 (a := p)
    have mt2 : p < 0 → r ≤ 0 := fun h => by
      have := Int.tmod_nonneg 1000 (a := -p) (by omega)
      rw [Int.neg_tmod, hrr] at this
      omega
    rw [ht, hrr] at m1
    rw [hrr] at m2 m3 mt1
    omega
  have ht1 : -65535001 ≤ t ∧ t ≤ 65535001 := by
    rw [ht, hrr] at m1
    rw [hrr] at m2 m3
    omega
  clear m1 m2 m3
  obtain ⟨fl, hfl⟩ : ∃ fl, p / 1000 = fl := ⟨_, rfl⟩
  obtain ⟨ce, hce⟩ : ∃ ce, -((-p) / 1000) = ce := ⟨_, rfl⟩
  rw [hfl, hce] at q3
  obtain ⟨oe, hoe⟩ : ∃ oe, s.offset - s.error = oe := ⟨_, rfl⟩
  obtain ⟨oo, hoo⟩ : ∃ oo, s.offset + s.error = oo := ⟨_, rfl⟩
  obtain ⟨lo, hlo⟩ : ∃ lo, fl + oe = lo := ⟨_, rfl⟩
  obtain ⟨hi, hhi⟩ : ∃ hi, ce + oo = hi := ⟨_, rfl⟩
  have HLO := Lib.hid (show s.offset + fl - s.error = lo by omega)
  have HHI := Lib.hid (show s.offset + ce + s.error = hi by omega)
  have HP := Lib.hid hp
  have HFL := Lib.hid hfl
  have HCE := Lib.hid hce
  have hw1 : wrap64 (s.scale * raw) = p := by rw [hp]; exact IntWalk.wrap64_in p (by omega)
  have hw2 : wrap64 (s.offset - s.error) = oe := by rw [hoe]; exact IntWalk.wrap64_in oe (by omega)
  have hw3 : wrap64 (s.offset + s.error) = oo := by rw [hoo]; exact IntWalk.wrap64_in oo (by omega)
  have hw4 : wrap64 (fl + oe) = lo := by rw [hlo]; exact IntWalk.wrap64_in lo (by omega)
  have hw5 : wrap64 (ce + oo) = hi := by rw [hhi]; exact IntWalk.wrap64_in hi (by omega)
  have hw6 : wrap64 t = t := IntWalk.wrap64_in t (by omega)
  clear hv S1 hp hpb hfl hce hlo hhi hoe hoo ok1 ok2 ok3 ok4 ok5 ok6 ok7
  unfold senL at HS1 ⊢
  go_enter Try.func48, Try.ntmps48
  go_upto_region 1 with fail
  generalize (w.alloc _).alloc _ = W1 at *
  have k0c : ∀ o, W1.cell? ⟨w.heap.size, o, none⟩ = (senL s).toArray[o]? := HS1.out.k0.cell
  unfold senL at k0c
  rcases q3 with ⟨hr1, hr2, hr3⟩ | ⟨hr1, hr2, hr3⟩ | ⟨hr1, hr2, hr3⟩
  · have n1 : decide (r < 0) = true := by simpa using hr1
    subst hr3
    have wl : wrap64 (ce - 1) = fl := (IntWalk.wrap64_in (ce - 1) (by omega)).trans hr2.symm
    clear hr1 ht1
    clear hr2
    by_cases h1 : s.kind = 1
    · have h1' : (s.kind == 1) = true := beq_iff_eq.2 h1
      obtain ⟨A, hA⟩ : ∃ A, (if lo < 0 then (0 : Int) else lo) = A := ⟨_, rfl⟩
      obtain ⟨B, hB⟩ : ∃ B, (if hi < 0 then (0 : Int) else hi) = B := ⟨_, rfl⟩
      have mA : max lo 0 = A := by rw [← hA]; split <;> omega
      have mB : max hi 0 = B := by rw [← hB]; split <;> omega
      have hv : v = (A, B) := by rw [← HV.out]; unfold scSn; rw [if_pos (by omega), HP.out, HFL.out, HCE.out, HLO.out, HHI.out, mA, mB]
      subst hv
      clear mA mB
      have k4c := HS1.out.k4.cell
      have k4f := HS1.out.k4.frozen
      have F := HS1.out.fin A B
      simp only [setC] at F
      have HF9 := Lib.hid F
      clear F
      go_wp2_with fail
      generalize World.setCell _ ⟨w.heap.size + 1, 1, none⟩ _ = W9 at *
      have f9c := HF9.out.1.cell
      refine bodyPost_ret (v := .agg #[.int .i64 A, .int .i64 B]) (by simp [results, Try.results48, go_sem, f9c]) rfl ?_
      exact ⟨rfl, HF9.out.2⟩
    · have h1' : (s.kind == 1) = false := beq_false_of_ne h1
      by_cases h2 : s.kind = 2
      · have h2' : (s.kind == 2) = true := beq_iff_eq.2 h2
        obtain ⟨A, hA⟩ : ∃ A, (if lo < 0 then (0 : Int) else lo) = A := ⟨_, rfl⟩
        obtain ⟨B, hB⟩ : ∃ B, (if hi < 0 then (0 : Int) else hi) = B := ⟨_, rfl⟩
        have mA : max lo 0 = A := by rw [← hA]; split <;> omega
        have mB : max hi 0 = B := by rw [← hB]; split <;> omega
        have hv : v = (A, B) := by rw [← HV.out]; unfold scSn; rw [if_pos (by omega), HP.out, HFL.out, HCE.out, HLO.out, HHI.out, mA, mB]
        subst hv
        clear mA mB
        have k4c := HS1.out.k4.cell
        have k4f := HS1.out.k4.frozen
        have F := HS1.out.fin A B
        simp only [setC] at F
        have HF9 := Lib.hid F
        clear F
        go_wp2_with fail
        generalize World.setCell _ ⟨w.heap.size + 1, 1, none⟩ _ = W9 at *
        have f9c := HF9.out.1.cell
        refine bodyPost_ret (v := .agg #[.int .i64 A, .int .i64 B]) (by simp [results, Try.results48, go_sem, f9c]) rfl ?_
        exact ⟨rfl, HF9.out.2⟩
      · have h2' : (s.kind == 2) = false := beq_false_of_ne h2
        have hv : v = (lo, hi) := by rw [← HV.out]; unfold scSn; rw [if_neg (by omega), HP.out, HFL.out, HCE.out, HLO.out, HHI.out]
        subst hv
        have k4c := HS1.out.k4.cell
        have k4f := HS1.out.k4.frozen
        have F := HS1.out.fin lo hi
        simp only [setC] at F
        have HF9 := Lib.hid F
        clear F
        go_wp2_with fail
        generalize World.setCell _ ⟨w.heap.size + 1, 1, none⟩ _ = W9 at *
        have f9c := HF9.out.1.cell
        refine bodyPost_ret (v := .agg #[.int .i64 lo, .int .i64 hi]) (by simp [results, Try.results48, go_sem, f9c]) rfl ?_
        exact ⟨rfl, HF9.out.2⟩
  · have n1 : decide (r < 0) = false := by simp; omega
    have n2 : decide (0 < r) = true := by simpa using hr1
    subst hr2
    have wl : wrap64 (fl + 1) = ce := (IntWalk.wrap64_in (fl + 1) (by omega)).trans hr3.symm
    clear hr1 ht1
    clear hr3
    by_cases h1 : s.kind = 1
    · have h1' : (s.kind == 1) = true := beq_iff_eq.2 h1
      obtain ⟨A, hA⟩ : ∃ A, (if lo < 0 then (0 : Int) else lo) = A := ⟨_, rfl⟩
      obtain ⟨B, hB⟩ : ∃ B, (if hi < 0 then (0 : Int) else hi) = B := ⟨_, rfl⟩
      have mA : max lo 0 = A := by rw [← hA]; split <;> omega
      have mB : max hi 0 = B := by rw [← hB]; split <;> omega
      have hv : v = (A, B) := by rw [← HV.out]; unfold scSn; rw [if_pos (by omega), HP.out, HFL.out, HCE.out, HLO.out, HHI.out, mA, mB]
      subst hv
      clear mA mB
      have k4c := HS1.out.k4.cell
      have k4f := HS1.out.k4.frozen
      have F := HS1.out.fin A B
      simp only [setC] at F
      have HF9 := Lib.hid F
      clear F
      go_wp2_with fail
      generalize World.setCell _ ⟨w.heap.size + 1, 1, none⟩ _ = W9 at *
      have f9c := HF9.out.1.cell
      refine bodyPost_ret (v := .agg #[.int .i64 A, .int .i64 B]) (by simp [results, Try.results48, go_sem, f9c]) rfl ?_
      exact ⟨rfl, HF9.out.2⟩
    · have h1' : (s.kind == 1) = false := beq_false_of_ne h1
      by_cases h2 : s.kind = 2
      · have h2' : (s.kind == 2) = true := beq_iff_eq.2 h2
        obtain ⟨A, hA⟩ : ∃ A, (if lo < 0 then (0 : Int) else lo) = A := ⟨_, rfl⟩
        obtain ⟨B, hB⟩ : ∃ B, (if hi < 0 then (0 : Int) else hi) = B := ⟨_, rfl⟩
        have mA : max lo 0 = A := by rw [← hA]; split <;> omega
        have mB : max hi 0 = B := by rw [← hB]; split <;> omega
        have hv : v = (A, B) := by rw [← HV.out]; unfold scSn; rw [if_pos (by omega), HP.out, HFL.out, HCE.out, HLO.out, HHI.out, mA, mB]
        subst hv
        clear mA mB
        have k4c := HS1.out.k4.cell
        have k4f := HS1.out.k4.frozen
        have F := HS1.out.fin A B
        simp only [setC] at F
        have HF9 := Lib.hid F
        clear F
        go_wp2_with fail
        generalize World.setCell _ ⟨w.heap.size + 1, 1, none⟩ _ = W9 at *
        have f9c := HF9.out.1.cell
        refine bodyPost_ret (v := .agg #[.int .i64 A, .int .i64 B]) (by simp [results, Try.results48, go_sem, f9c]) rfl ?_
        exact ⟨rfl, HF9.out.2⟩
      · have h2' : (s.kind == 2) = false := beq_false_of_ne h2
        have hv : v = (lo, hi) := by rw [← HV.out]; unfold scSn; rw [if_neg (by omega), HP.out, HFL.out, HCE.out, HLO.out, HHI.out]
        subst hv
        have k4c := HS1.out.k4.cell
        have k4f := HS1.out.k4.frozen
        have F := HS1.out.fin lo hi
        simp only [setC] at F
        have HF9 := Lib.hid F
        clear F
        go_wp2_with fail
        generalize World.setCell _ ⟨w.heap.size + 1, 1, none⟩ _ = W9 at *
        have f9c := HF9.out.1.cell
        refine bodyPost_ret (v := .agg #[.int .i64 lo, .int .i64 hi]) (by simp [results, Try.results48, go_sem, f9c]) rfl ?_
        exact ⟨rfl, HF9.out.2⟩
  · have n1 : decide (r < 0) = false := by simp; omega
    have n2 : decide (0 < r) = false := by simp; omega
    subst hr2
    subst hr3
    clear hr1 ht1
    by_cases h1 : s.kind = 1
    · have h1' : (s.kind == 1) = true := beq_iff_eq.2 h1
      obtain ⟨A, hA⟩ : ∃ A, (if lo < 0 then (0 : Int) else lo) = A := ⟨_, rfl⟩
      obtain ⟨B, hB⟩ : ∃ B, (if hi < 0 then (0 : Int) else hi) = B := ⟨_, rfl⟩
      have mA : max lo 0 = A := by rw [← hA]; split <;> omega
      have mB : max hi 0 = B := by rw [← hB]; split <;> omega
      have hv : v = (A, B) := by rw [← HV.out]; unfold scSn; rw [if_pos (by omega), HP.out, HFL.out, HCE.out, HLO.out, HHI.out, mA, mB]
      subst hv
      clear mA mB
      have k4c := HS1.out.k4.cell
      have k4f := HS1.out.k4.frozen
      have F := HS1.out.fin A B
      simp only [setC] at F
      have HF9 := Lib.hid F
      clear F
      go_wp2_with fail
      generalize World.setCell _ ⟨w.heap.size + 1, 1, none⟩ _ = W9 at *
      have f9c := HF9.out.1.cell
      refine bodyPost_ret (v := .agg #[.int .i64 A, .int .i64 B]) (by simp [results, Try.results48, go_sem, f9c]) rfl ?_
      exact ⟨rfl, HF9.out.2⟩
    · have h1' : (s.kind == 1) = false := beq_false_of_ne h1
      by_cases h2 : s.kind = 2
      · have h2' : (s.kind == 2) = true := beq_iff_eq.2 h2
        obtain ⟨A, hA⟩ : ∃ A, (if lo < 0 then (0 : Int) else lo) = A := ⟨_, rfl⟩
        obtain ⟨B, hB⟩ : ∃ B, (if hi < 0 then (0 : Int) else hi) = B := ⟨_, rfl⟩
        have mA : max lo 0 = A := by rw [← hA]; split <;> omega
        have mB : max hi 0 = B := by rw [← hB]; split <;> omega
        have hv : v = (A, B) := by rw [← HV.out]; unfold scSn; rw [if_pos (by omega), HP.out, HFL.out, HCE.out, HLO.out, HHI.out, mA, mB]
        subst hv
        clear mA mB
        have k4c := HS1.out.k4.cell
        have k4f := HS1.out.k4.frozen
        have F := HS1.out.fin A B
        simp only [setC] at F
        have HF9 := Lib.hid F
        clear F
        go_wp2_with fail
        generalize World.setCell _ ⟨w.heap.size + 1, 1, none⟩ _ = W9 at *
        have f9c := HF9.out.1.cell
        refine bodyPost_ret (v := .agg #[.int .i64 A, .int .i64 B]) (by simp [results, Try.results48, go_sem, f9c]) rfl ?_
        exact ⟨rfl, HF9.out.2⟩
      · have h2' : (s.kind == 2) = false := beq_false_of_ne h2
        have hv : v = (lo, hi) := by rw [← HV.out]; unfold scSn; rw [if_neg (by omega), HP.out, HFL.out, HCE.out, HLO.out, HHI.out]
        subst hv
        have k4c := HS1.out.k4.cell
        have k4f := HS1.out.k4.frozen
        have F := HS1.out.fin lo hi
        simp only [setC] at F
        have HF9 := Lib.hid F
        clear F
        go_wp2_with fail
        generalize World.setCell _ ⟨w.heap.size + 1, 1, none⟩ _ = W9 at *
        have f9c := HF9.out.1.cell
        refine bodyPost_ret (v := .agg #[.int .i64 lo, .int .i64 hi]) (by simp [results, Try.results48, go_sem, f9c]) rfl ?_
        exact ⟨rfl, HF9.out.2⟩
end Go.Proofs.Ytackckljldpldaa
