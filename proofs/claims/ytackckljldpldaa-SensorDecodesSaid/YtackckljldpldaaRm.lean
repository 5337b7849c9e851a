/- Stage 5, what the maths of Raw needs: the values rise, or fall; the least number. -/
import Derived.Test.YtackckljldpldaaW8
import Derived.Test.YtackckljldpldaaR5
namespace Go.Proofs.Ytackckljldpldaa
open Go.RowKit

def stateSn (k : Int) : Prop := k = 4 ∨ k = 5 ∨ k = 6
instance (k : Int) : Decidable (stateSn k) := by unfold stateSn; infer_instance
def fallsSn (s : Sn) : Bool := decide (s.scale < 0) && !decide (s.kind = 4 ∨ s.kind = 5 ∨ s.kind = 6)
def pRaw (s : Sn) (v : Int) (r : Int) : Bool := if fallsSn s then decide ((valSn s r).1 ≤ v) else decide (v ≤ (valSn s r).2)

theorem sc_mono (s : Sn) {x y : Int} (h : x ≤ y) : s.offset + x / 1000 - s.error ≤ s.offset + y / 1000 - s.error ∧ s.offset + -((-x) / 1000) + s.error ≤ s.offset + -((-y) / 1000) + s.error ∧
    max (s.offset + x / 1000 - s.error) 0 ≤ max (s.offset + y / 1000 - s.error) 0 ∧ max (s.offset + -((-x) / 1000) + s.error) 0 ≤ max (s.offset + -((-y) / 1000) + s.error) 0 := by
  omega
theorem scSn_mono (s : Sn) {a b : Int} (h : s.scale * a ≤ s.scale * b) : (scSn s a).1 ≤ (scSn s b).1 ∧ (scSn s a).2 ≤ (scSn s b).2 := by
  obtain ⟨h1, h2, h3, h4⟩ := sc_mono s h
  unfold scSn
  by_cases hk : s.kind = 1 ∨ s.kind = 2
  · rw [if_pos hk, if_pos hk]; exact ⟨h3, h4⟩
  · rw [if_neg hk, if_neg hk]; exact ⟨h1, h2⟩
theorem val_up {s : Sn} (h : ckSn s = 0) (hf : fallsSn s = false) {a b : Int} (h0 : 0 ≤ a) (hab : a ≤ b) (hb : b ≤ grk s.kind) : (valSn s a).1 ≤ (valSn s b).1 ∧ (valSn s a).2 ≤ (valSn s b).2 := by
  by_cases hs : s.kind = 4 ∨ s.kind = 5 ∨ s.kind = 6
  · rw [valSn_st h ⟨h0, by omega⟩ hs, valSn_st h ⟨by omega, hb⟩ hs]; exact ⟨hab, hab⟩
  · rw [valSn_sc h ⟨h0, by omega⟩ hs, valSn_sc h ⟨by omega, hb⟩ hs]
    refine scSn_mono s (Int.mul_le_mul_of_nonneg_left hab ?_)
    unfold fallsSn at hf
    simp [hs] at hf
    omega
theorem val_down {s : Sn} (h : ckSn s = 0) (hf : fallsSn s = true) {a b : Int} (h0 : 0 ≤ a) (hab : a ≤ b) (hb : b ≤ grk s.kind) : (valSn s b).1 ≤ (valSn s a).1 ∧ (valSn s b).2 ≤ (valSn s a).2 := by
  unfold fallsSn at hf
  have hs : ¬ (s.kind = 4 ∨ s.kind = 5 ∨ s.kind = 6) := by
    intro hs; simp [hs] at hf
  have hn : s.scale < 0 := by simp [hs] at hf; exact hf
  rw [valSn_sc h ⟨h0, by omega⟩ hs, valSn_sc h ⟨by omega, hb⟩ hs]
  refine scSn_mono s ?_
  have := Int.mul_le_mul_of_nonneg_left hab (show (0 : Int) ≤ -s.scale by omega)
  rw [Int.neg_mul, Int.neg_mul] at this
  omega
theorem scale_bd {s r : Int} (h1 : -1000000 ≤ s) (h2 : s ≤ 1000000) (h3 : 0 ≤ r) (h4 : r ≤ 65535) : -65535000000 ≤ s * r ∧ s * r ≤ 65535000000 := by
  constructor
  · have := Int.mul_le_mul_of_nonneg_right h1 h3
    omega
  · have := Int.mul_le_mul_of_nonneg_right h2 h3
    omega
theorem val_ne {s : Sn} (h : ckSn s = 0) {a : Int} (h0 : 0 ≤ a) (hb : a ≤ grk s.kind) : valSn s a ≠ nothingSp ∧ (valSn s a).1 ≤ (valSn s a).2 := by
  obtain ⟨_, hok⟩ := ck0 h
  unfold snOk at hok
  have hg := grk_le s.kind
  by_cases hs : s.kind = 4 ∨ s.kind = 5 ∨ s.kind = 6
  · rw [valSn_st h ⟨h0, by omega⟩ hs]
    unfold nothingSp
    exact ⟨fun e => by injection e with e1 e2; omega, Int.le_refl _⟩
  · rw [valSn_sc h ⟨h0, by omega⟩ hs]
    obtain ⟨b1, b2⟩ := scale_bd hok.2.2.2.1.1 hok.2.2.2.1.2 h0 (show a ≤ 65535 by omega)
    unfold scSn nothingSp
    generalize s.scale * a = q at *
    by_cases hk : s.kind = 1 ∨ s.kind = 2
    · rw [if_pos hk]
      exact ⟨fun e => by injection e with e1 e2; omega, by dsimp only; omega⟩
    · rw [if_neg hk]
      exact ⟨fun e => by injection e with e1 e2; omega, by dsimp only; omega⟩
theorem hit_in {s : Sn} (h : ckSn s = 0) (v : Int) {a : Int} (h0 : 0 ≤ a) (hb : a ≤ grk s.kind) : hitSn s v a = decide ((valSn s a).1 ≤ v ∧ v ≤ (valSn s a).2) := by
  unfold hitSn
  rw [decide_eq_true (val_ne h h0 hb).1, Bool.true_and, Bool.decide_and]
theorem hit_out {s : Sn} (h : ckSn s = 0) (v : Int) {a : Int} (hb : ¬ (0 ≤ a ∧ a ≤ grk s.kind)) : hitSn s v a = false := by
  unfold hitSn
  rw [valSn_out h hb]
  simp
theorem hit_bad {s : Sn} (h : ckSn s ≠ 0) (v a : Int) : hitSn s v a = false := by
  unfold hitSn valSn
  rw [if_pos (.inl h)]
  simp
theorem rawFrom_none {s : Sn} {v : Int} : ∀ (k : Nat) (r : Int), (∀ j, r ≤ j → j < r + k → hitSn s v j = false) → rawFrom s v k r = (0, false) := by
  intro k
  induction k with
  | zero => exact fun _ _ => rfl
  | succ k ih =>
    intro r hh
    rw [rawFrom, hh r (Int.le_refl _) (by omega)]
    simp only [Bool.false_eq_true, if_false]
    exact ih _ (fun j h1 h2 => hh j (by omega) (by omega))
theorem rawFrom_some {s : Sn} {v : Int} (t : Int) (ht : hitSn s v t = true) : ∀ (k : Nat) (r : Int), r ≤ t → t < r + k → (∀ j, r ≤ j → j < t → hitSn s v j = false) → rawFrom s v k r = (t, true) := by
  intro k
  induction k with
  | zero => intro r h1 h2 _; omega
  | succ k ih =>
    intro r h1 h2 hh
    by_cases hr : r = t
    · subst hr
      rw [rawFrom, ht]; rfl
    · rw [rawFrom, hh r (Int.le_refl _) (by omega)]
      simp only [Bool.false_eq_true, if_false]
      exact ih _ (by omega) (by omega) (fun j h3 h4 => hh j (by omega) h4)
theorem raw_bad {s : Sn} (h : ckSn s ≠ 0) (v : Int) : rawSn s v = (0, false) := rawFrom_none _ _ fun j _ _ => hit_bad h v j
theorem raw_mono {s : Sn} (h : ckSn s = 0) (v : Int) {a b : Int} (h0 : 0 ≤ a) (hab : a ≤ b) (hb : b ≤ grk s.kind) (hp : pRaw s v a = true) : pRaw s v b = true := by
  unfold pRaw at *
  cases hf : fallsSn s with
  | false =>
    have := val_up h hf h0 hab hb
    simp only [hf, Bool.false_eq_true, if_false, decide_eq_true_eq] at *
    omega
  | true =>
    have := val_down h hf h0 hab hb
    simp only [hf, if_true, decide_eq_true_eq] at *
    omega
theorem raw_res {s : Sn} (h : ckSn s = 0) (v r : Int) (h0 : 0 ≤ r) (hr : r ≤ grk s.kind) (h1 : ∀ t, 0 ≤ t → t < r → pRaw s v t = false) (h2 : ∀ t, r ≤ t → t < grk s.kind → pRaw s v t = true) :
    rawSn s v = if (valSn s r).1 ≤ v ∧ v ≤ (valSn s r).2 then (r, true) else (0, false) := by
  have hg := grk_le s.kind
  have lo : ∀ t, 0 ≤ t → t < r → hitSn s v t = false := by
    intro t ht htr
    rw [hit_in h v ht (by omega)]
    have := h1 t ht htr
    unfold pRaw at this
    cases hf : fallsSn s with
    | false => simp only [hf, Bool.false_eq_true, if_false, decide_eq_false_iff_not] at this; simp; omega
    | true => simp only [hf, if_true, decide_eq_false_iff_not] at this; simp; omega
  by_cases hc : (valSn s r).1 ≤ v ∧ v ≤ (valSn s r).2
  · rw [if_pos hc]
    refine rawFrom_some r ?_ _ _ h0 (by omega) lo
    rw [hit_in h v h0 hr, decide_eq_true hc]
  · rw [if_neg hc]
    refine rawFrom_none _ _ fun j h3 h4 => ?_
    by_cases hj : j < r
    · exact lo j h3 hj
    · by_cases hjg : j ≤ grk s.kind
      · by_cases hje : j = r
        · subst hje
          rw [hit_in h v h0 hr, decide_eq_false hc]
        · rw [hit_in h v h3 hjg]
          have h5 := h2 r (Int.le_refl _) (by omega)
          unfold pRaw at h5
          have h6 := (val_ne h h3 hjg).2
          cases hf : fallsSn s with
          | false =>
            have := val_up h hf h0 (show r ≤ j by omega) hjg
            simp only [hf, Bool.false_eq_true, if_false, decide_eq_true_eq] at h5
            simp; omega
          | true =>
            have := val_down h hf h0 (show r ≤ j by omega) hjg
            simp only [hf, if_true, decide_eq_true_eq] at h5
            simp; omega
      · exact hit_out h v (by omega)
end Go.Proofs.Ytackckljldpldaa
