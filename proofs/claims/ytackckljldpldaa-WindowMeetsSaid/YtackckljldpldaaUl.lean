/- Stage 6: what Until's maths needs: what is not surely less does not become so. -/
import Derived.Test.YtackckljldpldaaUm
namespace Go.Proofs.Ytackckljldpldaa
open Go.RowKit

theorem drift_bd {a b d : Int} (hd : 0 ≤ d) (ha : 0 ≤ a) (hab : a ≤ b) : (d * a + 999) / 1000 ≤ (d * b + 999) / 1000 ∧ 0 ≤ (d * a + 999) / 1000 := by
  have h1 := Int.mul_le_mul_of_nonneg_left hab hd
  have h2 := Int.mul_nonneg hd ha
  omega
theorem less_iff {s : Sn} {ms mt lo hi v k : Int} (hck : ckSn s = 0) (h0 : 0 ≤ k) (hl : -1099511627776 ≤ lo) (hh : lo ≤ hi) :
    lessP s ms mt lo hi v k = true ↔ (¬ (ms < 0 ∨ (lo, hi) = nothingSp) ∧ k ≤ s.life ∧ (drSn s lo hi k).1 ≤ (drSn s lo hi k).2 ∧ (drSn s lo hi k).2 < v) := by
  obtain ⟨_, hok⟩ := ck0 hck
  unfold snOk at hok
  unfold lessP atSn
  rw [show mt + k - mt = k by omega]
  by_cases hb : ms < 0 ∨ (lo, hi) = nothingSp
  · rw [if_pos (.inr hb)]
    simp [hb]
  · rw [if_neg (by rw [hck]; simpa using hb)]
    by_cases hlf : s.life < k
    · rw [if_pos (.inr hlf)]
      simp; omega
    · rw [if_neg (by omega)]
      have hne : drSn s lo hi k ≠ nothingSp ∧ (drSn s lo hi k).1 ≤ (drSn s lo hi k).2 := by
        have hm1 := Int.mul_nonneg hok.2.2.2.2.2.1.1 h0
        have hm2 := Int.mul_le_mul hok.2.2.2.2.2.1.2 (show k ≤ 1000000 by omega) h0 (show (0 : Int) ≤ 1000000 by omega)
        unfold drSn
        generalize s.drift * k = q at *
        by_cases c1 : s.kind = 4 ∨ s.kind = 5 ∨ s.kind = 6
        · rw [if_pos c1]; exact ⟨fun h => hb (.inr h), hh⟩
        · rw [if_neg c1]
          by_cases c2 : s.kind = 1 ∨ s.kind = 2
          · rw [if_pos c2]; exact ⟨fun e => by unfold nothingSp at e; injection e with e1 e2; omega, by dsimp only; omega⟩
          · rw [if_neg c2]; exact ⟨fun e => by unfold nothingSp at e; injection e with e1 e2; omega, by dsimp only; omega⟩
      have hab : abv (drSn s lo hi k).1 (drSn s lo hi k).2 v = -1 ↔ (drSn s lo hi k).2 < v := by
        have := hne.2
        unfold abv
        rw [if_neg (by omega)]
        split
        · constructor
          · intro h; omega
          · intro h; omega
        · split
          · simp; assumption
          · constructor
            · intro h; omega
            · intro h; omega
      simp only [Bool.and_eq_true, decide_eq_true_eq, hab]
      constructor
      · exact fun h => ⟨hb, by omega, hne.2, h.2⟩
      · exact fun h => ⟨hne.1, h.2.2.2⟩
theorem dr_mono {s : Sn} {lo hi a b : Int} (hd : 0 ≤ s.drift) (h0 : 0 ≤ a) (hab : a ≤ b) (hh : lo ≤ hi) : (drSn s lo hi a).1 ≤ (drSn s lo hi a).2 ∧ (drSn s lo hi a).2 ≤ (drSn s lo hi b).2 ∧ (drSn s lo hi b).1 ≤ (drSn s lo hi a).1 := by
  obtain ⟨h1, h2⟩ := drift_bd hd h0 hab
  unfold drSn
  by_cases c1 : s.kind = 4 ∨ s.kind = 5 ∨ s.kind = 6
  · rw [if_pos c1, if_pos c1]; exact ⟨hh, Int.le_refl _, Int.le_refl _⟩
  · rw [if_neg c1, if_neg c1]
    by_cases c2 : s.kind = 1 ∨ s.kind = 2
    · rw [if_pos c2, if_pos c2]; dsimp only; omega
    · rw [if_neg c2, if_neg c2]; dsimp only; omega
theorem less_mono {s : Sn} {ms mt lo hi v : Int} (hck : ckSn s = 0) (hl : -1099511627776 ≤ lo) (hh : lo ≤ hi) (a b : Nat) (hab : a ≤ b) (hb : lessP s ms mt lo hi v ((b : Int) + 1) = true) : lessP s ms mt lo hi v ((a : Int) + 1) = true := by
  have hok := (ck0 hck).2
  unfold snOk at hok
  rw [less_iff hck (by omega) hl hh] at hb ⊢
  obtain ⟨h1, h2, h3, h4⟩ := hb
  obtain ⟨g1, g2, _⟩ := dr_mono (s := s) (lo := lo) (hi := hi) hok.2.2.2.2.2.1.1 (show (0 : Int) ≤ (a : Int) + 1 by omega) (show (a : Int) + 1 ≤ (b : Int) + 1 by omega) hh
  exact ⟨h1, by omega, g1, by omega⟩
end Go.Proofs.Ytackckljldpldaa
