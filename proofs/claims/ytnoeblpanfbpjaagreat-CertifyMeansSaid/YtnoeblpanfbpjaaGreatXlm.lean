/- Stage 11: Means. -/
import Derived.Test.YtnoeblpanfbpjaaGreatXR
import Derived.Test.YtnoeblpanfbpjaaGreatXQ
import Derived.Test.YtnoeblpanfbpjaaGreatXkm
import Derived.Test.YtnoeblpanfbpjaaGreatXu
namespace Go.Proofs.YtnoeblpanfbpjaaGreat.Ab
open Go

theorem Means_l7_ex {a : SAir} {s : SSetting} (rt : rightB a s = true) {L H : Sq Int} (pL : PrsOK a L) (pH : PrsOK a H) {t : Sq Bool} (tn : t.n = a.Mine.Places.n) (ht : ∀ v : Nat, v < a.Mine.Places.n → (t.f v = true ↔ Aw a.Mine v)) :
    ∃ g, law11_CertifyMeans_l7 a.Mine.Places a.Mine.Roads a.Fans a.Doors s.Fans s.Doors L H t true 0 = some (.inl g) ∧ (g = true ↔ ∀ i, i < a.Mine.Places.n → AccAt a s L H i) := by
  have ok := right_ok rt
  have np := ok.m.np
  have ln := pL.n
  have hn := pH.n
  have key := loop_ex (step := fun v : Bool × Int => law11_CertifyMeans_l7_step a.Mine.Places a.Mine.Roads a.Fans a.Doors s.Fans s.Doors L H t v.1 v.2)
    (fun v => ∃ k : Nat, v.2 = k ∧ k ≤ a.Mine.Places.n ∧ (v.1 = true ↔ ∀ i, i < k → AccAt a s L H i)) (fun v => a.Mine.Places.n - v.2.toNat)
    (fun z => ∃ g, z = .inl g ∧ (g = true ↔ ∀ i, i < a.Mine.Places.n → AccAt a s L H i)) (fun v hv => by
      obtain ⟨g, x⟩ := v
      obtain ⟨k, h1, hk, h⟩ := hv
      dsimp only at h1 h ⊢
      subst h1
      unfold law11_CertifyMeans_l7_step
      rcases Nat.lt_or_ge k a.Mine.Places.n with hi | hi
      · have ms : a.Mine.Places.n - (wr ((k : Int) + 1)).toNat < a.Mine.Places.n - (k : Int).toNat := by rw [wr_next (by omega)]; omega
        have nx : ∀ g' : Bool, (g' = true ↔ g = true ∧ AccAt a s L H k) → ∃ k2 : Nat, wr ((k : Int) + 1) = k2 ∧ k2 ≤ a.Mine.Places.n ∧ (g' = true ↔ ∀ i, i < k2 → AccAt a s L H i) := fun g' hg => by
          refine ⟨k + 1, wr_next (by omega), hi, hg.trans ⟨fun q i hj => ?_, fun q => ⟨h.2 fun i hj => q i (by omega), q k (by omega)⟩⟩⟩
          by_cases c : i = k
          · rw [c]; exact q.2
          · exact h.1 q.1 i (by omega)
        have no : g = false → ∃ k2 : Nat, wr ((k : Int) + 1) = k2 ∧ k2 ≤ a.Mine.Places.n ∧ ((false : Bool) = true ↔ ∀ i, i < k2 → AccAt a s L H i) := fun e => nx false ⟨fun q => by (cases q), fun q => by rw [e] at q; exact absurd q.1 (by simp)⟩
        have fixed : (a.Mine.Places.f k).Surface = true ∨ ¬ Aw a.Mine k → ∀ fl : DT (LR (Bool × Int) Bool Unit), ∃ x, (DT.ite g (.ite (decide ((0 : Int) ≤ (k : Int) ∧ (k : Int) < ((L.n : Nat) : Int))) (.ite (L.f k == (0 : Int)) (.ite (decide ((0 : Int) ≤ (k : Int) ∧ (k : Int) < ((H.n : Nat) : Int))) (.leaf (.next ((H.f k == (0 : Int)), wr ((k : Int) + 1)))) fl) (.leaf (.next (false, wr ((k : Int) + 1))))) fl) (.leaf (.next (false, wr ((k : Int) + 1))))).get = some (.next (x, wr ((k : Int) + 1))) ∧ (x = true ↔ g = true ∧ AccAt a s L H k) := fun fx fl => by
          cases eg : g with
          | false => rw [get_f rfl]; exact ⟨_, rfl, fun q => by (cases q), fun q => absurd q.1 (by simp)⟩
          | true =>
            rw [get_t rfl, get_t (dix (by omega))]
            by_cases c1 : L.f k = 0
            · rw [get_t (by rw [c1]; rfl), get_t (dix (by omega))]
              exact ⟨_, rfl, fun q => ⟨rfl, fun _ => ⟨c1, by simpa using q⟩, fun n => absurd fx n⟩, fun q => by simpa using (q.2.1 fx).2⟩
            · rw [get_f (by simp [c1])]
              exact ⟨_, rfl, fun q => by (cases q), fun q => absurd (q.2.1 fx).1 c1⟩
        rw [get_t (dlt hi), get_t (dix hi), toNat_nat]
        cases hs : (a.Mine.Places.f k).Surface with
        | true =>
          rw [get_t rfl]
          obtain ⟨g', e, h'⟩ := fixed (.inl hs) .fail
          exact ⟨_, e, nx g' h', ms⟩
        | false =>
          rw [get_f rfl, get_t (dix (by omega))]
          cases tk : t.f k with
          | false =>
            rw [get_t (b := !false) rfl]
            obtain ⟨g', e, h'⟩ := fixed (.inr fun q => by rw [(ht k hi).2 q] at tk; cases tk) .fail
            exact ⟨_, e, nx g' h', ms⟩
          | true =>
            have nf : ¬ ((a.Mine.Places.f k).Surface = true ∨ ¬ Aw a.Mine k) := fun q => q.elim (fun e => by rw [hs] at e; cases e) fun n => n ((ht k hi).1 tk)
            rw [get_f (b := !true) rfl]
            cases eg : g with
            | false => rw [get_f rfl]; exact ⟨_, rfl, no eg, ms⟩
            | true =>
              rw [get_t rfl]
              refine ex_bind (balance_Net_v (P := H) (pl := (k : Int)) ⟨rt, pH, by omega, by omega⟩) ?_
              unfold netS
              dsimp only
              rw [toNat_nat]
              by_cases c1 : NL a s H k (H.f k) ≥ 0
              · rw [get_t (decide_eq_true c1)]
                refine ex_bind (balance_Net_v (P := L) (pl := (k : Int)) ⟨rt, pL, by omega, by omega⟩) ?_
                unfold netS
                dsimp only
                rw [toNat_nat]
                refine ⟨_, rfl, nx _ ⟨fun q => ⟨eg, fun f => absurd f nf, fun _ => ⟨c1, of_decide_eq_true q⟩⟩, fun q => decide_eq_true (q.2.2 nf).2⟩, ms⟩
              · rw [get_f (decide_eq_false c1)]
                exact ⟨_, rfl, nx _ ⟨fun q => by (cases q), fun q => absurd (q.2.2 nf).1 c1⟩, ms⟩
      · obtain rfl : k = a.Mine.Places.n := by omega
        rw [get_f (dge (by omega))]
        exact ⟨_, rfl, g, rfl, h⟩)
    (true, 0) ⟨0, rfl, Nat.zero_le _, fun _ i hi => absurd hi (Nat.not_lt_zero _), fun _ => rfl⟩
  obtain ⟨z, hz, g, rfl, r⟩ := key
  exact ⟨g, by rw [law11_CertifyMeans_l7_eq]; exact hz, r⟩
theorem certifyMeans_true (codes : Sq Int) (hb : ∀ k, 0 ≤ codes.f k ∧ codes.f k ≤ 255) : (law11_CertifyMeans_t codes).get = some true := by
  obtain ⟨c, e0, hc⟩ := New_ex codes hb
  obtain ⟨a, s, x, b, e1, b0, b1, md⟩ := Codes_Made_ex hc
  have rt := md.right
  have ok := right_ok rt
  have n1 := md.n1
  have np := md.np
  obtain ⟨pn, qn⟩ := md.lens
  obtain ⟨bd, i, e2, _, _, bl, bh, sm⟩ := bounds_ex (hc.at b0 b1) rt n1 pn
  have px : Sm x.Pressures 4000 := by
    obtain ⟨sh, s0, _, _, _, hp, _⟩ := md.e
    exact fun k hk => hp.f k (by omega)
  obtain ⟨sL, sH⟩ := sm px fun z => solveV_small np md.dr0 z
  have rL : Rng bd.Low := fun k hk => by have := sL k hk; omega
  have rH : Rng bd.High := fun k hk => by have := sH k hk; omega
  obtain ⟨t, et, tn, ht⟩ := Airy_ex ok.m
  obtain ⟨g, eg, hg⟩ := Means_l7_ex rt ⟨bl, rL⟩ ⟨bh, rH⟩ tn ht
  unfold law11_CertifyMeans_t
  rw [get_bind e0, get_bind e1]
  dsimp only
  rw [get_bind e2]
  dsimp only
  rw [get_bind et, get_sum eg]
  dsimp only [Sum.elim]
  cases g with
  | true =>
    have z : certE a s bd = 0 := certE_of rt bl bh rL rH (hg.1 rfl)
    rw [get_t rfl, get_bind (certify_Check_v a s bd (by omega)), z, get_t (show ((0 : Int) == 0) = true from rfl), get_bind awake_true]; rfl
  | false =>
    have z : certE a s bd = 12 := by
      unfold certE
      rw [if_neg (not_not_intro (rightB_air rt)), if_neg (by rw [rt]; simp), if_neg (not_not_intro bl), if_neg (not_not_intro bh), if_neg (not_not_intro rL), if_neg (not_not_intro rH), if_neg fun q => by cases hg.2 q]
    rw [get_f rfl, get_bind (certify_Check_v a s bd (by omega)), z, get_t (show ((12 : Int) == 12) = true from rfl), get_bind awake_true]; rfl
end Go.Proofs.YtnoeblpanfbpjaaGreat.Ab
