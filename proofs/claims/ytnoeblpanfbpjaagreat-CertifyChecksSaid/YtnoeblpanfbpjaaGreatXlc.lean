/- Stage 11: Checks. -/
import Derived.Test.YtnoeblpanfbpjaaGreatXP
import Derived.Test.YtnoeblpanfbpjaaGreatXQ
import Derived.Test.YtnoeblpanfbpjaaGreatXkc
import Derived.Test.YtnoeblpanfbpjaaGreatXvb
namespace Go.Proofs.YtnoeblpanfbpjaaGreat.Ab
open Go

theorem certifyChecks_true (codes : Sq Int) (hb : ∀ k, 0 ≤ codes.f k ∧ codes.f k ≤ 255) (raw : SBounds) : (law11_CertifyChecks_t codes raw).get = some true := by
  obtain ⟨c, e0, hc⟩ := New_ex codes hb
  obtain ⟨a, s, x, b, e1, b0, b1, md⟩ := Codes_Made_ex hc
  have rt := md.right
  have n1 := md.n1
  have np := md.np
  obtain ⟨pn, qn⟩ := md.lens
  obtain ⟨bd, i, e2, i0, i1, bl, bh⟩ := bounds_ex (hc.at b0 b1) rt n1 pn
  obtain ⟨sh, s0, _, _, _, _, _, hE, _⟩ := md.e
  have hfn := hE.fn
  have hdn := hE.dn
  obtain ⟨t, b3, e3, _⟩ := Codes_Setting_ex (hc.at i0 i1) a (by omega) (by omega) (fun i hi => by have := (hE.d.f i hi).1.n1; omega)
  have key : ∀ B : Sq SBounds, B.n = 3 → law11_CertifyChecks_l6 a.Mine.Places a.Mine.Roads a.Fans a.Doors s.Fans s.Doors t.Fans t.Doors B 0 = some (.inl ()) := fun B hB => by
    rw [law11_CertifyChecks_l6_eq]
    refine (loop_first (step := fun v => law11_CertifyChecks_l6_step a.Mine.Places a.Mine.Roads a.Fans a.Doors s.Fans s.Doors t.Fans t.Doors B v) (n := 3) (fun _ => none) (fun i hi => ?_) ?_ 3 0 (Nat.zero_add _)).trans ?_
    · unfold law11_CertifyChecks_l6_step
      obtain ⟨k, l, ek, el, es⟩ := Flows_same a s (B.f i) (by omega)
      rw [get_t (decide_eq_true (by omega)), get_t (dix (by omega)), toNat_nat, wr_next (by omega)]
      refine (get_bind (certify_Check_v a s (B.f i) (by omega))).trans ?_
      refine (get_bind (ref11_Check_v a s (B.f i))).trans ?_
      rw [get_f (by simp)]
      refine (get_bind (certify_Check_v a t (B.f i) (by omega))).trans ?_
      refine (get_bind (ref11_Check_v a t (B.f i))).trans ?_
      rw [get_f (by simp)]
      refine (get_bind ek).trans ?_
      refine (get_bind el).trans ?_
      rw [get_bind es, get_f (b := !true) rfl]; rfl
    · unfold law11_CertifyChecks_l6_step
      rw [get_f (decide_eq_false (by omega))]; rfl
    · rw [firstN_all fun _ _ _ => rfl]
  unfold law11_CertifyChecks_t
  rw [get_bind e0, get_bind e1]
  dsimp only
  rw [get_bind e2]
  dsimp only
  rw [get_bind e3]
  dsimp only
  rw [get_sum (key _ rfl)]
  dsimp only [Sum.elim]
  rw [get_bind awake_true]; rfl
end Go.Proofs.YtnoeblpanfbpjaaGreat.Ab
