/- Stage 1: PlanBack. -/
import Derived.Test.YthkdmemkjojmoaaU1r
import Derived.Test.YthkdmemkjojmoaaXu
namespace Go.Proofs.Ythkdmemkjojmoaa.Ab
open Go

theorem Ed.less {m m' : SMine} {i : Nat} (h : Ed m m' i true) : ∀ u v, Edg m'.Roads u v → Edg m.Roads u v := fun u v ⟨j, h1, h2, h3⟩ => by
  have rn := h.rn
  rw [h.rf] at h2 h3
  by_cases c : j = i
  · rw [if_pos c] at h2; cases h2
  · rw [if_neg c] at h2 h3
    exact ⟨j, by omega, h2, h3⟩
theorem Ed.more {m m' : SMine} {i : Nat} (h : Ed m m' i false) : ∀ u v, Edg m.Roads u v → Edg m'.Roads u v := fun u v ⟨j, h1, h2, h3⟩ => by
  have rn := h.rn
  refine ⟨j, by omega, ?_, ?_⟩
  · rw [h.rf]
    split
    · rfl
    · exact h2
  · rw [h.rf]
    split
    · rename_i c; subst c; exact h3
    · exact h3
theorem Ed.same {m m' m'' : SMine} {i : Nat} {b : Bool} (h : Ed m m' i b) (k : Ed m' m'' i (!b)) (hb : (m.Roads.f i).Closed = !b) (np : m.Places.n ≤ 64) (nr : m.Roads.n ≤ 128) : ref01_Same m'' m = some true := by
  have a1 := h.pn
  have a2 := h.rn
  have b1 := k.pn
  have b2 := k.rn
  refine Same_ex (by omega) (by omega) (by omega) (by omega) (fun j _ => by rw [k.pf, h.pf]) (fun j _ => ?_)
  rw [k.rf, h.rf, h.rf, if_pos rfl]
  by_cases c : j = i
  · rw [if_pos c, c, ← hb]
  · rw [if_neg c, if_neg c]
theorem less_more {a b : SMine} (oka : MineOK a) (okb : MineOK b) (h12 : a.Places.n ≤ 12) (hn : b.Places.n = a.Places.n) (hp : ∀ j, b.Places.f j = a.Places.f j) (he : ∀ u v, Edg a.Roads u v → Edg b.Roads u v) :
    ∃ ca cb La Lb, plan_CutOff a = some ca ∧ plan_CutOff b = some cb ∧ law01_PlanBack_l17 a.Places a.Roads b.Places b.Roads ca cb 0 = some (.inl ()) ∧ plan_Parts a = some La ∧ plan_Parts b = some Lb ∧ decide (((La.n : Nat) : Int) ≥ ((Lb.n : Nat) : Int)) = true := by
  obtain ⟨ca, e1, d1, h1⟩ := CutOff_ex oka h12
  obtain ⟨cb, e2, d2, h2⟩ := CutOff_ex okb (by omega)
  obtain ⟨La, e3, P1, q1⟩ := Parts_ex oka h12
  obtain ⟨Lb, e4, P2, q2⟩ := Parts_ex okb (by omega)
  have na : ca.n ≤ a.Places.n := d1.le fun v hv => by have := (h1 v).1 hv; exact ⟨this.1, this.2.1⟩
  have nb : cb.n ≤ b.Places.n := d2.le fun v hv => by have := (h2 v).1 hv; exact ⟨this.1, this.2.1⟩
  refine ⟨ca, cb, La, Lb, e1, e2, ?_, e3, e4, decide_eq_true ?_⟩
  · rw [law01_PlanBack_l17_eq]
    refine (loop_first (step := fun v => law01_PlanBack_l17_step a.Places a.Roads b.Places b.Roads ca cb v) (n := cb.n) (fun _ => none) (fun i hi => ?_) ?_ cb.n 0 (Nat.zero_add _)).trans ?_
    · unfold law01_PlanBack_l17_step
      obtain ⟨t, et, ht⟩ := Has_v ca (by omega) (cb.f i)
      have ht : t = true := ht.2 ((h1 _).2 (by
        have k := (h2 _).1 ⟨i, hi, rfl⟩
        refine ⟨k.1, by have := k.2.1; omega, fun w w0 w1 cn => ?_⟩
        rw [← hp]
        exact k.2.2 w w0 (by omega) (cn.mono he)))
      subst ht
      rw [get_t (dlt hi), get_t (dix hi), toNat_nat, get_bind et, get_f (b := !true) rfl, wr_next (by omega)]; rfl
    · unfold law01_PlanBack_l17_step
      rw [get_f (dge (Nat.le_refl _))]; rfl
    · rw [firstN_all fun _ _ _ => rfl]
  · have ex : ∀ i, i < Lb.n → ∃ j, j < La.n ∧ ∃ r, In (Lb.f i) r ∧ In (La.f j) r := fun i hi => by
      obtain ⟨r, hr⟩ := P2.one hi
      obtain ⟨x, x0, x1, hx⟩ := P2.c i hi
      have k := (hx r).1 hr
      obtain ⟨j, hj, hj2⟩ := q1 r.toNat (by omega)
      rw [show ((r.toNat : Nat) : Int) = r by omega] at hj2
      exact ⟨j, hj, r, hr, hj2⟩
    have := php La.n Lb.n (fun i => if h : i < Lb.n then Classical.choose (ex i h) else 0) (fun i hi => by
        rw [dif_pos hi]
        exact (Classical.choose_spec (ex i hi)).1) (fun i j hi hj e => by
        rw [dif_pos hi, dif_pos hj] at e
        obtain ⟨u1, r, r1, r2⟩ := Classical.choose_spec (ex i hi)
        obtain ⟨_, s, s1, s2⟩ := Classical.choose_spec (ex j hj)
        rw [← e] at s2
        have cn := (P1.conn u1 r2).1 s2
        exact P2.u i j hi hj s ((P2.conn hi r1).2 ⟨cn.1, by omega, cn.2.2.mono he⟩) s1)
    omega
theorem planBack_true (codes : Sq Int) (hb : ∀ k, 0 ≤ codes.f k ∧ codes.f k ≤ 255) (road : Int) : (law01_PlanBack_t codes road).get = some true := by
  obtain ⟨c, e0, hc⟩ := New_ex codes hb
  obtain ⟨m, a, e1, hm⟩ := Codes_Mine_ex hc
  have n0 := hm.n0
  have n1 := hm.n1
  have ok := hm.ok
  have np := ok.np
  have nr := ok.nr
  unfold law01_PlanBack_t
  rw [get_bind e0, get_bind e1]
  dsimp only
  by_cases c0 : m.Roads.n = 0
  · rw [get_t (by rw [c0]; rfl), get_bind awake_true]; rfl
  · rw [get_f (by simp; omega)]
    obtain ⟨v, e2, _, hv⟩ := Mod_ex road (m.Roads.n : Int) (by omega)
    have hv := hv (by omega)
    obtain ⟨i, rfl⟩ : ∃ i : Nat, v = i := ⟨v.toNat, by omega⟩
    have hi : i < m.Roads.n := by omega
    rw [get_bind e2, get_t (dix hi), toNat_nat]
    have f0 : ((0 : Int) != 0) = false := rfl
    by_cases cl : (m.Roads.f i).Closed = true
    · rw [get_t cl]
      obtain ⟨m1, e3, E1⟩ := Apply_ex ok (by omega) hi (b := false) cl (kd := 4) rfl ⟨0, false⟩ ⟨0, 0, 0, 0, false, false, ⟨0, 0⟩, ⟨0, 0⟩⟩ ⟨0, 0⟩
      have ok1 := E1.ok ok hi
      have p1 := E1.pn
      have r1 := E1.rn
      obtain ⟨m2, e4, E2⟩ := Apply_ex ok1 (by omega) (by omega) (i := i) (b := true) (by rw [E1.rf, if_pos rfl]; rfl) (kd := 3) rfl ⟨0, false⟩ ⟨0, 0, 0, 0, false, false, ⟨0, 0⟩, ⟨0, 0⟩⟩ ⟨0, 0⟩
      obtain ⟨ca, cb, La, Lb, f1, f2, f3, f4, f5, f6⟩ := less_more ok ok1 (by omega) E1.pn E1.pf E1.more
      rw [get_bind e3]
      dsimp only
      rw [get_bind e4]
      dsimp only
      rw [get_f f0, get_f f0, get_bind (E1.same E2 cl np nr), get_f (b := !true) rfl, get_bind f1, get_bind f2, get_sum f3]
      dsimp only [Sum.elim]
      rw [get_bind f4, get_bind f5, get_t f6, get_bind awake_true]; rfl
    · have cl : (m.Roads.f i).Closed = false := by simpa using cl
      rw [get_f cl]
      obtain ⟨m1, e3, E1⟩ := Apply_ex ok (by omega) hi (b := true) cl (kd := 3) rfl ⟨0, false⟩ ⟨0, 0, 0, 0, false, false, ⟨0, 0⟩, ⟨0, 0⟩⟩ ⟨0, 0⟩
      have ok1 := E1.ok ok hi
      have p1 := E1.pn
      have r1 := E1.rn
      obtain ⟨m2, e4, E2⟩ := Apply_ex ok1 (by omega) (by omega) (i := i) (b := false) (by rw [E1.rf, if_pos rfl]; rfl) (kd := 4) rfl ⟨0, false⟩ ⟨0, 0, 0, 0, false, false, ⟨0, 0⟩, ⟨0, 0⟩⟩ ⟨0, 0⟩
      obtain ⟨ca, cb, La, Lb, f1, f2, f3, f4, f5, f6⟩ := less_more ok1 ok (by omega) E1.pn.symm (fun j => (E1.pf j).symm) E1.less
      rw [get_bind e3]
      dsimp only
      rw [get_bind e4]
      dsimp only
      rw [get_f f0, get_f f0, get_bind (E1.same E2 cl np nr), get_f (b := !true) rfl, get_bind f1, get_bind f2, get_sum f3]
      dsimp only [Sum.elim]
      rw [get_bind f4, get_bind f5, get_t f6, get_bind awake_true]; rfl
end Go.Proofs.Ythkdmemkjojmoaa.Ab
