/- Stage 11: bounds that are drawn. -/
import Derived.Test.YtnoeblpanfbpjaaGreatXL
import Derived.Test.YtnoeblpanfbpjaaGreatXkw
namespace Go.Proofs.YtnoeblpanfbpjaaGreat.Ab
open Go

theorem bounds_l5_ex {c : SCodes} (hc : CdOK c) {a : SAir} {p : Sq Int} (hp : p.n = a.Mine.Places.n) (hn : a.Mine.Places.n ≤ 64) :
    ∃ y, law11_bounds_l5 c.l_ a.Mine.Places a.Mine.Roads a.Fans a.Doors c.at_ p 0 p = some (.inl y) ∧ 0 ≤ y.1 ∧ y.1 ≤ 300 ∧ y.2.1.n = a.Mine.Places.n ∧ y.2.2.n = a.Mine.Places.n := by
  have key := loop_ex (step := fun v : Int × Sq Int × Int × Sq Int => law11_bounds_l5_step c.l_ a.Mine.Places a.Mine.Roads a.Fans a.Doors v.1 v.2.1 v.2.2.1 v.2.2.2)
    (fun v => ∃ k : Nat, v.2.2.1 = k ∧ k ≤ a.Mine.Places.n ∧ 0 ≤ v.1 ∧ v.1 ≤ 300 ∧ v.2.1.n = a.Mine.Places.n ∧ v.2.2.2.n = a.Mine.Places.n) (fun v => a.Mine.Places.n - v.2.2.1.toNat)
    (fun z => ∃ y, z = .inl y ∧ 0 ≤ y.1 ∧ y.1 ≤ 300 ∧ y.2.1.n = a.Mine.Places.n ∧ y.2.2.n = a.Mine.Places.n) (fun v hv => by
      obtain ⟨b, L, x, H⟩ := v
      obtain ⟨k, h1, hk, h2, h3, h4, h5⟩ := hv
      dsimp only at h1 h2 h3 h4 h5 ⊢
      subst h1
      unfold law11_bounds_l5_step
      rcases Nat.lt_or_ge k a.Mine.Places.n with hi | hi
      · rw [get_t (dlt (by omega)), get_t (dix hi), toNat_nat, wr_next (by omega)]
        by_cases c1 : (a.Mine.Places.f k).Surface = true
        · rw [get_f (by rw [c1]; rfl)]
          exact ⟨_, rfl, ⟨k + 1, rfl, hi, h2, h3, h4, h5⟩, by dsimp only; omega⟩
        · obtain ⟨w1, b1, e1, l1, u1, _⟩ := Codes_Next_ex (hc.at h2 h3) 9000 (by omega)
          obtain ⟨w2, b2, e2, l2, u2, _⟩ := Codes_Next_ex (hc.at l1 u1) 9000 (by omega)
          rw [get_t (by simpa using c1), get_t (dix (by omega)), get_bind e1, get_t (dix (by omega)), get_bind e2, get_t (dix (by omega)), get_t (dix (by omega))]
          exact ⟨_, rfl, ⟨k + 1, rfl, hi, l2, u2, h4, h5⟩, by dsimp only; omega⟩
      · obtain rfl : k = a.Mine.Places.n := by omega
        rw [get_f (dge (by omega))]
        exact ⟨_, rfl, _, rfl, h2, h3, h4, h5⟩)
    (c.at_, p, 0, p) ⟨0, rfl, Nat.zero_le _, hc.a0, hc.a1, hp, hp⟩
  obtain ⟨z, hz, y, rfl, r⟩ := key
  exact ⟨y, by rw [law11_bounds_l5_eq]; exact hz, r⟩
theorem bounds_ex {c : SCodes} (hc : CdOK c) {a : SAir} {s : SSetting} {x : SState} (rt : rightB a s = true) (n0 : 1 ≤ a.Mine.Places.n) (xn : x.Pressures.n = a.Mine.Places.n) :
    ∃ b i, law11_bounds c a s x = some (b, i) ∧ 0 ≤ i ∧ i ≤ 300 ∧ b.Low.n = a.Mine.Places.n ∧ b.High.n = a.Mine.Places.n := by
  have ok := right_ok rt
  have np := ok.m.np
  obtain ⟨b, o, eb, hb⟩ := Solved_ex rt
  rw [law11_bounds_eq]; unfold law11_bounds_t
  rw [get_bind eb]
  dsimp only
  cases o with
  | false =>
    rw [get_t (b := !false) rfl]
    rw [get_t (decide_eq_true ⟨by omega, by omega⟩), get_t (decide_eq_true ⟨by omega, by omega⟩)]
    obtain ⟨y, ey, y0, y1, yl, yh⟩ := bounds_l5_ex (hc.at hc.a0 hc.a1) (a := a) xn (by omega)
    rw [get_sum ey]
    dsimp only [Sum.elim]
    obtain ⟨t1, i1, e1, u1, v1⟩ := Codes_One_ex (hc.at y0 y1) 3 (by omega)
    rw [get_bind e1]
    dsimp only
    cases t1 with
    | true =>
      obtain ⟨k, i2, e2, u2, v2, p2, q2, _⟩ := Codes_Next_ex (hc.at u1 v1) ((y.2.1.n : Nat) : Int) (by omega)
      have q2 := q2 (by omega)
      obtain ⟨w3, i3, e3, u3, v3, p3, q3⟩ := Codes_Range_ex (hc.at u2 v2) (-2) 2 (by omega) (by omega) (by omega)
      obtain ⟨w4, i4, e4, u4, v4, p4, q4⟩ := Codes_Range_ex (hc.at u3 v3) (-2) 2 (by omega) (by omega) (by omega)
      rw [get_t rfl, get_bind e2]
      dsimp only
      rw [get_t (decide_eq_true ⟨p2, q2⟩), get_bind e3]
      dsimp only
      rw [get_t (decide_eq_true ⟨p2, q2⟩), get_t (decide_eq_true ⟨p2, by omega⟩), get_bind e4]
      dsimp only
      rw [get_t (decide_eq_true ⟨p2, by omega⟩)]
      exact ⟨_, _, rfl, u4, v4, yl, yh⟩
    | false =>
      rw [get_f rfl]
      exact ⟨_, _, rfl, u1, v1, yl, yh⟩
  | true =>
    have ho := hb rfl
    have hl := ho.l.n
    have hh := ho.h.n
    rw [get_f (b := !true) rfl]
    obtain ⟨t0, i0, e0, u0, v0⟩ := Codes_One_ex hc 4 (by omega)
    rw [get_bind e0]
    dsimp only
    cases t0 with
    | true =>
      rw [get_t rfl]
      rw [get_t (decide_eq_true ⟨by omega, by omega⟩), get_t (decide_eq_true ⟨by omega, by omega⟩)]
      obtain ⟨y, ey, y0, y1, yl, yh⟩ := bounds_l5_ex (hc.at u0 v0) (a := a) xn (by omega)
      rw [get_sum ey]
      dsimp only [Sum.elim]
      obtain ⟨t1, i1, e1, u1, v1⟩ := Codes_One_ex (hc.at y0 y1) 3 (by omega)
      rw [get_bind e1]
      dsimp only
      cases t1 with
      | true =>
        obtain ⟨k, i2, e2, u2, v2, p2, q2, _⟩ := Codes_Next_ex (hc.at u1 v1) ((y.2.1.n : Nat) : Int) (by omega)
        have q2 := q2 (by omega)
        obtain ⟨w3, i3, e3, u3, v3, p3, q3⟩ := Codes_Range_ex (hc.at u2 v2) (-2) 2 (by omega) (by omega) (by omega)
        obtain ⟨w4, i4, e4, u4, v4, p4, q4⟩ := Codes_Range_ex (hc.at u3 v3) (-2) 2 (by omega) (by omega) (by omega)
        rw [get_t rfl, get_bind e2]
        dsimp only
        rw [get_t (decide_eq_true ⟨p2, q2⟩), get_bind e3]
        dsimp only
        rw [get_t (decide_eq_true ⟨p2, q2⟩), get_t (decide_eq_true ⟨p2, by omega⟩), get_bind e4]
        dsimp only
        rw [get_t (decide_eq_true ⟨p2, by omega⟩)]
        exact ⟨_, _, rfl, u4, v4, yl, yh⟩
      | false =>
        rw [get_f rfl]
        exact ⟨_, _, rfl, u1, v1, yl, yh⟩
    | false =>
      rw [get_f rfl]
      obtain ⟨t1, i1, e1, u1, v1⟩ := Codes_One_ex (hc.at u0 v0) 3 (by omega)
      rw [get_bind e1]
      dsimp only
      cases t1 with
      | true =>
        obtain ⟨k, i2, e2, u2, v2, p2, q2, _⟩ := Codes_Next_ex (hc.at u1 v1) ((b.Low.n : Nat) : Int) (by omega)
        have q2 := q2 (by omega)
        obtain ⟨w3, i3, e3, u3, v3, p3, q3⟩ := Codes_Range_ex (hc.at u2 v2) (-2) 2 (by omega) (by omega) (by omega)
        obtain ⟨w4, i4, e4, u4, v4, p4, q4⟩ := Codes_Range_ex (hc.at u3 v3) (-2) 2 (by omega) (by omega) (by omega)
        rw [get_t rfl, get_bind e2]
        dsimp only
        rw [get_t (decide_eq_true ⟨p2, q2⟩), get_bind e3]
        dsimp only
        rw [get_t (decide_eq_true ⟨p2, q2⟩), get_t (decide_eq_true ⟨p2, by omega⟩), get_bind e4]
        dsimp only
        rw [get_t (decide_eq_true ⟨p2, by omega⟩)]
        exact ⟨_, _, rfl, u4, v4, hl, hh⟩
      | false =>
        rw [get_f rfl]
        exact ⟨_, _, rfl, u1, v1, hl, hh⟩
theorem MdD.lens {a : SAir} {s : SSetting} {x : SState} (h : MdD a s x) : x.Pressures.n = a.Mine.Places.n ∧ x.Flows.n = a.Mine.Roads.n := by
  obtain ⟨sh, s0, _, _, _, hp, hq, _⟩ := h.e
  exact ⟨hp.nn, hq.qn⟩
theorem MdD.n1 {a : SAir} {s : SSetting} {x : SState} (h : MdD a s x) : 1 ≤ a.Mine.Places.n := by
  obtain ⟨sh, s0, h1, _, hP, _⟩ := h.e
  have := hP.n
  omega
end Go.Proofs.YtnoeblpanfbpjaaGreat.Ab
