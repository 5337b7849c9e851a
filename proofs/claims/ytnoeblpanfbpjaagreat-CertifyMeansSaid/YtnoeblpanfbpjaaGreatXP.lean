/- Stage 11: bounds that are drawn. -/
import Derived.Test.YtnoeblpanfbpjaaGreatXL
import Derived.Test.YtnoeblpanfbpjaaGreatXt
import Derived.Test.YtnoeblpanfbpjaaGreatXkw
namespace Go.Proofs.YtnoeblpanfbpjaaGreat.Ab
open Go

/-- All numbers are at most B, up or down. -/
def Sm (l : Sq Int) (B : Int) : Prop := ∀ k, k < l.n → -B ≤ l.f k ∧ l.f k ≤ B
theorem Sm.le {l : Sq Int} {B B' : Int} (h : Sm l B) (hB : B ≤ B') : Sm l B' := fun k hk => by have := h k hk; omega
theorem Sm.set {l : Sq Int} {B : Int} (h : Sm l B) (k : Nat) {v : Int} (h0 : -B ≤ v) (h1 : v ≤ B) : Sm ⟨l.n, fun j => cond (Nat.beq j k) v (l.f j)⟩ B := fun j hj => by
  show _ ≤ cond _ _ _ ∧ cond _ _ _ ≤ _
  by_cases c : j = k
  · rw [beq_t c]; exact ⟨h0, h1⟩
  · rw [beq_f c]; exact h j hj
theorem bounds_l5_ex {c : SCodes} (hc : CdOK c) {a : SAir} {p : Sq Int} (hp : p.n = a.Mine.Places.n) (hn : a.Mine.Places.n ≤ 64) :
    ∃ y, law11_bounds_l5 c.l_ a.Mine.Places a.Mine.Roads a.Fans a.Doors c.at_ p 0 p = some (.inl y) ∧ 0 ≤ y.1 ∧ y.1 ≤ 300 ∧ y.2.1.n = a.Mine.Places.n ∧ y.2.2.n = a.Mine.Places.n ∧ (Sm p 4000 → Sm y.2.1 13000 ∧ Sm y.2.2 13000) := by
  have key := loop_ex (step := fun v : Int × Sq Int × Int × Sq Int => law11_bounds_l5_step c.l_ a.Mine.Places a.Mine.Roads a.Fans a.Doors v.1 v.2.1 v.2.2.1 v.2.2.2)
    (fun v => ∃ k : Nat, v.2.2.1 = k ∧ k ≤ a.Mine.Places.n ∧ 0 ≤ v.1 ∧ v.1 ≤ 300 ∧ v.2.1.n = a.Mine.Places.n ∧ v.2.2.2.n = a.Mine.Places.n ∧ (Sm p 4000 → (∀ j, j < a.Mine.Places.n → -13000 ≤ v.2.1.f j ∧ v.2.1.f j ≤ 13000 ∧ -13000 ≤ v.2.2.2.f j ∧ v.2.2.2.f j ≤ 13000) ∧ ∀ j, k ≤ j → j < a.Mine.Places.n → -4000 ≤ v.2.1.f j ∧ v.2.1.f j ≤ 4000 ∧ -4000 ≤ v.2.2.2.f j ∧ v.2.2.2.f j ≤ 4000)) (fun v => a.Mine.Places.n - v.2.2.1.toNat)
    (fun z => ∃ y, z = .inl y ∧ 0 ≤ y.1 ∧ y.1 ≤ 300 ∧ y.2.1.n = a.Mine.Places.n ∧ y.2.2.n = a.Mine.Places.n ∧ (Sm p 4000 → Sm y.2.1 13000 ∧ Sm y.2.2 13000)) (fun v hv => by
      obtain ⟨b, L, x, H⟩ := v
      obtain ⟨k, h1, hk, h2, h3, h4, h5, h6⟩ := hv
      dsimp only at h1 h2 h3 h4 h5 h6 ⊢
      subst h1
      unfold law11_bounds_l5_step
      rcases Nat.lt_or_ge k a.Mine.Places.n with hi | hi
      · rw [get_t (dlt (by omega)), get_t (dix hi), toNat_nat, wr_next (by omega)]
        by_cases c1 : (a.Mine.Places.f k).Surface = true
        · rw [get_f (by rw [c1]; rfl)]
          exact ⟨_, rfl, ⟨k + 1, rfl, hi, h2, h3, h4, h5, fun q => ⟨(h6 q).1, fun j j1 j2 => (h6 q).2 j (by omega) j2⟩⟩, by dsimp only; omega⟩
        · obtain ⟨w1, b1, e1, l1, u1, x1, y1, _⟩ := Codes_Next_ex (hc.at h2 h3) 9000 (by omega)
          obtain ⟨w2, b2, e2, l2, u2, x2, y2, _⟩ := Codes_Next_ex (hc.at l1 u1) 9000 (by omega)
          have y1 := y1 (by omega)
          have y2 := y2 (by omega)
          rw [get_t (by simpa using c1), get_t (dix (by omega)), get_bind e1, get_t (dix (by omega)), get_bind e2, get_t (dix (by omega)), get_t (dix (by omega))]
          refine ⟨_, rfl, ⟨k + 1, rfl, hi, l2, u2, h4, h5, fun q => ?_⟩, by dsimp only; omega⟩
          obtain ⟨q1, q2⟩ := h6 q
          have qk := q2 k (Nat.le_refl _) hi
          refine ⟨fun j hj => ?_, fun j j1 j2 => ?_⟩
          · show _ ≤ cond _ _ _ ∧ cond _ _ _ ≤ _ ∧ _ ≤ cond _ _ _ ∧ cond _ _ _ ≤ _
            by_cases c : j = k
            · rw [beq_t c, wr_ok (x := L.f k - w1) (by omega) (by omega), wr_ok (x := H.f k + w2) (by omega) (by omega)]
              dsimp only [cond]; omega
            · rw [beq_f c]; exact q1 j hj
          · show _ ≤ cond _ _ _ ∧ cond _ _ _ ≤ _ ∧ _ ≤ cond _ _ _ ∧ cond _ _ _ ≤ _
            rw [beq_f (show j ≠ k by omega)]; exact q2 j (by omega) j2
      · obtain rfl : k = a.Mine.Places.n := by omega
        rw [get_f (dge (by omega))]
        exact ⟨_, rfl, _, rfl, h2, h3, h4, h5, fun q => ⟨fun j hj => by { have hj : j < L.n := hj; have := (h6 q).1 j (by omega); dsimp only; omega }, fun j hj => by { have hj : j < H.n := hj; have := (h6 q).1 j (by omega); dsimp only; omega }⟩⟩)
    (c.at_, p, 0, p) ⟨0, rfl, Nat.zero_le _, hc.a0, hc.a1, hp, hp, fun q => ⟨fun j hj => by have := q j (by omega); dsimp only; omega, fun j _ hj => by have := q j (by omega); dsimp only; omega⟩⟩
  obtain ⟨z, hz, y, rfl, r⟩ := key
  exact ⟨y, by rw [law11_bounds_l5_eq]; exact hz, r⟩
theorem bounds_tail {c : SCodes} (hc : CdOK c) {L H : Sq Int} {n : Nat} (ln : L.n = n) (hn : H.n = n) (n0 : 1 ≤ n) (n1 : n ≤ 64) :
    ∃ b i, (DT.bind (Codes_One c (3 : Int)) fun z3 =>
 .ite z3.1 (
 .bind (Codes_Next (SCodes.mk c.l_ z3.2) ((L.n : Nat) : Int)) fun z4 =>
 .ite (decide ((0 : Int) ≤ z4.1 ∧ z4.1 < ((L.n : Nat) : Int))) (
 .bind (Codes_Range (SCodes.mk c.l_ z4.2) (-2 : Int) (2 : Int)) fun z5 =>
 .ite (decide ((0 : Int) ≤ z4.1 ∧ z4.1 < ((L.n : Nat) : Int))) (
 .ite (decide ((0 : Int) ≤ z4.1 ∧ z4.1 < ((H.n : Nat) : Int))) (
 .bind (Codes_Range (SCodes.mk c.l_ z5.2) (-2 : Int) (2 : Int)) fun z6 =>
 .ite (decide ((0 : Int) ≤ z4.1 ∧ z4.1 < ((H.n : Nat) : Int))) (.leaf ((SBounds.mk (Sq.mk L.n (fun k2 => (cond (Nat.beq k2 (Int.toNat z4.1)) (wr ((L.f (Int.toNat z4.1)) + z5.1)) (L.f k2)))) (Sq.mk H.n (fun k3 => (cond (Nat.beq k3 (Int.toNat z4.1)) (wr ((H.f (Int.toNat z4.1)) + z6.1)) (H.f k3))))), z6.2)) (.fail)) (
 .fail)) (
 .fail)) (
 .fail)) (
 .leaf ((SBounds.mk L H), z3.2)) : DT (SBounds × Int)).get = some (b, i) ∧ 0 ≤ i ∧ i ≤ 300 ∧ b.Low.n = n ∧ b.High.n = n ∧ (Sm L 50000000000000 → Sm H 50000000000000 → Sm b.Low 50000000000002 ∧ Sm b.High 50000000000002) := by
  obtain ⟨t1, i1, e1, u1, v1⟩ := Codes_One_ex hc 3 (by omega)
  rw [get_bind e1]
  dsimp only
  cases t1 with
  | true =>
    obtain ⟨k, i2, e2, u2, v2, p2, q2, _⟩ := Codes_Next_ex (hc.at u1 v1) ((L.n : Nat) : Int) (by omega)
    have q2 := q2 (by omega)
    obtain ⟨w3, i3, e3, u3, v3, p3, q3⟩ := Codes_Range_ex (hc.at u2 v2) (-2) 2 (by omega) (by omega) (by omega)
    obtain ⟨w4, i4, e4, u4, v4, p4, q4⟩ := Codes_Range_ex (hc.at u3 v3) (-2) 2 (by omega) (by omega) (by omega)
    rw [get_t rfl, get_bind e2]
    dsimp only
    rw [get_t (decide_eq_true ⟨p2, q2⟩), get_bind e3]
    dsimp only
    rw [get_t (decide_eq_true ⟨p2, q2⟩), get_t (decide_eq_true ⟨p2, by omega⟩), get_bind e4]
    dsimp only
    rw [get_t (decide_eq_true ⟨p2, by omega⟩)]
    refine ⟨_, _, rfl, u4, v4, ln, hn, fun sL sH => ?_⟩
    have a1 := sL k.toNat (by omega)
    have a2 := sH k.toNat (by omega)
    have b1 : wr (L.f k.toNat + w3) = L.f k.toNat + w3 := wr_ok (by omega) (by omega)
    have b2 : wr (H.f k.toNat + w4) = H.f k.toNat + w4 := wr_ok (by omega) (by omega)
    exact ⟨(sL.le (by omega)).set _ (by omega) (by omega), (sH.le (by omega)).set _ (by omega) (by omega)⟩
  | false =>
    rw [get_f rfl]
    exact ⟨_, _, rfl, u1, v1, ln, hn, fun sL sH => ⟨sL.le (by omega), sH.le (by omega)⟩⟩
theorem bounds_ex {c : SCodes} (hc : CdOK c) {a : SAir} {s : SSetting} {x : SState} (rt : rightB a s = true) (n0 : 1 ≤ a.Mine.Places.n) (xn : x.Pressures.n = a.Mine.Places.n) :
    ∃ b i, law11_bounds c a s x = some (b, i) ∧ 0 ≤ i ∧ i ≤ 300 ∧ b.Low.n = a.Mine.Places.n ∧ b.High.n = a.Mine.Places.n ∧
      (Sm x.Pressures 4000 → ((solveV a s).2 = 0 → Sm (solveV a s).1.Low 50000000000000 ∧ Sm (solveV a s).1.High 50000000000000) → Sm b.Low 50000000000002 ∧ Sm b.High 50000000000002) := by
  have ok := right_ok rt
  have np := ok.m.np
  obtain ⟨b, o, eb, hb⟩ := Solved_ex rt
  rw [law11_bounds_eq]; unfold law11_bounds_t
  rw [get_bind eb]
  dsimp only
  cases o with
  | false =>
    rw [get_t (b := !false) rfl]
    rw [get_t (decide_eq_true ⟨by omega, by omega⟩), get_t (decide_eq_true ⟨by omega, by omega⟩)]
    obtain ⟨y, ey, y0, y1, yl, yh, ys⟩ := bounds_l5_ex (hc.at hc.a0 hc.a1) (a := a) xn (by omega)
    rw [get_sum ey]
    obtain ⟨b2, i2, e2, u2, v2, w2, x2, z2⟩ := bounds_tail (hc.at y0 y1) yl yh n0 (by omega)
    exact ⟨b2, i2, e2, u2, v2, w2, x2, fun q _ => z2 ((ys q).1.le (by omega)) ((ys q).2.le (by omega))⟩
  | true =>
    obtain ⟨rfl, z, ho⟩ := hb rfl
    have hl := ho.l.n
    have hh := ho.h.n
    rw [get_f (b := !true) rfl]
    obtain ⟨t0, i0, e0, u0, v0⟩ := Codes_One_ex hc 4 (by omega)
    rw [get_bind e0]
    dsimp only
    cases t0 with
    | true =>
      rw [get_t rfl]
      rw [get_t (decide_eq_true ⟨by omega, by omega⟩), get_t (decide_eq_true ⟨by omega, by omega⟩)]
      obtain ⟨y, ey, y0, y1, yl, yh, ys⟩ := bounds_l5_ex (hc.at u0 v0) (a := a) xn (by omega)
      rw [get_sum ey]
      obtain ⟨b2, i2, e2, u2, v2, w2, x2, z2⟩ := bounds_tail (hc.at y0 y1) yl yh n0 (by omega)
      exact ⟨b2, i2, e2, u2, v2, w2, x2, fun q _ => z2 ((ys q).1.le (by omega)) ((ys q).2.le (by omega))⟩
    | false =>
      rw [get_f rfl]
      obtain ⟨b2, i2, e2, u2, v2, w2, x2, z2⟩ := bounds_tail (hc.at u0 v0) hl hh n0 (by omega)
      exact ⟨b2, i2, e2, u2, v2, w2, x2, fun _ q => z2 (q z).1 (q z).2⟩
theorem MdD.lens {a : SAir} {s : SSetting} {x : SState} (h : MdD a s x) : x.Pressures.n = a.Mine.Places.n ∧ x.Flows.n = a.Mine.Roads.n := by
  obtain ⟨sh, s0, _, _, _, hp, hq, _⟩ := h.e
  exact ⟨hp.nn, hq.qn⟩
theorem MdD.n1 {a : SAir} {s : SSetting} {x : SState} (h : MdD a s x) : 1 ≤ a.Mine.Places.n := by
  obtain ⟨sh, s0, h1, _, hP, _⟩ := h.e
  have := hP.n
  omega
end Go.Proofs.YtnoeblpanfbpjaaGreat.Ab
