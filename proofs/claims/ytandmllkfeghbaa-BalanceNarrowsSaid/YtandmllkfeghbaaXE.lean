/- Stage 10: the sanity check; pressures around those of a state. -/
import Derived.Test.YtandmllkfeghbaaXD
import Derived.Test.YtandmllkfeghbaaXl
namespace Go.Proofs.Ytandmllkfeghbaa.Ab
open Go

/-! ### The sanity check: a road of resistance 1 with a lift -/
def S0 : SSetting := ⟨⟨0, fun _ => 0⟩, ⟨0, fun _ => 0⟩⟩
def F0 : Sq SFan := ⟨0, fun _ => ⟨0, false, false, ⟨0, fun _ => ⟨0, 0⟩⟩⟩⟩
def D0 : Sq SDoor := ⟨0, fun _ => ⟨0, 0, ⟨0, fun _ => 0⟩⟩⟩
def A0 : SAir := ⟨⟨⟨2, fun k => ⟨cond (Nat.beq k 0) 0 0, cond (Nat.beq k 0) true false⟩⟩, ⟨1, fun _ => ⟨1, 0, 1, 1, false, false, ⟨1, 1⟩, ⟨-100, -100⟩⟩⟩⟩, F0, D0⟩
def P0 : Sq Int := ⟨2, fun k => cond (Nat.beq k 0) 0 0⟩
theorem P0_v (k : Nat) : P0.f k = 0 := by
  show cond (Nat.beq k 0) (0 : Int) 0 = 0
  cases Nat.beq k 0 <;> rfl
theorem A0_mine : MineOK A0.Mine := by
  refine ⟨by show 2 ≤ 64; omega, by show 1 ≤ 128; omega, fun i _ => ?_, fun i _ => ?_⟩
  · show -10000 ≤ cond (Nat.beq i 0) (0 : Int) 0 ∧ cond (Nat.beq i 0) (0 : Int) 0 ≤ 10000
    cases Nat.beq i 0 <;> exact ⟨by decide, by decide⟩
  · show roadE ⟨1, 0, 1, 1, false, false, ⟨1, 1⟩, ⟨-100, -100⟩⟩ ((2 : Nat) : Int) = 0
    decide
theorem A0_right : rightB A0 S0 = true := by
  unfold rightB
  rw [if_pos]
  refine ⟨?_, rfl, rfl, rfl, rfl⟩
  unfold airE
  rw [(mineE_ok _).2 A0_mine, if_neg (by omega)]
  have e1 : fansE A0.Fans A0.Mine.Roads.n = 0 := rfl
  have e2 : doorsE A0.Doors = 0 := rfl
  have e3 : doorsE2 A0.Doors A0.Mine.Roads.n = 0 := by
    unfold doorsE2
    rw [e2, if_neg (by omega)]; rfl
  rw [e1, if_neg (by omega), e3]
theorem P0_ok : PrsOK A0 P0 := ⟨rfl, fun k _ => by rw [P0_v]; omega⟩
theorem A0_drop (x : Int) : dropP A0 S0 0 x = ((sqS 1 1 x).1 - (-100), (sqS 1 1 x).2 - (-100)) := rfl
theorem A0_N (p : Int) : NL A0 S0 P0 1 p = flL A0 S0 0 p ∧ NH A0 S0 P0 1 p = flH A0 S0 0 p := by
  have e1 : NL A0 S0 P0 1 p = 0 + flL A0 S0 0 (p - P0.f 0) := rfl
  have e2 : NH A0 S0 P0 1 p = 0 + flH A0 S0 0 (p - P0.f 0) := rfl
  rw [e1, e2, P0_v, Int.sub_zero, Int.zero_add, Int.zero_add]
  exact ⟨rfl, rfl⟩
theorem A0_net : NL A0 S0 P0 1 0 = -10 ∧ NH A0 S0 P0 1 0 = -10 := by
  have ok := right_ok A0_right
  have hi : 0 < A0.Mine.Roads.n := by decide
  rw [(A0_N 0).1, (A0_N 0).2]
  have v1 : dropP A0 S0 0 (-10) = (0, 0) := by rw [A0_drop]; decide
  have v2 : (dropP A0 S0 0 (-9)).2 = 19 := by rw [A0_drop]; decide
  have lt := fun {x y : Int} (hx : -1048577 ≤ x) (h : x < y) (hy : y ≤ 1048577) => dropP_lt ok hi hx h hy
  have c1 : Cut (fun x => (dropP A0 S0 0 x).2 > 0) (-9) := ⟨by omega, by omega, fun x h0 h1 => by
      rcases Int.lt_or_le x (-10) with c | c
      · have := (lt (x := x) (y := -10) (by omega) c (by omega)).2; rw [v1] at this; dsimp only at this; omega
      · obtain rfl : x = -10 := by omega
        rw [v1]; exact Int.lt_irrefl _, fun x h0 h1 => by
      rcases Int.lt_or_le (-9) x with c | c
      · have := (lt (x := -9) (y := x) (by omega) c (by omega)).2; omega
      · obtain rfl : x = -9 := by omega
        omega⟩
  have c2 : Cut (fun x => (dropP A0 S0 0 x).1 ≥ 0) (-10) := ⟨by omega, by omega, fun x h0 h1 => by
      have := (lt (x := x) (y := -10) (by omega) h1 (by omega)).1; rw [v1] at this; dsimp only at this; omega, fun x h0 h1 => by
      rcases Int.lt_or_le (-10) x with c | c
      · have := (lt (x := -10) (y := x) (by omega) c (by omega)).1; rw [v1] at this; dsimp only at this; omega
      · obtain rfl : x = -10 := by omega
        rw [v1]; exact Int.le_refl _⟩
  have e1 := (flL_c ok hi 0).2.eq c1
  have e2 := (flH_c ok hi 0).2.eq c2
  omega
theorem A0_least : LeastC (NL A0 S0 P0 1) 0 (100, true) := by
  have ok := right_ok A0_right
  have hi : 0 < A0.Mine.Roads.n := by decide
  have v : (dropP A0 S0 0 0).2 = 100 := by rw [A0_drop]; decide
  refine .inl ⟨rfl, by dsimp only; omega, by dsimp only; omega, ?_, fun x h0 h1 => ?_⟩
  · dsimp only
    rw [(A0_N 100).1]
    rcases Int.lt_or_le (flL A0 S0 0 100) 0 with c | c
    · have := (flL_c ok hi 100).2.t 0 (by omega) (by omega)
      omega
    · exact c
  · dsimp only at h1
    rw [(A0_N x).1]
    rcases Int.lt_or_le (flL A0 S0 0 x) 0 with c | c
    · exact c
    · have := (flL_c ok hi x).2.f 0 (by omega) (by omega)
      omega
theorem A0_proper : balance_proper_v2 A0 P0 1 = some true := by
  have e0 : branch_Right_v2 A0 = some true := by
    rw [branch_Right_v2_eq]; unfold branch_Right_v2_t
    rw [get_bind (branch_Check_v A0), rightB_air A0_right, get_t (show ((0 : Int) == 0) = true from rfl)]
    have e : branch_belongs_v2 A0 = some true := by
      rw [branch_belongs_v2_eq]; unfold branch_belongs_v2_t
      have l1 : branch_belongs_v2_l4 A0.Mine.Places A0.Mine.Roads A0.Fans A0.Doors = some (.inl ()) := by rw [branch_belongs_v2_l4_eq]; exact fixO_get (x := .l ()) rfl
      have l2 : branch_belongs_v2_l10 A0.Mine.Places A0.Mine.Roads A0.Fans A0.Doors = some (.inl ()) := by rw [branch_belongs_v2_l10_eq]; exact fixO_get (x := .l ()) rfl
      rw [get_f (show ((0 : Int) != ((A0.Fans.n : Nat) : Int)) = false from rfl), get_f (show ((0 : Int) != ((A0.Doors.n : Nat) : Int)) = false from rfl), get_sum l1]
      dsimp only [Sum.elim]
      rw [get_sum l2]; rfl
    rw [get_bind e]; rfl
  rcases proper_v A0 S0 P0 1 with ⟨_, e, _⟩ | ⟨n, _⟩
  · rw [← e, balance_proper_v2_eq, balance_proper_eq]; unfold balance_proper_v2_t balance_proper_t
    have l4 : balance_proper_v2_l4 P0 0 = balance_proper_l4 P0 0 := by rw [balance_proper_v2_l4_eq, balance_proper_l4_eq]; rfl
    rw [get_bind e0, get_bind (branch_Right_v A0 S0), A0_right, l4]
  · exact absurd ⟨A0_right, P0_ok, by omega, by decide⟩ n
theorem A0_junction : ∃ l R, balance_junctionOf_v2 A0 P0 1 = some (A0.Mine.Places, R, P0, 1) ∧ JnOf A0 S0 P0 1 l ⟨⟨⟨A0.Mine.Places, R⟩, F0, D0⟩, S0, P0, 1⟩ := by
  have ok := right_ok A0_right
  obtain ⟨l, el, hl⟩ := plan_Roads_ex (m := A0.Mine) ok.m.nr 1
  obtain ⟨R, eR, nR, hR⟩ := jn_roads (s := S0) (P := P0) hl rfl ok.m.nr ⟨0, fun _ => ⟨0, 0, 0, 0, false, false, ⟨0, 0⟩, ⟨0, 0⟩⟩⟩ rfl
  have l5 : ∀ R0, balance_junctionOf_v2_l5 A0.Mine.Places A0.Mine.Roads A0.Fans A0.Doors P0 1 l R0 0 = balance_junctionOf_l5 A0.Mine.Places A0.Mine.Roads A0.Fans A0.Doors S0.Fans S0.Doors P0 1 l R0 0 := fun R0 => by rw [balance_junctionOf_v2_l5_eq, balance_junctionOf_l5_eq]; rfl
  have l10 : balance_junctionOf_v2_l10 A0.Fans A0.Mine.Places A0.Mine.Roads A0.Doors R P0 1 l 0 = some (.inl ()) := by
    rw [balance_junctionOf_v2_l10_eq]
    refine fixO_get (x := .l ()) ?_
    unfold balance_junctionOf_v2_l10_step
    rw [get_f (show decide ((0 : Int) < ((A0.Fans.n : Nat) : Int)) = false from rfl)]; rfl
  have l18 : balance_junctionOf_v2_l18 A0.Doors R A0.Mine.Places P0 1 l 0 = some (.inl ()) := by
    rw [balance_junctionOf_v2_l18_eq]
    refine fixO_get (x := .l ()) ?_
    unfold balance_junctionOf_v2_l18_step
    rw [get_f (show decide ((0 : Int) < ((A0.Doors.n : Nat) : Int)) = false from rfl)]; rfl
  have hF : JF A0 S0 l A0.Fans.n F0 S0.Fans := ⟨Nat.le_refl _, rfl, fun k hk => absurd hk (Nat.not_lt_zero _), fun j _ x b => rfl⟩
  have hD : JD A0 S0 l A0.Doors.n D0 S0.Doors := ⟨Nat.le_refl _, rfl, fun k hk => absurd hk (Nat.not_lt_zero _), fun j _ b => rfl⟩
  refine ⟨l, R, ?_, rfl, rfl, rfl, jn_right ok hl nR hR hF hD, hl, nR, hR, fun j hj x => jn_drop hl hR hF hD hj x⟩
  rw [balance_junctionOf_v2_eq]; unfold balance_junctionOf_v2_t
  rw [get_bind el, l5, get_sum eR]
  dsimp only [Sum.elim]
  rw [get_sum l10]
  dsimp only [Sum.elim]
  rw [get_sum l18]; rfl
theorem awake_true : law10_awake = some true := by
  have ok := right_ok A0_right
  obtain ⟨l, R, eJ, hJ⟩ := A0_junction
  have eN : balance_Net_v2 A0 P0 1 = some ⟨-10, -10⟩ := by
    have key := net_l3_v hJ ok P0_ok (p := 0) (by omega) (by omega)
    rw [A0_net.1, A0_net.2] at key
    have k2 : balance_junction_net_v2_l3 0 A0.Mine.Places P0 1 R F0 D0 S0.Fans 0 0 0 = some (.inl (-10, -10)) := by
      rw [← key, balance_junction_net_v2_l3_eq, balance_junction_net_l3_eq]; rfl
    have k3 : ∃ z, balance_junction_net_v2 A0.Mine.Places R P0 1 0 = some z ∧ z.1 = ⟨-10, -10⟩ := by
      rw [balance_junction_net_v2_eq]; unfold balance_junction_net_v2_t
      exact ⟨_, (get_sum k2).trans rfl, rfl⟩
    obtain ⟨z, ez, hz⟩ := k3
    rw [balance_Net_v2_eq]; unfold balance_Net_v2_t
    rw [get_bind A0_proper, get_f (b := !true) rfl, get_bind eJ, get_t (by decide), P0_v, get_bind ez, hz]; rfl
  have eL : balance_Least A0 P0 1 = some (100, true) := by
    obtain ⟨z, ez, z0, z1, z2, z3⟩ := Search_v3_ex hJ ok P0_ok (own := 0) (by omega) (by omega)
    have c : LeastC (NL A0 S0 P0 1) 0 (if z > 70368744177664 then (0, false) else (0 + z, true)) := by
      split
      · refine .inr ⟨rfl, fun x a1 a2 => ?_⟩
        have := z2 x a1 (by omega)
        rw [Int.zero_add] at this
        omega
      · refine .inl ⟨rfl, by dsimp only; omega, by dsimp only; omega, z3 (by omega), fun x a1 a2 => ?_⟩
        have := z2 x a1 (by dsimp only at a2; omega)
        rw [Int.zero_add] at this
        omega
    have e := c.eq A0_least
    have key : balance_nearest A0 P0 1 1 = some (100, true) := by
      rw [balance_nearest_eq]; unfold balance_nearest_t
      rw [get_bind A0_proper, get_f (b := !true) rfl, get_bind eJ, get_t (by decide), P0_v, show wr ((70368744177664 : Int) - wr (1 * 0)) = 70368744177664 by decide, show wr ((70368744177664 : Int) + 1) = 70368744177664 - 0 + 1 by decide]
      refine (get_bind ez).trans ?_
      by_cases d : z > 70368744177664
      · rw [if_pos d] at e; cases e
      · rw [if_neg d] at e
        rw [get_f (decide_eq_false d), wr_ok (x := z * 1) (by omega) (by omega), wr_ok (by omega) (by omega), ← e, Int.mul_one]; rfl
    rw [balance_Least_eq]; unfold balance_Least_t
    rw [get_bind key]; rfl
  rw [law10_awake_eq]; unfold law10_awake_t
  exact (get_bind eL).trans ((get_bind eN).trans rfl)
/-! ### Pressures around those of a state -/
theorem around_ex {c : SCodes} (hc : CdOK c) {a : SAir} {x : SState} (hn : x.Pressures.n = a.Mine.Places.n) (np : a.Mine.Places.n ≤ 64) (hp : ∀ k, k < x.Pressures.n → -4000 ≤ x.Pressures.f k ∧ x.Pressures.f k ≤ 4000) :
    ∃ l b, law10_around c a x = some (l, b) ∧ 0 ≤ b ∧ b ≤ 300 ∧ l.n = a.Mine.Places.n ∧ ∀ k, k < l.n → -7000 ≤ l.f k ∧ l.f k ≤ 7000 := by
  have key := loop_ex (step := fun v : Int × Sq Int × Int => law10_around_l3_step c.l_ a.Mine.Places a.Mine.Roads a.Fans a.Doors v.1 v.2.1 v.2.2)
    (fun v => ∃ i : Nat, v.2.2 = i ∧ i ≤ a.Mine.Places.n ∧ 0 ≤ v.1 ∧ v.1 ≤ 300 ∧ v.2.1.n = a.Mine.Places.n ∧ (∀ k, k < v.2.1.n → -7000 ≤ v.2.1.f k ∧ v.2.1.f k ≤ 7000) ∧ ∀ k, i ≤ k → k < v.2.1.n → -4000 ≤ v.2.1.f k ∧ v.2.1.f k ≤ 4000) (fun v => a.Mine.Places.n - v.2.2.toNat)
    (fun z => ∃ y, z = .inl y ∧ 0 ≤ y.1 ∧ y.1 ≤ 300 ∧ y.2.n = a.Mine.Places.n ∧ ∀ k, k < y.2.n → -7000 ≤ y.2.f k ∧ y.2.f k ≤ 7000) (fun v hv => by
      obtain ⟨b, l, i'⟩ := v
      obtain ⟨i, rfl, hi, h1, h2, h3, h4, h5⟩ := hv
      dsimp only at h1 h2 h3 h4 h5 ⊢
      unfold law10_around_l3_step
      by_cases q : i < l.n
      · have set : ∀ v : Int, -3000 ≤ v → v ≤ 3000 → (∀ k, k < l.n → -7000 ≤ cond (Nat.beq k i) (wr (l.f i + v)) (l.f k) ∧ cond (Nat.beq k i) (wr (l.f i + v)) (l.f k) ≤ 7000) ∧ ∀ k, i + 1 ≤ k → k < l.n → -4000 ≤ cond (Nat.beq k i) (wr (l.f i + v)) (l.f k) ∧ cond (Nat.beq k i) (wr (l.f i + v)) (l.f k) ≤ 4000 := fun v v0 v1 => by
          have g := h5 i (Nat.le_refl _) q
          rw [wr_ok (by omega) (by omega)]
          refine ⟨fun k hk => ?_, fun k hk hk2 => ?_⟩
          · by_cases d : k = i
            · rw [beq_t d]; dsimp only [cond]; omega
            · rw [beq_f d]; exact h4 k hk
          · rw [beq_f (by omega)]; exact h5 k (by omega) hk2
        rw [get_t (dlt q), get_t (dix (by omega)), toNat_nat, wr_next (by omega)]
        have hc0 := hc.at h1 h2
        by_cases su : (a.Mine.Places.f i).Surface = true
        · rw [get_f (by rw [su]; rfl)]
          obtain ⟨o, b1, e1, l1, u1⟩ := Codes_One_ex hc0 9 (by omega)
          rw [get_bind e1]
          dsimp only
          cases o with
          | true =>
            obtain ⟨w, b2, e2, l2, u2, w0, w1⟩ := Codes_Range_ex (hc.at l1 u1) (-3000) 3000 (by omega) (by omega) (by omega)
            rw [get_t rfl, get_t (dix q), get_bind e2, get_t (dix q)]
            have g := set w w0 w1
            exact ⟨_, rfl, ⟨i + 1, rfl, by omega, l2, u2, h3, g.1, g.2⟩, by dsimp only; omega⟩
          | false =>
            rw [get_f rfl]
            exact ⟨_, rfl, ⟨i + 1, rfl, by omega, l1, u1, h3, h4, fun k hk => h5 k (by omega)⟩, by dsimp only; omega⟩
        · obtain ⟨w, b2, e2, l2, u2, w0, w1⟩ := Codes_Range_ex hc0 (-3000) 3000 (by omega) (by omega) (by omega)
          rw [get_t (by simpa using su), get_t (dix q), get_bind e2, get_t (dix q)]
          have g := set w w0 w1
          exact ⟨_, rfl, ⟨i + 1, rfl, by omega, l2, u2, h3, g.1, g.2⟩, by dsimp only; omega⟩
      · rw [get_f (dge (by omega))]
        exact ⟨_, rfl, _, rfl, h1, h2, h3, h4⟩)
    (c.at_, x.Pressures, 0) ⟨0, rfl, by omega, hc.a0, hc.a1, hn, fun k hk => by have := hp k hk; dsimp only; omega, fun k _ hk => hp k hk⟩
  obtain ⟨z, hz, y, rfl, g⟩ := key
  rw [law10_around_eq]; unfold law10_around_t
  rw [get_t (decide_eq_true ⟨by omega, by omega⟩), get_sum (by rw [law10_around_l3_eq]; exact hz)]
  exact ⟨_, _, rfl, g⟩
end Go.Proofs.Ytandmllkfeghbaa.Ab
