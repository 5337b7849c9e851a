/- Stage 3: what is left to a place; WalkThrough. -/
import Derived.Test.YtppidelikicnaaaDoorN3o
import Derived.Test.YtppidelikicnaaaDoorN3kh
import Derived.Test.YtppidelikicnaaaDoorXu
namespace Go.Proofs.YtppidelikicnaaaDoor.Ab
open Go

theorem pSec_both {len r : Int} (h : 1 ≤ len ∧ len ≤ 100000) : 1 ≤ pSec 6 9 12 len r ∧ pSec 6 9 12 len r ≤ pSec 2 3 4 len r ∧ pSec 2 3 4 len r ≤ 3 * pSec 6 9 12 len r ∧ pSec 6 9 12 len r ≤ 1000099 := by
  unfold pSec pSpd
  split
  · omega
  · split
    · omega
    · omega
theorem secP_both {m : SMine} (ok : MineOK m) (k : Int) (back : Bool) : (secP m k back 6 9 12 = -1 ∧ secP m k back 2 3 4 = -1) ∨ (1 ≤ secP m k back 6 9 12 ∧ secP m k back 6 9 12 ≤ secP m k back 2 3 4 ∧ secP m k back 2 3 4 ≤ 3 * secP m k back 6 9 12 ∧ secP m k back 6 9 12 ≤ 1000099) := by
  unfold secP
  by_cases hk : 0 ≤ k ∧ k < m.Roads.n
  · rw [if_pos hk, if_pos hk]
    have hlen := road_len ok (show k.toNat < m.Roads.n by omega)
    by_cases hw : ((m.Roads.f k.toNat).Walk && !(m.Roads.f k.toNat).Closed) = true
    · rw [if_pos hw, if_pos hw]
      cases back
      · exact .inr (pSec_both hlen)
      · exact .inr (pSec_both hlen)
    · rw [if_neg hw, if_neg hw]; exact .inl ⟨rfl, rfl⟩
  · rw [if_neg hk, if_neg hk]; exact .inl ⟨rfl, rfl⟩

/-! ### What is left -/
theorem cTo_roads (n : Nat) (to : Int) (v : Nat) : ((cTo n to).f v).roads_ = 0 := by
  unfold cTo
  dsimp only
  rw [nv_f]
  cases Nat.beq v (Int.toNat to) <;> rfl
theorem cTo_time {n : Nat} {to : Int} {v : Nat} (hv : v < n) : ((cTo n to).f v).time_ = if v = to.toNat then 0 else 1099511627776 := by
  unfold cTo
  dsimp only
  rw [nv_f, if_pos hv]
  by_cases h : v = to.toNat
  · rw [beq_t h, if_pos h]; rfl
  · rw [beq_f h, if_neg h]; rfl
theorem leftP_stab {m : SMine} (ok : MineOK m) (to : Int) : Stab (turn (stepsM m)) (leftP m to) := by
  obtain ⟨c1, c2⟩ := cTo_ok m.Places.n to
  exact spO_stable (stepsM_ok ok).turn (Ch.start fun v _ => cTo_roads _ _ v) fun v hv => by rw [cTo_roads]; exact Int.le_refl _
theorem leftP_roads {m : SMine} (ok : MineOK m) (to : Int) {v : Nat} (hv : v < m.Places.n) : ((leftP m to).f v).roads_ + 1 ≤ m.Places.n :=
  (spO_Ch (stepsM_ok ok).turn m.Places.n (Ch.start fun v _ => cTo_roads _ _ v)).roads hv
/-- No way at all, or one with a time for its roads. -/
def FinC (n : Nat) (c : Sq Scost) : Prop := ∀ v, v < n → (c.f v).time_ ≤ 1099511627776 ∧ (((c.f v).time_ = 1099511627776 ∧ (c.f v).roads_ = 0) ∨ (c.f v).time_ ≤ 1000099 * (c.f v).roads_)
theorem FinC.one {n : Nat} {l : Sq Sstep} (hl : StOK n l) (c : Sq Scost × Bool) (i : Nat) (hi : i < l.n) (h : FinC n c.1) : FinC n (spOne c (l.f i)).1 := by
  intro v hv
  obtain ⟨s1, s2, s3, s4, s5, s6⟩ := hl.h i hi
  rcases spOne_cases c (l.f i) with ⟨e, _⟩ | ⟨hless, _, hf⟩
  · rw [e]; exact h v hv
  · rw [hf]
    by_cases hk : v = (l.f i).to_.toNat
    · rw [if_pos hk]
      have h1 := h (l.f i).from_.toNat (by omega)
      have h2 := h (l.f i).to_.toNat (by omega)
      have hless := cLess_t hless
      unfold cWith at *
      dsimp only at *
      omega
    · rw [if_neg hk]; exact h v hv
theorem leftP_fin {m : SMine} (ok : MineOK m) (to : Int) : FinC m.Places.n (leftP m to) :=
  spO_inv (J := FinC m.Places.n) (fun c i hi h => h.one (stepsM_ok ok).turn c i hi) m.Places.n fun v hv => by
    rw [cTo_time hv, cTo_roads]
    split
    · exact ⟨by omega, .inr (by omega)⟩
    · exact ⟨by omega, .inl ⟨rfl, rfl⟩⟩
theorem leftP_ge {m : SMine} (ok : MineOK m) {q : Int} (φ : Nat → Int) (h0 : φ q.toNat ≤ 0) (h1 : ∀ v, v < m.Places.n → φ v ≤ 1099511627776) (hs : ∀ i, i < (turn (stepsM m)).n → φ ((turn (stepsM m)).f i).to_.toNat ≤ φ ((turn (stepsM m)).f i).from_.toNat + ((turn (stepsM m)).f i).time_) :
    ∀ v, v < m.Places.n → φ v ≤ ((leftP m q).f v).time_ :=
  spO_ge (stepsM_ok ok).turn φ (fun v hv => by
    rw [cTo_time hv]
    split
    · rename_i e; rw [e]; exact h0
    · exact h1 v hv) hs m.Places.n
theorem Stab.le {l : Sq Sstep} {c : Sq Scost} (h : Stab l c) {i : Nat} (hi : i < l.n) : (c.f (l.f i).to_.toNat).time_ ≤ (c.f (l.f i).from_.toNat).time_ + (l.f i).time_ := by
  have := h i hi
  unfold cLe cWith at this
  dsimp only at this
  omega
/-- A way through a third place is not quicker. -/
theorem left_through {m : SMine} (ok : MineOK m) {q r : Int} (q0 : 0 ≤ q) (q1 : q < m.Places.n) {v : Nat} (hv : v < m.Places.n) : ((leftP m r).f v).time_ ≤ ((leftP m q).f v).time_ + ((leftP m r).f q.toNat).time_ := by
  obtain ⟨l1, l2⟩ := leftP_ok ok r
  have hq := l2.h q.toNat (by omega)
  have := leftP_ge ok (q := q) (fun v => ((leftP m r).f v).time_ - ((leftP m r).f q.toNat).time_) (by omega) (fun v hv => by have := l2.h v (by omega); omega) (fun i hi => by have := (leftP_stab ok r).le hi; omega) v hv
  omega
theorem wayP_ok {m : SMine} (ok : MineOK m) {p q : Int} (p0 : 0 ≤ p) (p1 : p < m.Places.n) (h : (wayP m p q).2.2 = true) : (wayP m p q).2.1 = ((leftP m q).f p.toNat).time_ ∧ 0 ≤ (wayP m p q).2.1 ∧ (wayP m p q).2.1 ≤ 63006237 := by
  unfold wayP at h ⊢
  by_cases c : ((leftP m q).f p.toNat).time_ = 1099511627776 ∧ ((leftP m q).f p.toNat).roads_ = 0
  · rw [if_pos c] at h; cases h
  · rw [if_neg c]
    obtain ⟨l1, l2⟩ := leftP_ok ok q
    have h1 := leftP_fin ok q p.toNat (by omega)
    have h2 := leftP_roads ok q (v := p.toNat) (by omega)
    have h3 := l2.h p.toNat (by omega)
    have np := ok.np
    refine ⟨rfl, h3.1, ?_⟩
    dsimp only
    rcases h1.2 with e | e
    · exact absurd e c
    · omega
theorem wayP_is {m : SMine} {p q : Int} (h : ((leftP m q).f p.toNat).time_ < 1099511627776) : (wayP m p q).2.2 = true ∧ (wayP m p q).2.1 = ((leftP m q).f p.toNat).time_ := by
  unfold wayP
  rw [if_neg (by omega)]
  exact ⟨rfl, rfl⟩
theorem walkThrough_true (codes : Sq Int) (hb : ∀ k, 0 ≤ codes.f k ∧ codes.f k ≤ 255) (a b d road : Int) (back : Bool) : (law03_WalkThrough_t codes a b d road back).get = some true := by
  obtain ⟨c, e0, hc⟩ := New_ex codes hb
  obtain ⟨m, z, e1, hm⟩ := Codes_Mine_ex hc
  have ok := hm.ok
  have nr := ok.nr
  have n0 := hm.n0
  have n1 := hm.n1
  obtain ⟨p, ep, _, hp⟩ := Mod_ex a (m.Places.n : Int) (by omega)
  obtain ⟨q, eq, _, hq⟩ := Mod_ex b (m.Places.n : Int) (by omega)
  obtain ⟨r, er, _, hr⟩ := Mod_ex d (m.Places.n : Int) (by omega)
  have hp := hp (by omega)
  have hq := hq (by omega)
  have hr := hr (by omega)
  obtain ⟨v, ev, _⟩ := Mod_ex road (wr ((m.Roads.n : Int) + 1)) (by rw [wr_ok (by omega) (by omega)]; omega)
  unfold law03_WalkThrough_t
  rw [get_bind e0, get_bind e1, get_bind ep, get_bind eq, get_bind er, get_bind (walk_Way_v ok hp.1 hp.2 hq.1 hq.2), get_bind (walk_Way_v ok hq.1 hq.2 hr.1 hr.2), get_bind (walk_Way_v ok hp.1 hp.2 hr.1 hr.2)]
  have tail : (DT.bind (Mod road (wr (((m.Roads.n : Nat) : Int) + (1 : Int)))) fun z8 =>
     DT.bind (walk_Time m z8 back) fun z9 =>
     DT.bind (walk_Slow m z8 back) fun z10 =>
     DT.ite ((z9 == (-1 : Int)) == (z10 == (-1 : Int))) (
     DT.ite (z9 == (-1 : Int)) (
     DT.bind (law03_awake) fun z11 =>
     DT.leaf z11) (
     DT.ite (decide (z9 ≥ (1 : Int))) (
     DT.ite (decide (z10 ≥ z9)) (
     DT.ite (decide (z10 ≤ (wr ((3 : Int) * z9)))) (
     DT.bind (law03_awake) fun z12 =>
     DT.leaf z12) (
     DT.leaf false)) (
     DT.leaf false)) (
     DT.leaf false))) (
     DT.leaf false)).get = some true := by
    rw [get_bind ev, get_bind (walk_Time_v ok _ _), get_bind (walk_Slow_v ok _ _)]
    rcases secP_both ok v back with ⟨h1, h2⟩ | ⟨h1, h2, h3, h4⟩
    · rw [h1, h2, get_t (b := ((-1 : Int) == (-1 : Int)) == ((-1 : Int) == (-1 : Int))) rfl, get_t (b := ((-1 : Int) == (-1 : Int))) rfl, get_bind awake3_true]; rfl
    · generalize secP m v back 6 9 12 = x at *
      generalize secP m v back 2 3 4 = y at *
      have x1 : (x == (-1 : Int)) = false := by simp; omega
      have y1 : (y == (-1 : Int)) = false := by simp; omega
      rw [get_t (by rw [x1, y1]; rfl), get_f x1, get_t (decide_eq_true h1), get_t (decide_eq_true h2), wr_ok (x := 3 * x) (by omega) (by omega), get_t (decide_eq_true h3), get_bind awake3_true]; rfl
  cases h1 : (wayP m p q).2.2 with
  | false => rw [get_f rfl]; exact tail
  | true =>
    cases h2 : (wayP m q r).2.2 with
    | false => rw [get_t rfl, get_f rfl]; exact tail
    | true =>
      obtain ⟨a1, a2, a3⟩ := wayP_ok ok hp.1 hp.2 h1
      obtain ⟨b1, b2, b3⟩ := wayP_ok ok hq.1 hq.2 h2
      have ht := left_through ok (r := r) hq.1 hq.2 (v := p.toNat) (by omega)
      obtain ⟨w1, w2⟩ := wayP_is (m := m) (p := p) (q := r) (by omega)
      rw [get_t rfl, get_t rfl, get_f (by rw [w1]; rfl), wr_ok (x := (wayP m p q).2.1 + (wayP m q r).2.1) (by omega) (by omega), get_f (decide_eq_false (by omega))]
      exact tail
end Go.Proofs.YtppidelikicnaaaDoor.Ab
