/- Stage 3: a best way, step by step (for WalkWays; out of XN3h, XN3c, XN3u). -/
import Derived.Test.YtfedelfcdjldlaaDoorN3o
namespace Go.Proofs.YtfedelfcdjldlaaDoor.Ab
open Go

theorem cTo_roads (n : Nat) (to : Int) (v : Nat) : ((cTo n to).f v).roads_ = 0 := by
  unfold cTo
  dsimp only
  rw [nv_f]
  cases Nat.beq v (Int.toNat to) <;> rfl
theorem cTo_time {n : Nat} {to : Int} {v : Nat} (hv : v < n) : ((cTo n to).f v).time_ = if v = to.toNat then 0 else 1099511627776 := by
  unfold cTo
  dsimp only
  rw [nv_f, if_pos hv]
  by_cases h : v = to.toNat
  · rw [beq_t h, if_pos h]; rfl
  · rw [beq_f h, if_neg h]; rfl
theorem leftP_stab {m : SMine} (ok : MineOK m) (to : Int) : Stab (turn (stepsM m)) (leftP m to) := by
  obtain ⟨c1, c2⟩ := cTo_ok m.Places.n to
  exact spO_stable (stepsM_ok ok).turn (Ch.start fun v _ => cTo_roads _ _ v) fun v hv => by rw [cTo_roads]; exact Int.le_refl _
theorem leftP_roads {m : SMine} (ok : MineOK m) (to : Int) {v : Nat} (hv : v < m.Places.n) : ((leftP m to).f v).roads_ + 1 ≤ m.Places.n :=
  (spO_Ch (stepsM_ok ok).turn m.Places.n (Ch.start fun v _ => cTo_roads _ _ v)).roads hv
/-- No way at all, or one with a time for its roads. -/
def FinC (n : Nat) (c : Sq Scost) : Prop := ∀ v, v < n → (c.f v).time_ ≤ 1099511627776 ∧ (((c.f v).time_ = 1099511627776 ∧ (c.f v).roads_ = 0) ∨ (c.f v).time_ ≤ 1000099 * (c.f v).roads_)
theorem FinC.one {n : Nat} {l : Sq Sstep} (hl : StOK n l) (c : Sq Scost × Bool) (i : Nat) (hi : i < l.n) (h : FinC n c.1) : FinC n (spOne c (l.f i)).1 := by
  intro v hv
  obtain ⟨s1, s2, s3, s4, s5, s6⟩ := hl.h i hi
  rcases spOne_cases c (l.f i) with ⟨e, _⟩ | ⟨hless, _, hf⟩
  · rw [e]; exact h v hv
  · rw [hf]
    by_cases hk : v = (l.f i).to_.toNat
    · rw [if_pos hk]
      have h1 := h (l.f i).from_.toNat (by omega)
      have h2 := h (l.f i).to_.toNat (by omega)
      have hless := cLess_t hless
      unfold cWith at *
      dsimp only at *
      omega
    · rw [if_neg hk]; exact h v hv
theorem leftP_fin {m : SMine} (ok : MineOK m) (to : Int) : FinC m.Places.n (leftP m to) :=
  spO_inv (J := FinC m.Places.n) (fun c i hi h => h.one (stepsM_ok ok).turn c i hi) m.Places.n fun v hv => by
    rw [cTo_time hv, cTo_roads]
    split
    · exact ⟨by omega, .inr (by omega)⟩
    · exact ⟨by omega, .inl ⟨rfl, rfl⟩⟩
def walks (r : SRoad) : Bool := r.Walk && !r.Closed
def tA (m : SMine) (j : Nat) (a b : Int) : Int := pSec 6 9 12 (m.Roads.f j).Length (hg m b - hg m a)
theorem stepsP_succ (m : SMine) (i : Nat) : stepsP m (i + 1) = match walks (m.Roads.f i) with
    | true => push2 (stepsP m i) (stp m i (m.Roads.f i).From (m.Roads.f i).To) (stp m i (m.Roads.f i).To (m.Roads.f i).From)
    | false => stepsP m i := rfl
theorem push2_old {l : Sq Sstep} {s t : Sstep} {k : Nat} (h : k < l.n) : (push2 l s t).f k = l.f k := by
  unfold push2
  dsimp only
  rw [blt_t (show k < l.n + 1 by omega), blt_t h]; rfl
theorem push2_a {l : Sq Sstep} {s t : Sstep} : (push2 l s t).f l.n = s := by
  unfold push2
  dsimp only
  rw [blt_t (show l.n < l.n + 1 by omega), blt_f (Nat.le_refl _)]; rfl
theorem push2_b {l : Sq Sstep} {s t : Sstep} : (push2 l s t).f (l.n + 1) = t := by
  unfold push2
  dsimp only
  rw [blt_f (Nat.le_refl _)]; rfl
theorem steps_in (m : SMine) : ∀ i k, k < (stepsP m i).n → ∃ j, j < i ∧ walks (m.Roads.f j) = true ∧ ((stepsP m i).f k = stp m j (m.Roads.f j).From (m.Roads.f j).To ∨ (stepsP m i).f k = stp m j (m.Roads.f j).To (m.Roads.f j).From) := by
  intro i
  induction i with
  | zero => intro k hk; exact absurd hk (Nat.not_lt_zero _)
  | succ i ih =>
    intro k hk
    rw [stepsP_succ] at hk ⊢
    cases hw : walks (m.Roads.f i) with
    | false =>
      rw [hw] at hk
      obtain ⟨j, h1, h2, h3⟩ := ih k hk
      exact ⟨j, by omega, h2, h3⟩
    | true =>
      rw [hw] at hk
      have hk : k < (stepsP m i).n + 1 + 1 := hk
      dsimp only
      by_cases k1 : k < (stepsP m i).n
      · rw [push2_old k1]
        obtain ⟨j, h1, h2, h3⟩ := ih k k1
        exact ⟨j, by omega, h2, h3⟩
      · by_cases k2 : k = (stepsP m i).n
        · rw [k2, push2_a]
          exact ⟨i, by omega, hw, .inl rfl⟩
        · rw [show k = (stepsP m i).n + 1 by omega, push2_b]
          exact ⟨i, by omega, hw, .inr rfl⟩
theorem turn_f (l : Sq Sstep) {i : Nat} (hi : i < l.n) : (turn l).f i = ⟨(l.f i).road_, (l.f i).to_, (l.f i).from_, (l.f i).time_⟩ := tn_f l l.n i hi
theorem turn_n (l : Sq Sstep) : (turn l).n = l.n := tn_n l l.n
/-! ### Parents -/
def Par (n : Nat) (l : Sq Sstep) (c0 c : Sq Scost) : Prop := ∀ v, v < n → c.f v = c0.f v ∨ ∃ i, i < l.n ∧ (l.f i).to_.toNat = v ∧ cLe (cWith (c.f (l.f i).from_.toNat) (l.f i)) (c.f v)
theorem Par.one {n : Nat} {l : Sq Sstep} (hl : StOK n l) {c0 : Sq Scost} (c : Sq Scost × Bool) (i : Nat) (hi : i < l.n) (h : Par n l c0 c.1) : Par n l c0 (spOne c (l.f i)).1 := by
  intro v hv
  obtain ⟨s1, s2, s3, s4, s5, s6⟩ := hl.h i hi
  rcases spOne_cases c (l.f i) with ⟨e, _⟩ | ⟨hless, _, hf⟩
  · rw [e]; exact h v hv
  · have hless := cLess_t hless
    by_cases hk : v = (l.f i).to_.toNat
    · right
      refine ⟨i, hi, hk.symm, ?_⟩
      have hne : (l.f i).from_.toNat ≠ (l.f i).to_.toNat := fun e => by
        unfold cWith at hless
        dsimp only at hless
        rw [e] at hless
        omega
      rw [hf, hf, if_neg hne, if_pos hk]
      exact .refl _
    · have hv' : (spOne c (l.f i)).1.f v = c.1.f v := by rw [hf, if_neg hk]
      rw [hv']
      rcases h v hv with e | ⟨j, j1, j2, j3⟩
      · exact .inl e
      · refine .inr ⟨j, j1, j2, ?_⟩
        have := spOne_mono c (l.f i) (l.f j).from_.toNat
        unfold cLe cWith at *
        dsimp only at *
        omega
theorem leftP_par {m : SMine} (ok : MineOK m) (to : Int) : Par m.Places.n (turn (stepsM m)) (cTo m.Places.n to) (leftP m to) :=
  spO_inv (J := Par m.Places.n (turn (stepsM m)) (cTo m.Places.n to)) (fun c i hi h => h.one (stepsM_ok ok).turn c i hi) m.Places.n fun _ _ => .inl rfl
/-- Where a road is still to be walked, one is found. -/
theorem next_ok {m : SMine} (ok : MineOK m) {to : Int} {p : Int} (p0 : 0 ≤ p) (p1 : p < m.Places.n) (hr : 1 ≤ ((leftP m to).f p.toNat).roads_) :
    ∃ j, j < m.Roads.n ∧ walks (m.Roads.f j) = true ∧ ((p = (m.Roads.f j).From ∧ nextP (leftP m to) p (stepsM m) = stp m j (m.Roads.f j).From (m.Roads.f j).To) ∨ (p = (m.Roads.f j).To ∧ nextP (leftP m to) p (stepsM m) = stp m j (m.Roads.f j).To (m.Roads.f j).From)) ∧
      ((leftP m to).f p.toNat).time_ = ((leftP m to).f (nextP (leftP m to) p (stepsM m)).to_.toNat).time_ + (nextP (leftP m to) p (stepsM m)).time_ ∧ ((leftP m to).f p.toNat).roads_ = ((leftP m to).f (nextP (leftP m to) p (stepsM m)).to_.toNat).roads_ + 1 := by
  have hst := stepsM_ok ok
  have found : ∃ i, i < (stepsM m).n ∧ (nG (leftP m to) p (stepsM m) i).isSome = true := by
    rcases leftP_par ok to p.toNat (by omega) with e | ⟨i, i1, i2, i3⟩
    · rw [e, cTo_roads] at hr; omega
    · rw [turn_n] at i1
      have hs := leftP_stab ok to i (by rw [turn_n]; exact i1)
      rw [turn_f _ i1] at i2 i3 hs
      obtain ⟨s1, s2, s3, s4, s5, s6⟩ := hst.h i i1
      dsimp only at i2 i3 hs
      rw [i2] at hs
      have e := hs.anti i3
      refine ⟨i, i1, ?_⟩
      unfold nG
      have e1 : ((stepsM m).f i).from_ = p := by omega
      rw [if_pos ⟨e1, by rw [e]; rfl, by rw [e]; rfl⟩]; rfl
  obtain ⟨i, i1, i2⟩ := found
  cases hfn : firstN (nG (leftP m to) p (stepsM m)) (stepsM m).n 0 with
  | none =>
    exfalso
    have : ∀ k j, firstN (nG (leftP m to) p (stepsM m)) k j = none → ∀ x, j ≤ x → x < j + k → nG (leftP m to) p (stepsM m) x = none := by
      intro k
      induction k with
      | zero => intro j _ x h1 h2; omega
      | succ k ih =>
        intro j h x h1 h2
        unfold firstN at h
        cases hg : nG (leftP m to) p (stepsM m) j with
        | some z => rw [hg] at h; cases h
        | none =>
          rw [hg] at h
          by_cases hx : x = j
          · rw [hx]; exact hg
          · exact ih (j + 1) h x (by omega) (by omega)
    rw [this _ 0 hfn i (Nat.zero_le _) (by omega)] at i2
    cases i2
  | some y =>
    obtain ⟨k, _, hk, e⟩ := firstN_mem hfn
    have hk : k < (stepsM m).n := by omega
    unfold nG at e
    split at e
    · rename_i hc
      injection e with e
      have hnx : nextP (leftP m to) p (stepsM m) = (stepsM m).f k := by
        unfold nextP
        rw [hfn, ← e]
      rw [hnx]
      obtain ⟨j, j1, j2, j3⟩ := steps_in m m.Roads.n k hk
      refine ⟨j, j1, j2, ?_, hc.2.1.symm, hc.2.2.symm⟩
      rcases j3 with q | q
      · left
        have q : (stepsM m).f k = stp m j (m.Roads.f j).From (m.Roads.f j).To := q
        refine ⟨?_, q⟩
        rw [← hc.1, q]; rfl
      · right
        have q : (stepsM m).f k = stp m j (m.Roads.f j).To (m.Roads.f j).From := q
        refine ⟨?_, q⟩
        rw [← hc.1, q]; rfl
    · cases e
/-- Along the way less and less is left. -/
theorem follow_ok {m : SMine} (ok : MineOK m) {to p : Int} (p0 : 0 ≤ p) (p1 : p < m.Places.n) : ∀ i : Nat, (i : Int) ≤ ((leftP m to).f p.toNat).roads_ → ((leftP m to).f (followP (leftP m to) (stepsM m) p i).1.toNat).roads_ = ((leftP m to).f p.toNat).roads_ - i := by
  intro i
  induction i with
  | zero => intro _; show ((leftP m to).f p.toNat).roads_ = _; omega
  | succ i ih =>
    intro hi
    have ih := ih (by omega)
    obtain ⟨f1, f2, f3⟩ := followP_ok (left := leftP m to) (stepsM_ok ok) p0 p1 i
    obtain ⟨j, _, _, _, _, h⟩ := next_ok ok (to := to) f1 f2 (by omega)
    show ((leftP m to).f (nextP (leftP m to) (followP (leftP m to) (stepsM m) p i).1 (stepsM m)).to_.toNat).roads_ = _
    omega
theorem followP_f {left : Sq Scost} {l : Sq Sstep} {n : Nat} (hl : StOK n l) {p : Int} (p0 : 0 ≤ p) (p1 : p < n) : ∀ (R i : Nat), i < R → (followP left l p R).2.f i = (nextP left (followP left l p i).1 l).road_ := by
  intro R
  induction R with
  | zero => intro i hi; omega
  | succ R ih =>
    intro i hi
    have hn := (followP_ok (left := left) hl p0 p1 R).2.2
    show cond (Nat.blt i (followP left l p R).2.n) ((followP left l p R).2.f i) (nextP left (followP left l p R).1 l).road_ = _
    rw [hn]
    by_cases h : i < R
    · rw [blt_t h]; exact ih i h
    · rw [blt_f (by omega), show i = R by omega]; rfl
theorem follow_end {m : SMine} (ok : MineOK m) {to p : Int} (t0 : 0 ≤ to) (p0 : 0 ≤ p) (p1 : p < m.Places.n) (hfin : ((leftP m to).f p.toNat).time_ < 1099511627776) : ∀ R : Nat, (R : Int) = ((leftP m to).f p.toNat).roads_ →
    ((leftP m to).f (followP (leftP m to) (stepsM m) p R).1.toNat).time_ ≤ ((leftP m to).f p.toNat).time_ → (followP (leftP m to) (stepsM m) p R).1 = to ∧ ((leftP m to).f (followP (leftP m to) (stepsM m) p R).1.toNat).time_ = 0 := by
  intro R hR hle
  have h1 := follow_ok ok (to := to) p0 p1 R (by omega)
  obtain ⟨f1, f2, _⟩ := followP_ok (left := leftP m to) (stepsM_ok ok) p0 p1 R
  generalize (followP (leftP m to) (stepsM m) p R).1 = x at h1 f1 f2 hle ⊢
  rcases leftP_par ok to x.toNat (by omega) with e | ⟨i, i1, i2, i3⟩
  · rw [e, cTo_time (by omega)] at hle ⊢
    by_cases hx : x.toNat = to.toNat
    · rw [if_pos hx]
      exact ⟨by omega, rfl⟩
    · rw [if_neg hx] at hle
      omega
  · exfalso
    rw [turn_n] at i1
    have hs := leftP_stab ok to i (by rw [turn_n]; exact i1)
    rw [turn_f _ i1] at i2 i3 hs
    dsimp only at i2 i3 hs
    rw [i2] at hs
    have e := hs.anti i3
    obtain ⟨s1, s2, s3, s4, s5, s6⟩ := (stepsM_ok ok).h i i1
    obtain ⟨l1, l2⟩ := leftP_ok ok to
    have h2 := l2.h ((stepsM m).f i).to_.toNat (by omega)
    rw [e] at h1
    unfold cWith at h1
    dsimp only at h1
    omega

theorem wayP_ok {m : SMine} (ok : MineOK m) {p q : Int} (p0 : 0 ≤ p) (p1 : p < m.Places.n) (h : (wayP m p q).2.2 = true) : (wayP m p q).2.1 = ((leftP m q).f p.toNat).time_ ∧ 0 ≤ (wayP m p q).2.1 ∧ (wayP m p q).2.1 ≤ 63006237 := by
  unfold wayP at h ⊢
  by_cases c : ((leftP m q).f p.toNat).time_ = 1099511627776 ∧ ((leftP m q).f p.toNat).roads_ = 0
  · rw [if_pos c] at h; cases h
  · rw [if_neg c]
    obtain ⟨l1, l2⟩ := leftP_ok ok q
    have h1 := leftP_fin ok q p.toNat (by omega)
    have h2 := leftP_roads ok q (v := p.toNat) (by omega)
    have h3 := l2.h p.toNat (by omega)
    have np := ok.np
    refine ⟨rfl, h3.1, ?_⟩
    dsimp only
    rcases h1.2 with e | e
    · exact absurd e c
    · omega
end Go.Proofs.YtfedelfcdjldlaaDoor.Ab
