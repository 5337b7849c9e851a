/- Stage 3: a way is what it says; WalkSums. -/
import Derived.Test.YtppidelikicnaaaDoorN3c
import Derived.Test.YtppidelikicnaaaDoorN3ks
namespace Go.Proofs.YtppidelikicnaaaDoor.Ab
open Go

theorem turn_f (l : Sq Sstep) {i : Nat} (hi : i < l.n) : (turn l).f i = ⟨(l.f i).road_, (l.f i).to_, (l.f i).from_, (l.f i).time_⟩ := tn_f l l.n i hi
theorem turn_n (l : Sq Sstep) : (turn l).n = l.n := tn_n l l.n
theorem left_step {m : SMine} (ok : MineOK m) (to : Int) {i : Nat} (hi : i < (stepsM m).n) : ((leftP m to).f ((stepsM m).f i).from_.toNat).time_ ≤ ((leftP m to).f ((stepsM m).f i).to_.toNat).time_ + ((stepsM m).f i).time_ := by
  have := (leftP_stab ok to).le (i := i) (by rw [turn_n]; exact hi)
  rw [turn_f _ hi] at this
  exact this
theorem leftP_le (m : SMine) (to : Int) (v : Nat) : ((leftP m to).f v).time_ ≤ ((cTo m.Places.n to).f v).time_ := by
  have := spO_mono (turn (stepsM m)) v m.Places.n (cTo m.Places.n to)
  unfold cLe at this
  unfold leftP
  omega
/-- Forth and back come to the same. -/
theorem left_least {m : SMine} (ok : MineOK m) {a b : Int} (a0 : 0 ≤ a) (a1 : a < m.Places.n) (b0 : 0 ≤ b) (b1 : b < m.Places.n) {s : Sq Int} (hn : s.n = m.Places.n) (hs : ∀ v, v < s.n → s.f v = if v = a.toNat then 0 else 1099511627776) :
    (leastP m s).f b.toNat = ((leftP m b).f a.toNat).time_ := by
  have ts : TsOK s := fun v hv => by rw [hs v hv]; split <;> omega
  have L := leastP_ok ok hn ts
  obtain ⟨l1, l2⟩ := leftP_ok ok b
  have ha := l2.h a.toNat (by omega)
  have hb := l2.h b.toNat (by omega)
  have hb0 := leftP_le m b b.toNat
  rw [cTo_time (by omega), if_pos rfl] at hb0
  have La0 := L.le a.toNat (by omega)
  rw [hs _ (by omega), if_pos rfl] at La0
  have La1 := L.ts a.toNat (by rw [L.n]; omega)
  have Lb1 := L.ts b.toNat (by rw [L.n]; omega)
  refine Int.le_antisymm ?_ ?_
  · have := leftP_ge ok (q := b) (fun v => (leastP m s).f b.toNat - (leastP m s).f v) (by omega) (fun v hv => by have := L.ts v (by rw [L.n]; omega); omega) (fun i hi => by
      have hi : i < (stepsM m).n := by rw [turn_n] at hi; exact hi
      rw [turn_f _ hi]
      have := L.cons.step i hi
      dsimp only
      omega) a.toNat (by omega)
    omega
  · have := L.ge (fun v => ((leftP m b).f a.toNat).time_ - ((leftP m b).f v).time_) (fun v hv => by
      have h1 := l2.h v (by omega)
      rw [hs v hv]
      split
      · rename_i e; rw [e]; omega
      · omega) (fun j hj hw => by
      obtain ⟨⟨x, x1, x2⟩, ⟨y, y1, y2⟩⟩ := steps_of m m.Roads.n j hj hw
      have h1 := left_step ok b (i := x) x1
      have h2 := left_step ok b (i := y) y1
      rw [show (stepsM m).f x = _ from x2] at h1
      rw [show (stepsM m).f y = _ from y2] at h2
      unfold stp at h1 h2
      unfold tA
      dsimp only at h1 h2 ⊢
      omega) b.toNat (by omega)
    omega

/-! ### Parents -/
def Par (n : Nat) (l : Sq Sstep) (c0 c : Sq Scost) : Prop := ∀ v, v < n → c.f v = c0.f v ∨ ∃ i, i < l.n ∧ (l.f i).to_.toNat = v ∧ cLe (cWith (c.f (l.f i).from_.toNat) (l.f i)) (c.f v)
theorem Par.one {n : Nat} {l : Sq Sstep} (hl : StOK n l) {c0 : Sq Scost} (c : Sq Scost × Bool) (i : Nat) (hi : i < l.n) (h : Par n l c0 c.1) : Par n l c0 (spOne c (l.f i)).1 := by
  intro v hv
  obtain ⟨s1, s2, s3, s4, s5, s6⟩ := hl.h i hi
  rcases spOne_cases c (l.f i) with ⟨e, _⟩ | ⟨hless, _, hf⟩
  · rw [e]; exact h v hv
  · have hless := cLess_t hless
    by_cases hk : v = (l.f i).to_.toNat
    · right
      refine ⟨i, hi, hk.symm, ?_⟩
      have hne : (l.f i).from_.toNat ≠ (l.f i).to_.toNat := fun e => by
        unfold cWith at hless
        dsimp only at hless
        rw [e] at hless
        omega
      rw [hf, hf, if_neg hne, if_pos hk]
      exact .refl _
    · have hv' : (spOne c (l.f i)).1.f v = c.1.f v := by rw [hf, if_neg hk]
      rw [hv']
      rcases h v hv with e | ⟨j, j1, j2, j3⟩
      · exact .inl e
      · refine .inr ⟨j, j1, j2, ?_⟩
        have := spOne_mono c (l.f i) (l.f j).from_.toNat
        unfold cLe cWith at *
        dsimp only at *
        omega
theorem leftP_par {m : SMine} (ok : MineOK m) (to : Int) : Par m.Places.n (turn (stepsM m)) (cTo m.Places.n to) (leftP m to) :=
  spO_inv (J := Par m.Places.n (turn (stepsM m)) (cTo m.Places.n to)) (fun c i hi h => h.one (stepsM_ok ok).turn c i hi) m.Places.n fun _ _ => .inl rfl
/-- Where a road is still to be walked, one is found. -/
theorem next_ok {m : SMine} (ok : MineOK m) {to : Int} {p : Int} (p0 : 0 ≤ p) (p1 : p < m.Places.n) (hr : 1 ≤ ((leftP m to).f p.toNat).roads_) :
    ∃ j, j < m.Roads.n ∧ walks (m.Roads.f j) = true ∧ ((p = (m.Roads.f j).From ∧ nextP (leftP m to) p (stepsM m) = stp m j (m.Roads.f j).From (m.Roads.f j).To) ∨ (p = (m.Roads.f j).To ∧ nextP (leftP m to) p (stepsM m) = stp m j (m.Roads.f j).To (m.Roads.f j).From)) ∧
      ((leftP m to).f p.toNat).time_ = ((leftP m to).f (nextP (leftP m to) p (stepsM m)).to_.toNat).time_ + (nextP (leftP m to) p (stepsM m)).time_ ∧ ((leftP m to).f p.toNat).roads_ = ((leftP m to).f (nextP (leftP m to) p (stepsM m)).to_.toNat).roads_ + 1 := by
  have hst := stepsM_ok ok
  have found : ∃ i, i < (stepsM m).n ∧ (nG (leftP m to) p (stepsM m) i).isSome = true := by
    rcases leftP_par ok to p.toNat (by omega) with e | ⟨i, i1, i2, i3⟩
    · rw [e, cTo_roads] at hr; omega
    · rw [turn_n] at i1
      have hs := leftP_stab ok to i (by rw [turn_n]; exact i1)
      rw [turn_f _ i1] at i2 i3 hs
      obtain ⟨s1, s2, s3, s4, s5, s6⟩ := hst.h i i1
      dsimp only at i2 i3 hs
      rw [i2] at hs
      have e := hs.anti i3
      refine ⟨i, i1, ?_⟩
      unfold nG
      have e1 : ((stepsM m).f i).from_ = p := by omega
      rw [if_pos ⟨e1, by rw [e]; rfl, by rw [e]; rfl⟩]; rfl
  obtain ⟨i, i1, i2⟩ := found
  cases hfn : firstN (nG (leftP m to) p (stepsM m)) (stepsM m).n 0 with
  | none =>
    exfalso
    have : ∀ k j, firstN (nG (leftP m to) p (stepsM m)) k j = none → ∀ x, j ≤ x → x < j + k → nG (leftP m to) p (stepsM m) x = none := by
      intro k
      induction k with
      | zero => intro j _ x h1 h2; omega
      | succ k ih =>
        intro j h x h1 h2
        unfold firstN at h
        cases hg : nG (leftP m to) p (stepsM m) j with
        | some z => rw [hg] at h; cases h
        | none =>
          rw [hg] at h
          by_cases hx : x = j
          · rw [hx]; exact hg
          · exact ih (j + 1) h x (by omega) (by omega)
    rw [this _ 0 hfn i (Nat.zero_le _) (by omega)] at i2
    cases i2
  | some y =>
    obtain ⟨k, _, hk, e⟩ := firstN_mem hfn
    have hk : k < (stepsM m).n := by omega
    unfold nG at e
    split at e
    · rename_i hc
      injection e with e
      have hnx : nextP (leftP m to) p (stepsM m) = (stepsM m).f k := by
        unfold nextP
        rw [hfn, ← e]
      rw [hnx]
      obtain ⟨j, j1, j2, j3⟩ := steps_in m m.Roads.n k hk
      refine ⟨j, j1, j2, ?_, hc.2.1.symm, hc.2.2.symm⟩
      rcases j3 with q | q
      · left
        have q : (stepsM m).f k = stp m j (m.Roads.f j).From (m.Roads.f j).To := q
        refine ⟨?_, q⟩
        rw [← hc.1, q]; rfl
      · right
        have q : (stepsM m).f k = stp m j (m.Roads.f j).To (m.Roads.f j).From := q
        refine ⟨?_, q⟩
        rw [← hc.1, q]; rfl
    · cases e
/-- Along the way less and less is left. -/
theorem follow_ok {m : SMine} (ok : MineOK m) {to p : Int} (p0 : 0 ≤ p) (p1 : p < m.Places.n) : ∀ i : Nat, (i : Int) ≤ ((leftP m to).f p.toNat).roads_ → ((leftP m to).f (followP (leftP m to) (stepsM m) p i).1.toNat).roads_ = ((leftP m to).f p.toNat).roads_ - i := by
  intro i
  induction i with
  | zero => intro _; show ((leftP m to).f p.toNat).roads_ = _; omega
  | succ i ih =>
    intro hi
    have ih := ih (by omega)
    obtain ⟨f1, f2, f3⟩ := followP_ok (left := leftP m to) (stepsM_ok ok) p0 p1 i
    obtain ⟨j, _, _, _, _, h⟩ := next_ok ok (to := to) f1 f2 (by omega)
    show ((leftP m to).f (nextP (leftP m to) (followP (leftP m to) (stepsM m) p i).1 (stepsM m)).to_.toNat).roads_ = _
    omega
theorem followP_f {left : Sq Scost} {l : Sq Sstep} {n : Nat} (hl : StOK n l) {p : Int} (p0 : 0 ≤ p) (p1 : p < n) : ∀ (R i : Nat), i < R → (followP left l p R).2.f i = (nextP left (followP left l p i).1 l).road_ := by
  intro R
  induction R with
  | zero => intro i hi; omega
  | succ R ih =>
    intro i hi
    have hn := (followP_ok (left := left) hl p0 p1 R).2.2
    show cond (Nat.blt i (followP left l p R).2.n) ((followP left l p R).2.f i) (nextP left (followP left l p R).1 l).road_ = _
    rw [hn]
    by_cases h : i < R
    · rw [blt_t h]; exact ih i h
    · rw [blt_f (by omega), show i = R by omega]; rfl
theorem follow_end {m : SMine} (ok : MineOK m) {to p : Int} (t0 : 0 ≤ to) (p0 : 0 ≤ p) (p1 : p < m.Places.n) (hfin : ((leftP m to).f p.toNat).time_ < 1099511627776) : ∀ R : Nat, (R : Int) = ((leftP m to).f p.toNat).roads_ →
    ((leftP m to).f (followP (leftP m to) (stepsM m) p R).1.toNat).time_ ≤ ((leftP m to).f p.toNat).time_ → (followP (leftP m to) (stepsM m) p R).1 = to ∧ ((leftP m to).f (followP (leftP m to) (stepsM m) p R).1.toNat).time_ = 0 := by
  intro R hR hle
  have h1 := follow_ok ok (to := to) p0 p1 R (by omega)
  obtain ⟨f1, f2, _⟩ := followP_ok (left := leftP m to) (stepsM_ok ok) p0 p1 R
  generalize (followP (leftP m to) (stepsM m) p R).1 = x at h1 f1 f2 hle ⊢
  rcases leftP_par ok to x.toNat (by omega) with e | ⟨i, i1, i2, i3⟩
  · rw [e, cTo_time (by omega)] at hle ⊢
    by_cases hx : x.toNat = to.toNat
    · rw [if_pos hx]
      exact ⟨by omega, rfl⟩
    · rw [if_neg hx] at hle
      omega
  · exfalso
    rw [turn_n] at i1
    have hs := leftP_stab ok to i (by rw [turn_n]; exact i1)
    rw [turn_f _ i1] at i2 i3 hs
    dsimp only at i2 i3 hs
    rw [i2] at hs
    have e := hs.anti i3
    obtain ⟨s1, s2, s3, s4, s5, s6⟩ := (stepsM_ok ok).h i i1
    obtain ⟨l1, l2⟩ := leftP_ok ok to
    have h2 := l2.h ((stepsM m).f i).to_.toNat (by omega)
    rw [e] at h1
    unfold cWith at h1
    dsimp only at h1
    omega

/-! ### The law -/
def sv (n : Nat) : Nat → Sq Int
  | 0 => Sq.mk n (fun _ => (0 : Int))
  | i + 1 => Sq.mk (sv n i).n (fun k0 => (cond (Nat.beq k0 i) (1099511627776 : Int) ((sv n i).f k0)))
theorem sv_n (n i : Nat) : (sv n i).n = n := by
  induction i with
  | zero => rfl
  | succ i ih => exact ih
theorem sv_f (n : Nat) : ∀ i k, k < i → (sv n i).f k = 1099511627776 := by
  intro i
  induction i with
  | zero => intro k h; omega
  | succ i ih =>
    intro k hk
    show cond (Nat.beq k i) _ _ = _
    by_cases h : k = i
    · rw [beq_t h]; rfl
    · rw [beq_f h]; exact ih k (by omega)
theorem secP_fwd {m : SMine} {j : Nat} (hj : j < m.Roads.n) (hw : walks (m.Roads.f j) = true) : secP m j false 6 9 12 = tA m j (m.Roads.f j).From (m.Roads.f j).To ∧ secP m j true 6 9 12 = tA m j (m.Roads.f j).To (m.Roads.f j).From := by
  unfold secP tA
  have hj2 : (0 : Int) ≤ (j : Int) ∧ (j : Int) < m.Roads.n := ⟨by omega, by omega⟩
  have hw2 : ((m.Roads.f j).Walk && !(m.Roads.f j).Closed) = true := hw
  refine ⟨?_, ?_⟩ <;> rw [if_pos hj2, toNat_nat, if_pos hw2]
theorem walkSums_true (codes : Sq Int) (hb : ∀ k, 0 ≤ codes.f k ∧ codes.f k ≤ 255) (a b : Int) : (law03_WalkSums_t codes a b).get = some true := by
  obtain ⟨c, e0, hc⟩ := New_ex codes hb
  obtain ⟨m, z, e1, hm⟩ := Codes_Mine_ex hc
  have ok := hm.ok
  have nr := ok.nr
  have n0 := hm.n0
  have n1 := hm.n1
  obtain ⟨p, ep, _, hp⟩ := Mod_ex a (m.Places.n : Int) (by omega)
  obtain ⟨q, eq, _, hq⟩ := Mod_ex b (m.Places.n : Int) (by omega)
  have hp := hp (by omega)
  have hq := hq (by omega)
  unfold law03_WalkSums_t
  rw [get_bind e0, get_bind e1, get_bind ep, get_bind eq]
  simp only [tN]
  have h6 : law03_WalkSums_l6 p q m.Places m.Roads (Sq.mk m.Places.n (fun _ => (0 : Int))) (0 : Int) = some (.inl (sv m.Places.n m.Places.n)) := by
    rw [law03_WalkSums_l6_eq]
    refine (loop_seq (step := fun v : (Sq Int) × Int => law03_WalkSums_l6_step p q m.Places m.Roads v.1 v.2) (fun i => (sv m.Places.n i, (i : Int))) m.Places.n (z := .l (sv m.Places.n m.Places.n)) (fun i hi => ?_) ?_)
    · unfold law03_WalkSums_l6_step
      dsimp only
      rw [get_t (dlt hi), get_t (dix (by rw [sv_n]; exact hi)), toNat_nat, wr_next (by omega)]; rfl
    · unfold law03_WalkSums_l6_step
      rw [get_f (dge (Nat.le_refl _))]; rfl
  rw [get_t (decide_eq_true ⟨by omega, by omega, by omega, by omega⟩), get_sum h6]
  dsimp only [Sum.elim]
  obtain ⟨s, hs⟩ : ∃ s : Sq Int, s = Sq.mk (sv m.Places.n m.Places.n).n (fun k1 => (cond (Nat.beq k1 (Int.toNat p)) (0 : Int) ((sv m.Places.n m.Places.n).f k1))) := ⟨_, rfl⟩
  have sn : s.n = m.Places.n := by rw [hs]; exact sv_n _ _
  have sf : ∀ v, v < s.n → s.f v = if v = p.toNat then 0 else 1099511627776 := fun v hv => by
    rw [hs]
    dsimp only
    by_cases h : v = p.toNat
    · rw [beq_t h, if_pos h]; rfl
    · rw [beq_f h, if_neg h]
      exact sv_f _ _ v (by omega)
  have ts : TsOK s := fun v hv => by rw [sf v hv]; split <;> omega
  rw [← hs, sv_n, get_t (decide_eq_true hp), get_bind (walk_Way_v ok hp.1 hp.2 hq.1 hq.2), get_bind (walk_Least_v ok sn ts)]
  have L := leastP_ok ok sn ts
  have E := left_least ok hp.1 hp.2 hq.1 hq.2 sn sf
  rw [get_f (by simp [L.n, sn]), get_t (decide_eq_true ⟨hq.1, by rw [L.n, sn]; exact hq.2⟩)]
  cases hok : (wayP m p q).2.2 with
  | false =>
    have hw : wayP m p q = (Sq.mk 0 (fun _ => (0 : Int)), 0, false) := by
      unfold wayP at hok ⊢
      split
      · rfl
      · rename_i h; rw [if_neg h] at hok; cases hok
    have ht : ((leftP m q).f p.toNat).time_ = 1099511627776 := by
      unfold wayP at hok
      split at hok
      · rename_i h; exact h.1
      · cases hok
    have h16 : law03_WalkSums_l16 q (wayP m p q).2.1 false m.Places m.Roads (wayP m p q).1 p 0 0 = some (.inl (p, 0)) := by
      rw [law03_WalkSums_l16_eq]
      refine (fixO_get (x := .l (p, 0)) ?_)
      unfold law03_WalkSums_l16_step
      rw [hw, get_f (by simp)]; rfl
    rw [get_f (by rw [E, ht]; rfl), get_f rfl, get_sum h16]
    dsimp only [Sum.elim]
    rw [get_t (b := !false) rfl, get_bind awake3_true]; rfl
  | true =>
    obtain ⟨a1, a2, a3⟩ := wayP_ok ok hp.1 hp.2 hok
    obtain ⟨T, hT⟩ : ∃ T, T = ((leftP m q).f p.toNat).time_ := ⟨_, rfl⟩
    obtain ⟨R, hR⟩ : ∃ R : Nat, R = ((leftP m q).f p.toNat).roads_.toNat := ⟨_, rfl⟩
    obtain ⟨l1, l2⟩ := leftP_ok ok q
    have hl := l2.h p.toNat (by omega)
    have hRi : (R : Int) = ((leftP m q).f p.toNat).roads_ := by omega
    have hR63 := leftP_roads ok q (v := p.toNat) (by omega)
    have hway : (wayP m p q).1 = (followP (leftP m q) (stepsM m) p R).2 := by
      unfold wayP at hok ⊢
      split
      · rename_i h; rw [if_pos h] at hok; cases hok
      · rw [hR]
    have hle : ∀ i, i ≤ R → ((leftP m q).f (followP (leftP m q) (stepsM m) p i).1.toNat).time_ ≤ T := by
      intro i
      induction i with
      | zero => intro _; rw [hT]; exact Int.le_refl _
      | succ i ih =>
        intro hi
        obtain ⟨f1, f2, _⟩ := followP_ok (left := leftP m q) (stepsM_ok ok) hp.1 hp.2 i
        have hr := follow_ok ok (to := q) hp.1 hp.2 i (by omega)
        obtain ⟨j, j1, j2, j3, j4, _⟩ := next_ok ok (to := q) f1 f2 (by omega)
        have ih := ih (by omega)
        have hlen := pSec_le (u := 6) (d := 9) (l := 12) (len := (m.Roads.f j).Length) (rise := hg m (m.Roads.f j).To - hg m (m.Roads.f j).From) (by omega) (by omega) (by omega) (road_len ok j1)
        have hlen2 := pSec_le (u := 6) (d := 9) (l := 12) (len := (m.Roads.f j).Length) (rise := hg m (m.Roads.f j).From - hg m (m.Roads.f j).To) (by omega) (by omega) (by omega) (road_len ok j1)
        have ht : 1 ≤ (nextP (leftP m q) (followP (leftP m q) (stepsM m) p i).1 (stepsM m)).time_ := by
          rcases j3 with ⟨_, e⟩ | ⟨_, e⟩
          · rw [e]; exact hlen.1
          · rw [e]; exact hlen2.1
        show ((leftP m q).f (nextP (leftP m q) (followP (leftP m q) (stepsM m) p i).1 (stepsM m)).to_.toNat).time_ ≤ T
        omega
    obtain ⟨g1, g2⟩ := follow_end ok hq.1 hp.1 hp.2 (by omega) R hRi (by rw [← hT]; exact hle R (Nat.le_refl _))
    have h16 : law03_WalkSums_l16 q (wayP m p q).2.1 true m.Places m.Roads (wayP m p q).1 p 0 0 = some (.inl (q, T)) := by
      rw [law03_WalkSums_l16_eq, hway]
      have hn := (followP_ok (left := leftP m q) (stepsM_ok ok) hp.1 hp.2 R).2.2
      have start : ((p, 0, 0) : Int × Int × Int) = ((followP (leftP m q) (stepsM m) p 0).1, T - ((leftP m q).f (followP (leftP m q) (stepsM m) p 0).1.toNat).time_, ((0 : Nat) : Int)) := by
        show _ = (p, T - ((leftP m q).f p.toNat).time_, (0 : Int))
        rw [hT, Int.sub_self]
      rw [start]
      refine (loop_seq (step := fun v : Int × Int × Int => law03_WalkSums_l16_step q (wayP m p q).2.1 true m.Places m.Roads (followP (leftP m q) (stepsM m) p R).2 v.1 v.2.1 v.2.2)
        (fun i => ((followP (leftP m q) (stepsM m) p i).1, T - ((leftP m q).f (followP (leftP m q) (stepsM m) p i).1.toNat).time_, (i : Int))) R (z := .l (q, T)) (fun i hi => ?_) ?_)
      · obtain ⟨f1, f2, _⟩ := followP_ok (left := leftP m q) (stepsM_ok ok) hp.1 hp.2 i
        obtain ⟨f1', f2', _⟩ := followP_ok (left := leftP m q) (stepsM_ok ok) hp.1 hp.2 (i + 1)
        have hr := follow_ok ok (to := q) hp.1 hp.2 i (by omega)
        have hi1 := hle i (by omega)
        have hi2 := hle (i + 1) (by omega)
        have hi3 := l2.h (followP (leftP m q) (stepsM m) p i).1.toNat (by omega)
        have hi4 := l2.h (followP (leftP m q) (stepsM m) p (i + 1)).1.toNat (by omega)
        obtain ⟨j, j1, j2, j3, j4, _⟩ := next_ok ok (to := q) f1 f2 (by omega)
        have hroad := followP_f (left := leftP m q) (stepsM_ok ok) hp.1 hp.2 R i hi
        obtain ⟨r1, r2, r3, r4, r5⟩ := road_ends ok j1
        obtain ⟨t1, t2⟩ := secP_fwd j1 j2
        have nx : (followP (leftP m q) (stepsM m) p (i + 1)).1 = (nextP (leftP m q) (followP (leftP m q) (stepsM m) p i).1 (stepsM m)).to_ := rfl
        have hj : (followP (leftP m q) (stepsM m) p R).2.f i = (j : Int) := by
          rw [hroad]
          rcases j3 with ⟨_, e⟩ | ⟨_, e⟩ <;> rw [e] <;> rfl
        rw [← nx] at j4
        have j4 : ((leftP m q).f (followP (leftP m q) (stepsM m) p i).1.toNat).time_ = ((leftP m q).f (followP (leftP m q) (stepsM m) p (i + 1)).1.toNat).time_ + (nextP (leftP m q) (followP (leftP m q) (stepsM m) p i).1 (stepsM m)).time_ := j4
        have hlen := pSec_le (u := 6) (d := 9) (l := 12) (len := (m.Roads.f j).Length) (rise := hg m (m.Roads.f j).To - hg m (m.Roads.f j).From) (by omega) (by omega) (by omega) (road_len ok j1)
        have hlen2 := pSec_le (u := 6) (d := 9) (l := 12) (len := (m.Roads.f j).Length) (rise := hg m (m.Roads.f j).From - hg m (m.Roads.f j).To) (by omega) (by omega) (by omega) (road_len ok j1)
        unfold law03_WalkSums_l16_step
        dsimp only
        rw [hn, get_t (dlt hi), get_t (dix hi), toNat_nat, hj, get_f (decide_eq_false (by omega)), get_t (dix hi), get_f (decide_eq_false (by omega)), get_t (dix hi), get_t (dix j1), toNat_nat]
        rcases j3 with ⟨e, e2⟩ | ⟨e, e2⟩
        · have hx : ((m.Roads.f j).To == (followP (leftP m q) (stepsM m) p i).1) = false := by rw [e]; simp; omega
          have nt : (nextP (leftP m q) (followP (leftP m q) (stepsM m) p i).1 (stepsM m)).time_ = tA m j (m.Roads.f j).From (m.Roads.f j).To := by rw [e2]; rfl
          have no : (followP (leftP m q) (stepsM m) p (i + 1)).1 = (m.Roads.f j).To := by rw [nx, e2]; rfl
          rw [hx, get_t (b := !false) rfl, get_f (by rw [e]; simp), get_t (dix hi), get_bind (walk_Time_v (m := m) ok _ _), t1, get_f (decide_eq_false (by unfold tA; omega)), wr_next (by omega), wr_ok (x := (m.Roads.f j).From + (m.Roads.f j).To) (by omega) (by omega), wr_ok (x := (m.Roads.f j).From + (m.Roads.f j).To - (followP (leftP m q) (stepsM m) p i).1) (by omega) (by omega),
            wr_ok (x := T - ((leftP m q).f (followP (leftP m q) (stepsM m) p i).1.toNat).time_ + tA m j (m.Roads.f j).From (m.Roads.f j).To) (by unfold tA; omega) (by unfold tA; omega)]
          show some (LR.next _) = some (LR.next _)
          refine congrArg some (congrArg LR.next ?_)
          rw [show (m.Roads.f j).From + (m.Roads.f j).To - (followP (leftP m q) (stepsM m) p i).1 = (followP (leftP m q) (stepsM m) p (i + 1)).1 by rw [no]; omega, show T - ((leftP m q).f (followP (leftP m q) (stepsM m) p i).1.toNat).time_ + tA m j (m.Roads.f j).From (m.Roads.f j).To = T - ((leftP m q).f (followP (leftP m q) (stepsM m) p (i + 1)).1.toNat).time_ by omega]
        · have hx : ((m.Roads.f j).To == (followP (leftP m q) (stepsM m) p i).1) = true := by rw [e]; simp
          have nt : (nextP (leftP m q) (followP (leftP m q) (stepsM m) p i).1 (stepsM m)).time_ = tA m j (m.Roads.f j).To (m.Roads.f j).From := by rw [e2]; rfl
          have no : (followP (leftP m q) (stepsM m) p (i + 1)).1 = (m.Roads.f j).From := by rw [nx, e2]; rfl
          rw [hx, get_f (b := !true) rfl, get_t (dix hi), get_bind (walk_Time_v (m := m) ok _ _), t2, get_f (decide_eq_false (by unfold tA; omega)), wr_next (by omega), wr_ok (x := (m.Roads.f j).From + (m.Roads.f j).To) (by omega) (by omega), wr_ok (x := (m.Roads.f j).From + (m.Roads.f j).To - (followP (leftP m q) (stepsM m) p i).1) (by omega) (by omega),
            wr_ok (x := T - ((leftP m q).f (followP (leftP m q) (stepsM m) p i).1.toNat).time_ + tA m j (m.Roads.f j).To (m.Roads.f j).From) (by unfold tA; omega) (by unfold tA; omega)]
          show some (LR.next _) = some (LR.next _)
          refine congrArg some (congrArg LR.next ?_)
          rw [show (m.Roads.f j).From + (m.Roads.f j).To - (followP (leftP m q) (stepsM m) p i).1 = (followP (leftP m q) (stepsM m) p (i + 1)).1 by rw [no]; omega, show T - ((leftP m q).f (followP (leftP m q) (stepsM m) p i).1.toNat).time_ + tA m j (m.Roads.f j).To (m.Roads.f j).From = T - ((leftP m q).f (followP (leftP m q) (stepsM m) p (i + 1)).1.toNat).time_ by omega]
      · unfold law03_WalkSums_l16_step
        dsimp only
        rw [hn, get_f (dge (Nat.le_refl _)), g2, g1, Int.sub_zero]; rfl
    have hlt : (leastP m s).f q.toNat < 1099511627776 := by rw [E]; omega
    rw [get_f (by rw [decide_eq_true hlt]; rfl), get_t rfl, get_t (decide_eq_true ⟨hq.1, by rw [L.n, sn]; exact hq.2⟩), get_f (by rw [E, a1]; simp), get_sum h16]
    dsimp only [Sum.elim]
    rw [get_f (b := !true) rfl, get_t (by simp), get_t (by rw [a1, hT]; simp), get_bind awake3_true]; rfl
end Go.Proofs.YtppidelikicnaaaDoor.Ab
