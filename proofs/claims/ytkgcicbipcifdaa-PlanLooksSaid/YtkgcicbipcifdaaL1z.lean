/- Stage 1: what the program and the document say of places and roads is the same; PlanLooks. -/
import Derived.Test.YtkgcicbipcifdaaL1k
namespace Go.Proofs.Ytkgcicbipcifdaa.Ab
open Go

def pushI (l : Sq Int) (v : Int) : Sq Int := Sq.mk (l.n + 1) (fun k0 => (cond (Nat.blt k0 l.n) (l.f k0) v))
theorem pushI_f (l : Sq Int) (v : Int) (k : Nat) : (pushI l v).f k = if k < l.n then l.f k else v := cond_blt _ _ _ _
theorem pushI_in {l : Sq Int} {v w : Int} : In (pushI l v) w ↔ In l w ∨ w = v := by
  constructor
  · rintro ⟨k, hk, e⟩
    have hk : k < l.n + 1 := hk
    rw [pushI_f] at e
    split at e
    · rename_i h; exact .inl ⟨k, h, e⟩
    · exact .inr e.symm
  · rintro (⟨k, hk, e⟩ | e)
    · exact ⟨k, by show k < l.n + 1; omega, by rw [pushI_f, if_pos hk]; exact e⟩
    · exact ⟨l.n, by show l.n < l.n + 1; omega, by rw [pushI_f, if_neg (Nat.lt_irrefl _)]; exact e.symm⟩
theorem SA.push {l : Sq Int} (h : SA l) {v : Int} (hv : ∀ w, In l w → w < v) : SA (pushI l v) := by
  intro i j hij hj
  have hj : j < l.n + 1 := hj
  rw [pushI_f, pushI_f, if_pos (by omega)]
  by_cases c : j < l.n
  · rw [if_pos c]; exact h i j hij c
  · rw [if_neg c]; exact hv _ ⟨i, by omega, rfl⟩
theorem SA.nil (f : Nat → Int) : SA ⟨0, f⟩ := fun _ _ _ hj => absurd hj (Nat.not_lt_zero _)
theorem In.nil {f : Nat → Int} {v : Int} : ¬ In ⟨0, f⟩ v := fun ⟨_, hk, _⟩ => absurd hk (Nat.not_lt_zero _)

/-! ### Roads of a place -/
def rdsP (R : Sq SRoad) (pl : Int) : Nat → Sq Int
  | 0 => Sq.mk 0 (fun _ => (0 : Int))
  | k + 1 => if (R.f k).From = pl ∨ (R.f k).To = pl then pushI (rdsP R pl k) k else rdsP R pl k
theorem rdsP_n (R : Sq SRoad) (pl : Int) : ∀ k, (rdsP R pl k).n ≤ k := by
  intro k
  induction k with
  | zero => exact Nat.le_refl _
  | succ k ih =>
    unfold rdsP
    split
    · show (rdsP R pl k).n + 1 ≤ k + 1; omega
    · omega
theorem plan_Roads_v {m : SMine} (hm : m.Roads.n ≤ 1000) (pl : Int) : plan_Roads m pl = some (rdsP m.Roads pl m.Roads.n) := by
  have e : plan_Roads_l3 pl m.Roads (Sq.mk 0 (fun _ => (0 : Int))) 0 = some (.inl (rdsP m.Roads pl m.Roads.n)) := by
    rw [plan_Roads_l3_eq]
    refine loop_seq (step := fun v : (Sq Int) × Int => plan_Roads_l3_step pl m.Roads v.1 v.2) (fun i => (rdsP m.Roads pl i, (i : Int))) m.Roads.n (z := .l (rdsP m.Roads pl m.Roads.n)) (fun i hi => ?_) ?_
    · have := rdsP_n m.Roads pl i
      show (plan_Roads_l3_step pl m.Roads (rdsP m.Roads pl i) i).get = some (.next (rdsP m.Roads pl (i + 1), ((i + 1 : Nat) : Int)))
      unfold plan_Roads_l3_step
      rw [get_t (dlt hi), get_t (dix hi), toNat_nat, wr_next (by omega)]
      by_cases c1 : (m.Roads.f i).From = pl
      · rw [get_t (by simp [c1]), get_t (decide_eq_true ⟨by omega, by omega⟩), show rdsP m.Roads pl (i + 1) = pushI (rdsP m.Roads pl i) i from if_pos (.inl c1)]; rfl
      · rw [get_f (by simp [c1])]
        by_cases c2 : (m.Roads.f i).To = pl
        · rw [get_t (by simp [c2]), get_t (decide_eq_true ⟨by omega, by omega⟩), show rdsP m.Roads pl (i + 1) = pushI (rdsP m.Roads pl i) i from if_pos (.inr c2)]; rfl
        · rw [get_f (by simp [c2]), show rdsP m.Roads pl (i + 1) = rdsP m.Roads pl i from if_neg (fun q => q.elim c1 c2)]; rfl
    · show (plan_Roads_l3_step pl m.Roads (rdsP m.Roads pl m.Roads.n) m.Roads.n).get = _
      unfold plan_Roads_l3_step
      rw [get_f (dge (Nat.le_refl _))]; rfl
  rw [plan_Roads_eq]; unfold plan_Roads_t
  rw [get_sum e]; rfl
theorem ref01_Roads_v {m : SMine} (hm : m.Roads.n ≤ 1000) (pl : Int) : ref01_Roads m pl = some (rdsP m.Roads pl m.Roads.n) := by
  have e : ref01_Roads_l3 pl m.Places m.Roads (Sq.mk 0 (fun _ => (0 : Int))) 0 = some (.inl (rdsP m.Roads pl m.Roads.n)) := by
    rw [ref01_Roads_l3_eq]
    refine loop_seq (step := fun v : (Sq Int) × Int => ref01_Roads_l3_step pl m.Places m.Roads v.1 v.2) (fun i => (rdsP m.Roads pl i, (i : Int))) m.Roads.n (z := .l (rdsP m.Roads pl m.Roads.n)) (fun i hi => ?_) ?_
    · have := rdsP_n m.Roads pl i
      show (ref01_Roads_l3_step pl m.Places m.Roads (rdsP m.Roads pl i) i).get = some (.next (rdsP m.Roads pl (i + 1), ((i + 1 : Nat) : Int)))
      unfold ref01_Roads_l3_step
      rw [get_t (dlt hi), get_t (dix hi), toNat_nat, wr_next (by omega)]
      by_cases c1 : (m.Roads.f i).From = pl
      · rw [get_t (by simp [c1]), get_t (decide_eq_true ⟨by omega, by omega⟩), show rdsP m.Roads pl (i + 1) = pushI (rdsP m.Roads pl i) i from if_pos (.inl c1)]; rfl
      · rw [get_f (by simp [c1]), get_t (dix hi)]
        by_cases c2 : (m.Roads.f i).To = pl
        · rw [get_t (by simp [c2]), get_t (decide_eq_true ⟨by omega, by omega⟩), show rdsP m.Roads pl (i + 1) = pushI (rdsP m.Roads pl i) i from if_pos (.inr c2)]; rfl
        · rw [get_f (by simp [c2]), show rdsP m.Roads pl (i + 1) = rdsP m.Roads pl i from if_neg (fun q => q.elim c1 c2)]; rfl
    · show (ref01_Roads_l3_step pl m.Places m.Roads (rdsP m.Roads pl m.Roads.n) m.Roads.n).get = _
      unfold ref01_Roads_l3_step
      rw [get_f (dge (Nat.le_refl _))]; rfl
  rw [ref01_Roads_eq]; unfold ref01_Roads_t
  rw [get_sum e]; rfl
theorem Other_same {m : SMine} (hm : m.Roads.n ≤ 1000) (road pl : Int) : ∃ v, plan_Other m road pl = some v ∧ ref01_Other m road pl = some v := by
  rw [plan_Other_eq, ref01_Other_eq]; unfold plan_Other_t ref01_Other_t
  have eh : plan_hasRoad m road = some (decide (0 ≤ road ∧ road ≤ (m.Roads.n : Int) - 1)) := by
    rw [plan_hasRoad_eq]; unfold plan_hasRoad_t
    rw [get_bind (plan_within_v _ _ _), wr_ok (by omega) (by omega)]; rfl
  rw [get_bind eh]
  by_cases c1 : road < 0
  · rw [get_t (by simp; omega), get_t (decide_eq_true c1)]; exact ⟨_, rfl, rfl⟩
  · rw [get_f (b := decide (road < 0)) (decide_eq_false c1)]
    by_cases c2 : road ≥ (m.Roads.n : Int)
    · rw [get_t (by simp; omega), get_t (decide_eq_true c2)]; exact ⟨_, rfl, rfl⟩
    · have ix : decide ((0 : Int) ≤ road ∧ road < ((m.Roads.n : Nat) : Int)) = true := decide_eq_true ⟨by omega, by omega⟩
      rw [get_f (by simp; omega), get_t ix, get_f (b := decide (road ≥ ((m.Roads.n : Nat) : Int))) (decide_eq_false c2), get_t ix]
      by_cases c3 : (m.Roads.f road.toNat).From = pl
      · rw [get_t (b := pl == (m.Roads.f road.toNat).From) (by simp [c3]), get_t (b := (m.Roads.f road.toNat).From == pl) (by simp [c3]), get_t ix]; exact ⟨_, rfl, rfl⟩
      · rw [get_f (b := pl == (m.Roads.f road.toNat).From) (by simp; omega), get_f (b := (m.Roads.f road.toNat).From == pl) (by simp [c3]), get_t ix]
        by_cases c4 : (m.Roads.f road.toNat).To = pl
        · rw [get_t (b := pl == (m.Roads.f road.toNat).To) (by simp [c4]), get_t (b := (m.Roads.f road.toNat).To == pl) (by simp [c4]), get_t ix]; exact ⟨_, rfl, rfl⟩
        · rw [get_f (b := pl == (m.Roads.f road.toNat).To) (by simp; omega), get_f (b := (m.Roads.f road.toNat).To == pl) (by simp [c4])]; exact ⟨_, rfl, rfl⟩

/-! ### What is cut off -/
theorem plan_Valid_v (m : SMine) : plan_Valid m = some (decide (mineE m = 0)) := by
  rw [plan_Valid_eq]; unfold plan_Valid_t
  rw [get_bind (plan_Check_v m)]
  show some (mineE m == 0) = _
  by_cases c : mineE m = 0 <;> simp [c]
theorem Parts_bad {m : SMine} (h : mineE m ≠ 0) : plan_Parts m = some (Sq.mk 0 (fun _ => (Sq.mk 0 (fun _ => (0 : Int))))) ∧ ref01_Parts m = some (Sq.mk 0 (fun _ => (Sq.mk 0 (fun _ => (0 : Int))))) := by
  constructor
  · rw [plan_Parts_eq]; unfold plan_Parts_t
    rw [get_bind (plan_Valid_v m), decide_eq_false h, get_t (b := !false) rfl]; rfl
  · rw [ref01_Parts_eq]; unfold ref01_Parts_t
    rw [get_bind (ref01_Check_v m), get_t (by simp [h])]; rfl
theorem CutOff_same {m : SMine} : ∃ c d, plan_CutOff m = some c ∧ ref01_CutOff m = some d ∧ c.n ≤ 1000 ∧ c.n = d.n ∧ ∀ i, i < c.n → c.f i = d.f i := by
  by_cases h : mineE m = 0
  · have ok := (mineE_ok m).1 h
    have np := ok.np
    obtain ⟨c, ec, sc, hc⟩ := CutOff_ex ok
    obtain ⟨t, et, tn, ht⟩ := Airy_ex ok
    have key := loop_ex (step := fun v : (Sq Int) × Int => ref01_CutOff_l6_step t v.1 v.2)
      (fun v => ∃ k : Nat, v.2 = k ∧ k ≤ t.n ∧ v.1.n ≤ k ∧ SA v.1 ∧ ∀ w, In v.1 w ↔ 0 ≤ w ∧ w < k ∧ t.f w.toNat = false) (fun v => t.n - v.2.toNat)
      (fun z => ∃ d, z = .inl d ∧ SA d ∧ ∀ w, In d w ↔ 0 ≤ w ∧ w < t.n ∧ t.f w.toNat = false) (fun v hv => by
        obtain ⟨d, x⟩ := v
        obtain ⟨k, h1, hk, dn, sd, hd⟩ := hv
        have h1 : x = (k : Int) := h1
        have dn : d.n ≤ k := dn
        have sd : SA d := sd
        have hd : ∀ w, In d w ↔ 0 ≤ w ∧ w < k ∧ t.f w.toNat = false := hd
        subst h1
        show ∃ z, (ref01_CutOff_l6_step t d (k : Int)).get = some z ∧ _
        unfold ref01_CutOff_l6_step
        by_cases q : k < t.n
        · rw [get_t (dlt q), get_t (dix q), toNat_nat, wr_next (by omega)]
          cases hb : t.f k with
          | true =>
            rw [get_f (b := !true) rfl]
            refine ⟨_, rfl, ⟨k + 1, rfl, q, by dsimp only; omega, sd, fun w => ?_⟩, by dsimp only; omega⟩
            show In d w ↔ _
            rw [hd]
            constructor
            · rintro ⟨a, b, c⟩; exact ⟨a, by omega, c⟩
            · rintro ⟨a, b, c⟩
              refine ⟨a, ?_, c⟩
              rcases (show w < (k : Int) ∨ w = (k : Int) by omega) with e | e
              · exact e
              · rw [e, toNat_nat, hb] at c; cases c
          | false =>
            rw [get_t (b := !false) rfl, get_t (decide_eq_true ⟨by omega, by omega⟩)]
            refine ⟨_, rfl, ⟨k + 1, rfl, q, by show d.n + 1 ≤ k + 1; omega, sd.push fun w hw => ((hd w).1 hw).2.1, fun w => ?_⟩, by dsimp only; omega⟩
            show In (pushI d (k : Int)) w ↔ _
            rw [pushI_in, hd]
            constructor
            · rintro (⟨a, b, c⟩ | e)
              · exact ⟨a, by omega, c⟩
              · rw [e]; exact ⟨by omega, by omega, by rw [toNat_nat]; exact hb⟩
            · rintro ⟨a, b, c⟩
              rcases (show w < (k : Int) ∨ w = (k : Int) by omega) with e | e
              · exact .inl ⟨a, e, c⟩
              · exact .inr e
        · obtain rfl : k = t.n := by omega
          rw [get_f (dge (Nat.le_refl _))]
          exact ⟨_, rfl, d, rfl, sd, hd⟩)
      (Sq.mk 0 (fun _ => (0 : Int)), 0) ⟨0, rfl, Nat.zero_le _, Nat.zero_le _, SA.nil _, fun w => ⟨fun q => absurd q In.nil, fun q => by omega⟩⟩
    obtain ⟨z, hz, d, rfl, sd, hd⟩ := key
    have cb : ∀ w, In c w → 0 ≤ w ∧ w < m.Places.n := fun w hw => by have := (hc w).1 hw; exact ⟨this.1, this.2.1⟩
    have cl := sc.dis.le cb
    have e : ∀ v, In c v ↔ In d v := fun v => by
      rw [hc, hd, tn]
      constructor
      · rintro ⟨a, b, h⟩
        refine ⟨a, b, ?_⟩
        cases hb : t.f v.toNat with
        | false => rfl
        | true =>
          obtain ⟨w, w0, w1, w2, w3⟩ := (ht v.toNat (by omega)).1 hb
          rw [show ((v.toNat : Nat) : Int) = v by omega] at w2
          rw [h w w0 w1 w2] at w3
          cases w3
      · rintro ⟨a, b, h⟩
        refine ⟨a, b, fun w w0 w1 w2 => ?_⟩
        cases hb : (m.Places.f w.toNat).Surface with
        | false => rfl
        | true =>
          have := (ht v.toNat (by omega)).2 ⟨w, w0, w1, by rw [show ((v.toNat : Nat) : Int) = v by omega]; exact w2, hb⟩
          rw [h] at this
          cases this
    obtain ⟨u1, u2⟩ := sc.uniq sd e
    refine ⟨c, d, ec, ?_, by omega, u1, u2⟩
    rw [ref01_CutOff_eq]; unfold ref01_CutOff_t
    rw [get_bind (ref01_Check_v m), get_f (by rw [h]; rfl), get_bind et, get_sum (by rw [ref01_CutOff_l6_eq]; exact hz)]; rfl
  · obtain ⟨p1, _⟩ := Parts_bad h
    obtain ⟨r, er, sr, hr⟩ := sort_ex ⟨0, fun _ => (0 : Int)⟩ (by dsimp only; omega) (SA.nil _).dis
    have rn : r.n = 0 := by
      rcases Nat.eq_zero_or_pos r.n with q | q
      · exact q
      · exact absurd ((hr (r.f 0)).1 ⟨0, q, rfl⟩) In.nil
    refine ⟨r, Sq.mk 0 (fun _ => (0 : Int)), ?_, ?_, by omega, rn, fun i hi => by omega⟩
    · have el : plan_CutOff_l4 m.Places m.Roads (Sq.mk 0 (fun _ => (Sq.mk 0 (fun _ => (0 : Int))))) (Sq.mk 0 (fun _ => (0 : Int))) 0 = some (.inl (Sq.mk 0 (fun _ => (0 : Int)))) := by
        rw [plan_CutOff_l4_eq]
        refine fixO_get (x := .l (Sq.mk 0 (fun _ => (0 : Int)))) ?_
        unfold plan_CutOff_l4_step
        rw [get_f (by rfl)]; rfl
      rw [plan_CutOff_eq]; unfold plan_CutOff_t
      rw [get_bind p1, get_sum el]
      dsimp only [Sum.elim]
      rw [get_bind er]; rfl
    · rw [ref01_CutOff_eq]; unfold ref01_CutOff_t
      rw [get_bind (ref01_Check_v m), get_t (by simp [h])]; rfl

/-! ### Parts -/
/-- The first place of its part. -/
def Fst (m : SMine) (w : Nat) : Prop := ∀ q : Nat, q < w → ¬ Conn m.Roads q w
open Classical in
noncomputable def cF (m : SMine) : Nat → Nat
  | 0 => 0
  | k + 1 => if Fst m k then cF m k + 1 else cF m k
theorem cF_t {m : SMine} {k : Nat} (h : Fst m k) : cF m (k + 1) = cF m k + 1 := if_pos h
theorem cF_f {m : SMine} {k : Nat} (h : ¬ Fst m k) : cF m (k + 1) = cF m k := if_neg h
theorem cF_le (m : SMine) : ∀ k, cF m k ≤ k := by
  intro k
  induction k with
  | zero => exact Nat.le_refl _
  | succ k ih =>
    by_cases c : Fst m k
    · rw [cF_t c]; omega
    · rw [cF_f c]; omega
theorem cF_mono (m : SMine) {j : Nat} : ∀ k, j ≤ k → cF m j ≤ cF m k := by
  intro k
  induction k with
  | zero => intro h; rw [show j = 0 by omega]; exact Nat.le_refl _
  | succ k ih =>
    intro h
    by_cases e : j = k + 1
    · rw [e]; exact Nat.le_refl _
    · have := ih (by omega)
      by_cases c : Fst m k
      · rw [cF_t c]; omega
      · rw [cF_f c]; exact this
theorem cF_onto (m : SMine) : ∀ n q, q < cF m n → ∃ j, j < n ∧ Fst m j ∧ cF m j = q := by
  intro n
  induction n with
  | zero => intro q h; exact absurd h (Nat.not_lt_zero _)
  | succ n ih =>
    intro q h
    by_cases c : Fst m n
    · rw [cF_t c] at h
      by_cases e : q = cF m n
      · exact ⟨n, by omega, c, e.symm⟩
      · obtain ⟨j, h1, h2⟩ := ih q (by omega)
        exact ⟨j, by omega, h2⟩
    · rw [cF_f c] at h
      obtain ⟨j, h1, h2⟩ := ih q h
      exact ⟨j, by omega, h2⟩
theorem cF_lt {m : SMine} {w p : Nat} (h : w < p) (hf : Fst m w) : cF m w < cF m p := by
  have := cF_mono m p (show w + 1 ≤ p from h)
  rw [cF_t hf] at this
  omega
/-- The parts whose first places are ahead of one. -/
structure PF (m : SMine) (p : Nat) (L : Sq (Sq Int)) : Prop where
  n : L.n = cF m p
  f : ∀ w, w < p → Fst m w → SA (L.f (cF m w)) ∧ ∀ v, In (L.f (cF m w)) v ↔ 0 ≤ v ∧ v < m.Places.n ∧ Conn m.Roads w v
/-- What is marked: what is connected with a place ahead of one. -/
structure Mk (m : SMine) (p : Nat) (s : Sq Bool) : Prop where
  n : s.n = m.Places.n
  f : ∀ w : Nat, w < m.Places.n → (s.f w = true ↔ ∃ q : Nat, q < p ∧ Conn m.Roads q w)
theorem Mk.fst {m : SMine} {p : Nat} {s : Sq Bool} (h : Mk m p s) (hp : p < m.Places.n) : s.f p = true ↔ ¬ Fst m p := by
  rw [h.f p hp]
  exact ⟨fun ⟨q, h1, h2⟩ n => n q h1 h2, fun n => Classical.byContradiction fun q => n fun a h1 h2 => q ⟨a, h1, h2⟩⟩
theorem Mk.skip {m : SMine} {p : Nat} {s : Sq Bool} (h : Mk m p s) (hf : ¬ Fst m p) : Mk m (p + 1) s := by
  refine ⟨h.n, fun w hw => ?_⟩
  rw [h.f w hw]
  constructor
  · rintro ⟨q, h1, h2⟩; exact ⟨q, by omega, h2⟩
  · rintro ⟨q, h1, h2⟩
    rcases (show q < p ∨ q = p by omega) with e | e
    · exact ⟨q, e, h2⟩
    · have ⟨a, a1, a2⟩ : ∃ a : Nat, a < p ∧ Conn m.Roads a p := Classical.byContradiction fun n => hf fun a h1 h2 => n ⟨a, h1, h2⟩
      exact ⟨a, a1, a2.trans (by rw [e] at h2; exact h2)⟩
theorem PF.skip {m : SMine} {p : Nat} {L : Sq (Sq Int)} (h : PF m p L) (hf : ¬ Fst m p) : PF m (p + 1) L := by
  refine ⟨by rw [cF_f hf]; exact h.n, fun w hw hw2 => ?_⟩
  by_cases e : w = p
  · rw [e] at hw2; exact absurd hw2 hf
  · exact h.f w (by omega) hw2
theorem PF.add {m : SMine} {p : Nat} {L L' : Sq (Sq Int)} (h : PF m p L) (hf : Fst m p) {l : Sq Int} (hn : L'.n = L.n + 1) (he : ∀ k, L'.f k = if k < L.n then L.f k else l) (sl : SA l) (hl : ∀ v, In l v ↔ 0 ≤ v ∧ v < m.Places.n ∧ Conn m.Roads p v) : PF m (p + 1) L' := by
  refine ⟨by rw [cF_t hf, hn, h.n], fun w hw hw2 => ?_⟩
  by_cases e : w = p
  · rw [he, e, if_neg (by rw [h.n]; omega)]; exact ⟨sl, hl⟩
  · rw [he, if_pos (by rw [h.n]; exact cF_lt (by omega) hw2)]
    exact h.f w (by omega) hw2
theorem Mk.add {m : SMine} {p : Nat} {s s' : Sq Bool} (h : Mk m p s) (n' : s'.n = m.Places.n) (hs : ∀ w : Nat, w < m.Places.n → (s'.f w = true ↔ s.f w = true ∨ Conn m.Roads p w)) : Mk m (p + 1) s' := by
  refine ⟨n', fun w hw => ?_⟩
  rw [hs w hw, h.f w hw]
  constructor
  · rintro (⟨q, h1, h2⟩ | q)
    · exact ⟨q, by omega, h2⟩
    · exact ⟨p, by omega, q⟩
  · rintro ⟨q, h1, h2⟩
    rcases (show q < p ∨ q = p by omega) with e | e
    · exact .inl ⟨q, e, h2⟩
    · exact .inr (by rw [← e]; exact h2)
theorem appl (L : Sq (Sq Int)) (l : Sq Int) (k : Nat) : (Sq.mk (cond (Nat.blt k L.n) (L.f k).n l.n) (fun k1 => cond (Nat.blt k L.n) ((L.f k).f k1) (l.f k1)) : Sq Int) = if k < L.n then L.f k else l := by
  by_cases h : k < L.n
  · rw [blt_t h, if_pos h]; rfl
  · rw [blt_f (by omega), if_neg h]; rfl
theorem Parts_F {m : SMine} (ok : MineOK m) : ∃ L, plan_Parts m = some L ∧ PF m m.Places.n L := by
  have np := ok.np
  have key := loop_ex (step := fun v : Sq (Sq Int) × Sq Bool × Int => plan_Parts_l6_step m.Places m.Roads v.1 v.2.1 v.2.2)
    (fun v => ∃ p : Nat, v.2.2 = p ∧ p ≤ m.Places.n ∧ PF m p v.1 ∧ Mk m p v.2.1) (fun v => m.Places.n - v.2.2.toNat)
    (fun z => ∃ y, z = .inl y ∧ PF m m.Places.n y.1) (fun v hv => by
      obtain ⟨L, s, x⟩ := v
      obtain ⟨p, h1, hp, P, M⟩ := hv
      have h1 : x = (p : Int) := h1
      subst h1
      have P : PF m p L := P
      have M : Mk m p s := M
      have ln := P.n
      have sn := M.n
      have cl := cF_le m p
      show ∃ z, (plan_Parts_l6_step m.Places m.Roads L s (p : Int)).get = some z ∧ _
      unfold plan_Parts_l6_step
      by_cases c : p < m.Places.n
      · rw [get_t (dlt c), get_t (dix (by omega)), toNat_nat, wr_next (by omega)]
        by_cases cs : s.f p = true
        · rw [get_f (by rw [cs]; rfl)]
          have nf := (M.fst c).1 cs
          exact ⟨_, rfl, ⟨p + 1, rfl, c, P.skip nf, M.skip nf⟩, by dsimp only; omega⟩
        · have hf : Fst m p := Classical.byContradiction fun n => cs ((M.fst c).2 n)
          have cs' : s.f p = false := by simpa using cs
          have hS : Cl m.Roads (fun v => ∃ q : Nat, q < p ∧ Conn m.Roads q v) := fun u v e ⟨q, q1, q2⟩ => ⟨q, q1, q2.edg e⟩
          obtain ⟨l, s', e, sn', sl, il, hs'⟩ := part_ex ok hS (first := (p : Int)) (by omega) (by omega) (fun ⟨q, q1, q2⟩ => hf q q1 q2) sn (fun v hv => M.f v hv)
          rw [get_t (by rw [cs']; rfl), get_bind e, get_t (decide_eq_true ⟨by omega, by omega⟩)]
          exact ⟨_, rfl, ⟨p + 1, rfl, c, P.add hf rfl (fun k => appl L l k) sl il, M.add sn' fun w hw => by rw [hs' w hw, M.f w hw]⟩, by dsimp only; omega⟩
      · obtain rfl : p = m.Places.n := by omega
        rw [get_f (dge (Nat.le_refl _))]
        exact ⟨_, rfl, _, rfl, P⟩)
    (⟨0, fun _ => ⟨0, fun _ => 0⟩⟩, ⟨m.Places.n, fun _ => false⟩, 0) ⟨0, rfl, Nat.zero_le _, ⟨rfl, fun w hw => absurd hw (Nat.not_lt_zero _)⟩, ⟨rfl, fun w _ => ⟨fun h => (nomatch h), fun ⟨q, hq, _⟩ => absurd hq (Nat.not_lt_zero _)⟩⟩⟩
  obtain ⟨z, hz, y, rfl, g⟩ := key
  rw [plan_Parts_eq]; unfold plan_Parts_t
  rw [get_bind (plan_Valid_v m), decide_eq_true ((mineE_ok m).2 ok), get_f (b := !true) rfl, get_t (decide_eq_true ⟨by omega, by omega, by omega, by omega⟩), toNat_nat, get_sum (by rw [plan_Parts_l6_eq]; exact hz)]
  exact ⟨_, rfl, g⟩
theorem refPart_ex {m : SMine} (x : Int) (L : Sq (Sq Int)) {t s : Sq Bool} (tn : t.n = m.Places.n) (sn : s.n = m.Places.n) (np : m.Places.n ≤ 64) : ∃ y, ref01_Parts_l14 x m.Places m.Roads L t s (Sq.mk 0 (fun _ => (0 : Int))) 0 = some (.inl y) ∧ y.1.n = m.Places.n ∧ (∀ w : Nat, w < m.Places.n → (y.1.f w = true ↔ s.f w = true ∨ t.f w = true)) ∧ y.2.n ≤ m.Places.n ∧ SA y.2 ∧ ∀ v, In y.2 v ↔ 0 ≤ v ∧ v < m.Places.n ∧ t.f v.toNat = true := by
  have key := loop_ex (step := fun v : (Sq Bool) × (Sq Int) × Int => ref01_Parts_l14_step x m.Places m.Roads L t v.1 v.2.1 v.2.2)
    (fun v => ∃ k : Nat, v.2.2 = k ∧ k ≤ m.Places.n ∧ v.1.n = m.Places.n ∧ (∀ w : Nat, w < m.Places.n → (v.1.f w = true ↔ s.f w = true ∨ (w < k ∧ t.f w = true))) ∧ v.2.1.n ≤ k ∧ SA v.2.1 ∧ ∀ w, In v.2.1 w ↔ 0 ≤ w ∧ w < k ∧ t.f w.toNat = true) (fun v => m.Places.n - v.2.2.toNat)
    (fun z => ∃ y, z = .inl y ∧ y.1.n = m.Places.n ∧ (∀ w : Nat, w < m.Places.n → (y.1.f w = true ↔ s.f w = true ∨ t.f w = true)) ∧ y.2.n ≤ m.Places.n ∧ SA y.2 ∧ ∀ v, In y.2 v ↔ 0 ≤ v ∧ v < m.Places.n ∧ t.f v.toNat = true) (fun v hv => by
      obtain ⟨r, d, z⟩ := v
      obtain ⟨k, h1, hk, rn, hr, dn, sd, hd⟩ := hv
      have h1 : z = (k : Int) := h1
      have rn : r.n = m.Places.n := rn
      have hr : ∀ w : Nat, w < m.Places.n → (r.f w = true ↔ s.f w = true ∨ (w < k ∧ t.f w = true)) := hr
      have dn : d.n ≤ k := dn
      have sd : SA d := sd
      have hd : ∀ w, In d w ↔ 0 ≤ w ∧ w < k ∧ t.f w.toNat = true := hd
      subst h1
      show ∃ z, (ref01_Parts_l14_step x m.Places m.Roads L t r d (k : Int)).get = some z ∧ _
      unfold ref01_Parts_l14_step
      by_cases q : k < m.Places.n
      · rw [get_t (dlt (by omega)), get_t (dix (by omega)), toNat_nat, wr_next (by omega)]
        cases hb : t.f k with
        | false =>
          rw [get_f rfl]
          refine ⟨_, rfl, ⟨k + 1, rfl, q, rn, fun w hw => ?_, by dsimp only; omega, sd, fun w => ?_⟩, by dsimp only; omega⟩
          · show r.f w = true ↔ _
            rw [hr w hw]
            constructor
            · rintro (a | ⟨a, b⟩)
              · exact .inl a
              · exact .inr ⟨by omega, b⟩
            · rintro (a | ⟨a, b⟩)
              · exact .inl a
              · rcases (show w < k ∨ w = k by omega) with e | e
                · exact .inr ⟨e, b⟩
                · rw [e, hb] at b; cases b
          · show In d w ↔ _
            rw [hd]
            constructor
            · rintro ⟨a, b, c⟩; exact ⟨a, by omega, c⟩
            · rintro ⟨a, b, c⟩
              refine ⟨a, ?_, c⟩
              rcases (show w < (k : Int) ∨ w = (k : Int) by omega) with e | e
              · exact e
              · rw [e, toNat_nat, hb] at c; cases c
        | true =>
          rw [get_t rfl, get_t (decide_eq_true ⟨by omega, by omega⟩), get_t (dix (by omega))]
          refine ⟨_, rfl, ⟨k + 1, rfl, q, rn, fun w hw => ?_, by show d.n + 1 ≤ k + 1; omega, sd.push fun w hw => ((hd w).1 hw).2.1, fun w => ?_⟩, by dsimp only; omega⟩
          · show cond (Nat.beq w k) true (r.f w) = true ↔ _
            by_cases e : w = k
            · rw [beq_t e, e]; exact ⟨fun _ => .inr ⟨by omega, hb⟩, fun _ => rfl⟩
            · rw [beq_f e]
              show r.f w = true ↔ _
              rw [hr w hw]
              constructor
              · rintro (a | ⟨a, b⟩)
                · exact .inl a
                · exact .inr ⟨by omega, b⟩
              · rintro (a | ⟨a, b⟩)
                · exact .inl a
                · exact .inr ⟨by omega, b⟩
          · show In (pushI d (k : Int)) w ↔ _
            rw [pushI_in, hd]
            constructor
            · rintro (⟨a, b, c⟩ | e)
              · exact ⟨a, by omega, c⟩
              · rw [e]; exact ⟨by omega, by omega, by rw [toNat_nat]; exact hb⟩
            · rintro ⟨a, b, c⟩
              rcases (show w < (k : Int) ∨ w = (k : Int) by omega) with e | e
              · exact .inl ⟨a, e, c⟩
              · exact .inr e
      · obtain rfl : k = m.Places.n := by omega
        rw [get_f (dge (by omega))]
        refine ⟨_, rfl, (r, d), rfl, rn, fun w hw => ?_, dn, sd, hd⟩
        show r.f w = true ↔ _
        rw [hr w hw]
        exact ⟨fun a => a.imp_right fun b => b.2, fun a => a.imp_right fun b => ⟨hw, b⟩⟩)
    (s, Sq.mk 0 (fun _ => (0 : Int)), 0) ⟨0, rfl, Nat.zero_le _, sn, fun w _ => ⟨.inl, fun a => a.resolve_right fun b => absurd b.1 (Nat.not_lt_zero _)⟩, Nat.zero_le _, SA.nil _, fun w => ⟨fun q => absurd q In.nil, fun q => by omega⟩⟩
  obtain ⟨z, hz, y, rfl, g⟩ := key
  exact ⟨y, by rw [ref01_Parts_l14_eq]; exact hz, g⟩
theorem refParts_F {m : SMine} (ok : MineOK m) : ∃ L, ref01_Parts m = some L ∧ PF m m.Places.n L := by
  have np := ok.np
  have key := loop_ex (step := fun v : Sq (Sq Int) × Sq Bool × Int => ref01_Parts_l6_step m.Places m.Roads v.1 v.2.1 v.2.2)
    (fun v => ∃ p : Nat, v.2.2 = p ∧ p ≤ m.Places.n ∧ PF m p v.1 ∧ Mk m p v.2.1) (fun v => m.Places.n - v.2.2.toNat)
    (fun z => ∃ y, z = .inl y ∧ PF m m.Places.n y.1) (fun v hv => by
      obtain ⟨L, s, x⟩ := v
      obtain ⟨p, h1, hp, P, M⟩ := hv
      have h1 : x = (p : Int) := h1
      subst h1
      have P : PF m p L := P
      have M : Mk m p s := M
      have ln := P.n
      have sn := M.n
      have cl := cF_le m p
      show ∃ z, (ref01_Parts_l6_step m.Places m.Roads L s (p : Int)).get = some z ∧ _
      unfold ref01_Parts_l6_step
      by_cases c : p < m.Places.n
      · rw [get_t (dlt c), get_t (dix (by omega))]
        simp only [toNat_nat]
        rw [wr_next (by omega)]
        by_cases cs : s.f p = true
        · rw [get_t cs]
          have nf := (M.fst c).1 cs
          exact ⟨_, rfl, ⟨p + 1, rfl, c, P.skip nf, M.skip nf⟩, by dsimp only; omega⟩
        · have hf : Fst m p := Classical.byContradiction fun n => cs ((M.fst c).2 n)
          have cs' : s.f p = false := by simpa using cs
          obtain ⟨t, et, tn, ht⟩ := From_ex ok (s := Sq.mk m.Places.n (fun k2 => (cond (Nat.beq k2 p) true false))) rfl
          have ht2 : ∀ v : Nat, v < m.Places.n → (t.f v = true ↔ Conn m.Roads p v) := fun v hv => by
            rw [ht v hv]
            constructor
            · rintro ⟨w, w1, w2, w3⟩
              have w2 : cond (Nat.beq w p) true false = true := w2
              by_cases e : w = p
              · rw [← e]; exact w3
              · rw [beq_f e] at w2; cases w2
            · intro h
              refine ⟨p, c, ?_, h⟩
              show cond (Nat.beq p p) true false = true
              rw [beq_t rfl]; rfl
          obtain ⟨y, ey, y1, y2, y3, y4, y5⟩ := refPart_ex (p : Int) L tn sn np
          rw [get_f cs', get_t (decide_eq_true ⟨by omega, by omega, by omega, by omega⟩), get_t (dix c)]
          refine ⟨.next (Sq.mk (L.n + 1) (fun k3 => (Sq.mk (cond (Nat.blt k3 L.n) (L.f k3).n y.2.n) (fun k4 => (cond (Nat.blt k3 L.n) ((L.f k3).f k4) (y.2.f k4))))), y.1, ((p + 1 : Nat) : Int)), ?_, ⟨p + 1, rfl, c, P.add hf rfl (fun k => appl L y.2 k) y4 (fun v => ?_), M.add y1 fun w hw => by rw [y2 w hw, ht2 w hw]⟩, by dsimp only; omega⟩
          · refine (get_bind et).trans ((get_sum ey).trans ?_)
            dsimp only [Sum.elim]
            rw [get_t (decide_eq_true ⟨by omega, by omega⟩)]; rfl
          · rw [y5]
            constructor
            · rintro ⟨a, b, h⟩
              have := (ht2 v.toNat (by omega)).1 h
              rw [show ((v.toNat : Nat) : Int) = v by omega] at this
              exact ⟨a, b, this⟩
            · rintro ⟨a, b, h⟩
              exact ⟨a, b, (ht2 v.toNat (by omega)).2 (by rw [show ((v.toNat : Nat) : Int) = v by omega]; exact h)⟩
      · obtain rfl : p = m.Places.n := by omega
        rw [get_f (dge (Nat.le_refl _))]
        exact ⟨_, rfl, _, rfl, P⟩)
    (⟨0, fun _ => ⟨0, fun _ => 0⟩⟩, ⟨m.Places.n, fun _ => false⟩, 0) ⟨0, rfl, Nat.zero_le _, ⟨rfl, fun w hw => absurd hw (Nat.not_lt_zero _)⟩, ⟨rfl, fun w _ => ⟨fun h => (nomatch h), fun ⟨q, hq, _⟩ => absurd hq (Nat.not_lt_zero _)⟩⟩⟩
  obtain ⟨z, hz, y, rfl, g⟩ := key
  rw [ref01_Parts_eq]; unfold ref01_Parts_t
  rw [get_bind (ref01_Check_v m), get_f (by rw [(mineE_ok m).2 ok]; rfl), get_t (decide_eq_true ⟨by omega, by omega, by omega, by omega⟩), toNat_nat, get_sum (by rw [ref01_Parts_l6_eq]; exact hz)]
  exact ⟨_, rfl, g⟩
theorem Lists_ex {A B : Sq (Sq Int)} (hn : A.n ≤ 1000) (e : A.n = B.n) (h : ∀ i, i < A.n → (A.f i).n ≤ 1000 ∧ (A.f i).n = (B.f i).n ∧ ∀ k, k < (A.f i).n → (A.f i).f k = (B.f i).f k) : ref01_Lists A B = some true := by
  have el : ref01_Lists_l4 A B 0 = some (.inl ()) := by
    rw [ref01_Lists_l4_eq]
    refine (loop_first (step := fun v => ref01_Lists_l4_step A B v) (n := A.n) (fun _ => none) (fun i hi => ?_) ?_ A.n 0 (Nat.zero_add _)).trans ?_
    · obtain ⟨h1, h2, h3⟩ := h i hi
      unfold ref01_Lists_l4_step
      rw [get_t (dlt hi), get_t (dix hi), get_t (dix (by omega)), toNat_nat, wr_next (by omega), get_bind (Ints_ex h1 h2 h3), get_f (b := !true) rfl]; rfl
    · unfold ref01_Lists_l4_step
      rw [get_f (dge (Nat.le_refl _))]; rfl
    · have : ∀ k i, firstN (B := Unit) (fun _ => none) k i = none := by
        intro k
        induction k with
        | zero => intro i; rfl
        | succ k ih => intro i; exact ih (i + 1)
      rw [this]
  rw [ref01_Lists_eq]; unfold ref01_Lists_t
  rw [get_f (by rw [e]; simp), get_sum el]; rfl
theorem Parts_same {m : SMine} : ∃ c d, plan_Parts m = some c ∧ ref01_Parts m = some d ∧ ref01_Lists c d = some true := by
  by_cases h : mineE m = 0
  · have ok := (mineE_ok m).1 h
    have np := ok.np
    obtain ⟨c, ec, C⟩ := Parts_F ok
    obtain ⟨d, ed, D⟩ := refParts_F ok
    refine ⟨c, d, ec, ed, Lists_ex (by rw [C.n]; have := cF_le m m.Places.n; omega) (by rw [C.n, D.n]) fun i hi => ?_⟩
    rw [C.n] at hi
    obtain ⟨w, w1, w2, rfl⟩ := cF_onto m _ i hi
    obtain ⟨s1, i1⟩ := C.f w w1 w2
    obtain ⟨s2, i2⟩ := D.f w w1 w2
    obtain ⟨u1, u2⟩ := s1.uniq s2 fun v => by rw [i1, i2]
    have := s1.dis.le (n := m.Places.n) fun v hv => by have := (i1 v).1 hv; exact ⟨this.1, this.2.1⟩
    exact ⟨by omega, u1, u2⟩
  · obtain ⟨p1, p2⟩ := Parts_bad h
    exact ⟨_, _, p1, p2, Lists_ex (by dsimp only; omega) rfl fun i hi => absurd hi (Nat.not_lt_zero _)⟩

/-! ### The law -/
theorem looks_l5 (place road : Int) {B : Sq SMine} (hB : B.n = 2) (h : ∀ i, i < 2 → (B.f i).Places.n ≤ 1000 ∧ (B.f i).Roads.n ≤ 1000) : law01_PlanLooks_l5 place road B 0 = some (.inl ()) := by
  rw [law01_PlanLooks_l5_eq]
  refine (loop_first (step := fun v => law01_PlanLooks_l5_step place road B v) (n := 2) (fun _ => none) (fun i hi => ?_) ?_ 2 0 (Nat.zero_add _)).trans ?_
  · obtain ⟨hp, hr⟩ := h i hi
    obtain ⟨p, ep, _, _⟩ := Mod_ex place (((B.f i).Places.n : Int) + 1) (by omega)
    obtain ⟨r, er, _, _⟩ := Mod_ex road (((B.f i).Roads.n : Int) + 1) (by omega)
    have rs : ∀ q, (rdsP (B.f i).Roads q (B.f i).Roads.n).n ≤ 1000 := fun q => by have := rdsP_n (B.f i).Roads q (B.f i).Roads.n; omega
    have ii : ∀ q, ref01_Ints (rdsP (B.f i).Roads q (B.f i).Roads.n) (rdsP (B.f i).Roads q (B.f i).Roads.n) = some true := fun q => Ints_ex (rs q) rfl fun _ _ => rfl
    obtain ⟨o1, a1, a2⟩ := Other_same (m := B.f i) hr r p
    obtain ⟨o2, b1, b2⟩ := Other_same (m := B.f i) hr road place
    obtain ⟨c, d, c1, c2, c3, c4, c5⟩ := CutOff_same (m := B.f i)
    obtain ⟨x, y, x1, x2, x3⟩ := Parts_same (m := B.f i)
    unfold law01_PlanLooks_l5_step
    rw [get_t (decide_eq_true (by omega)), get_t (dix (by omega)), toNat_nat, wr_ok (x := ((B.f i).Places.n : Int) + 1) (by omega) (by omega), wr_ok (x := ((B.f i).Roads.n : Int) + 1) (by omega) (by omega), get_bind ep, get_bind er,
      get_bind (plan_Roads_v hr p), get_bind (ref01_Roads_v hr p), get_bind (ii p), get_f (b := !true) rfl,
      get_bind (plan_Roads_v hr place), get_bind (ref01_Roads_v hr place), get_bind (ii place), get_f (b := !true) rfl,
      get_bind a1, get_bind a2, get_f (by simp), get_bind b1, get_bind b2, get_f (by simp), get_bind c1, get_bind c2, get_bind (Ints_ex c3 c4 c5), get_f (b := !true) rfl,
      get_bind x1, get_bind x2, get_bind x3, get_f (b := !true) rfl, wr_next (by omega)]; rfl
  · unfold law01_PlanLooks_l5_step
    rw [get_f (decide_eq_false (by omega))]; rfl
  · rfl
theorem planLooks_true (codes : Sq Int) (hb : ∀ k, 0 ≤ codes.f k ∧ codes.f k ≤ 255) (raw : SMine) (place road : Int) : (law01_PlanLooks_t codes raw place road).get = some true := by
  obtain ⟨c, e0, hc⟩ := New_ex codes hb
  obtain ⟨m, z, e1, hm⟩ := Codes_Mine_ex hc
  have n1 := hm.n1
  have nr := hm.ok.nr
  unfold law01_PlanLooks_t
  rw [get_bind e0, get_bind e1]
  by_cases c1 : ((raw.Places.n : Nat) : Int) > 20
  · rw [get_t (decide_eq_true c1)]
    refine (get_sum (looks_l5 place road rfl fun i hi => ?_)).trans ?_
    · rcases (show i = 0 ∨ i = 1 by omega) with rfl | rfl
      · exact ⟨by show m.Places.n ≤ 1000; omega, by show m.Roads.n ≤ 1000; omega⟩
      · exact ⟨Nat.zero_le _, Nat.zero_le _⟩
    · dsimp only [Sum.elim]
      rw [get_bind awake_true]; rfl
  · rw [get_f (decide_eq_false c1)]
    by_cases c2 : ((raw.Roads.n : Nat) : Int) > 20
    · rw [get_t (decide_eq_true c2)]
      refine (get_sum (looks_l5 place road rfl fun i hi => ?_)).trans ?_
      · rcases (show i = 0 ∨ i = 1 by omega) with rfl | rfl
        · exact ⟨by show m.Places.n ≤ 1000; omega, by show m.Roads.n ≤ 1000; omega⟩
        · exact ⟨Nat.zero_le _, Nat.zero_le _⟩
      · dsimp only [Sum.elim]
        rw [get_bind awake_true]; rfl
    · rw [get_f (decide_eq_false c2)]
      refine (get_sum (looks_l5 place road rfl fun i hi => ?_)).trans ?_
      · rcases (show i = 0 ∨ i = 1 by omega) with rfl | rfl
        · exact ⟨by show m.Places.n ≤ 1000; omega, by show m.Roads.n ≤ 1000; omega⟩
        · exact ⟨by show raw.Places.n ≤ 1000; omega, by show raw.Roads.n ≤ 1000; omega⟩
      · dsimp only [Sum.elim]
        rw [get_bind awake_true]; rfl
end Go.Proofs.Ytkgcicbipcifdaa.Ab
