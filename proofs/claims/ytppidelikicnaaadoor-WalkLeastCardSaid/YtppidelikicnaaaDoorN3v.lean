/- Stage 3: the document's least times; WalkLeast. -/
import Derived.Test.YtppidelikicnaaaDoorN3c
import Derived.Test.YtppidelikicnaaaDoorN3kl
namespace Go.Proofs.YtppidelikicnaaaDoor.Ab
open Go

theorem sumN_le {g g' : Nat → Int} : ∀ {n : Nat}, (∀ i, i < n → g i ≤ g' i) → sumN g n ≤ sumN g' n := by
  intro n
  induction n with
  | zero => intro _; exact Int.le_refl _
  | succ n ih =>
    intro h
    have h1 := ih fun i hi => h i (by omega)
    have h2 := h n (by omega)
    unfold sumN
    omega
theorem sumN_lt {g g' : Nat → Int} : ∀ {n : Nat}, (∀ i, i < n → g i ≤ g' i) → ∀ v, v < n → g v < g' v → sumN g n < sumN g' n := by
  intro n
  induction n with
  | zero => intro _ v hv; omega
  | succ n ih =>
    intro h v hv hlt
    unfold sumN
    by_cases hvn : v = n
    · subst hvn
      have := sumN_le (n := v) fun i hi => h i (by omega)
      omega
    · have h1 := ih (fun i hi => h i (by omega)) v (by omega) hlt
      have h2 := h n (by omega)
      omega
theorem sumN_nn {g : Nat → Int} : ∀ {n : Nat}, (∀ i, i < n → 0 ≤ g i) → 0 ≤ sumN g n := by
  intro n
  induction n with
  | zero => intro _; exact Int.le_refl _
  | succ n ih =>
    intro h
    have h1 := ih fun i hi => h i (by omega)
    have h2 := h n (by omega)
    unfold sumN
    omega
/-- Times on the way down. -/
structure RS (m : SMine) (s t : Sq Int) : Prop where
  n : t.n = s.n
  ts : TsOK t
  le : ∀ v, v < s.n → t.f v ≤ s.f v
  ge : ∀ φ : Nat → Int, (∀ v, v < s.n → φ v ≤ s.f v) → Cons m φ → ∀ v, v < s.n → φ v ≤ t.f v
/-- One road in one direction. -/
structure Dir (m : SMine) (j : Nat) (back : Bool) (a b : Int) (w : Int) : Prop where
  a0 : 0 ≤ a
  a1 : a < m.Places.n
  b0 : 0 ≤ b
  b1 : b < m.Places.n
  e : ref03_ends (m.Roads.f j) back = some (a, b)
  no : walks (m.Roads.f j) = false → secP m j back 6 9 12 = -1
  yes : walks (m.Roads.f j) = true → secP m j back 6 9 12 = w
  w1 : 1 ≤ w ∧ w ≤ 1000099
  c : walks (m.Roads.f j) = true → ∀ φ : Nat → Int, Cons m φ → φ b.toNat ≤ φ a.toNat + w
theorem dir_of {m : SMine} (ok : MineOK m) {j : Nat} (hj : j < m.Roads.n) :
    Dir m j false (m.Roads.f j).From (m.Roads.f j).To (tA m j (m.Roads.f j).From (m.Roads.f j).To) ∧ Dir m j true (m.Roads.f j).To (m.Roads.f j).From (tA m j (m.Roads.f j).To (m.Roads.f j).From) := by
  obtain ⟨e1, e2, e3, e4, _⟩ := road_ends ok hj
  have hlen := road_len ok hj
  have hj2 : (0 : Int) ≤ (j : Int) ∧ (j : Int) < m.Roads.n := ⟨by omega, by omega⟩
  have no : ∀ back, walks (m.Roads.f j) = false → secP m j back 6 9 12 = -1 := fun back hw => by
    have hw2 : ((m.Roads.f j).Walk && !(m.Roads.f j).Closed) = false := hw
    unfold secP
    rw [if_pos hj2, toNat_nat, hw2, if_neg (by simp)]
  refine ⟨⟨e1, e2, e3, e4, by rw [ref03_ends_eq]; rfl, no false, fun hw => ?_, pSec_le (by omega) (by omega) (by omega) hlen, fun hw φ h => (h j hj hw).1⟩, ⟨e3, e4, e1, e2, by rw [ref03_ends_eq]; rfl, no true, fun hw => ?_, pSec_le (by omega) (by omega) (by omega) hlen, fun hw φ h => (h j hj hw).2⟩⟩
  · have hw2 : ((m.Roads.f j).Walk && !(m.Roads.f j).Closed) = true := hw
    unfold secP
    rw [if_pos hj2, toNat_nat, if_pos hw2]; rfl
  · have hw2 : ((m.Roads.f j).Walk && !(m.Roads.f j).Closed) = true := hw
    unfold secP
    rw [if_pos hj2, toNat_nat, if_pos hw2]; rfl
theorem l16_one {m : SMine} (ok : MineOK m) {s t : Sq Int} (hn : s.n = m.Places.n) (h : RS m s t) (f : Bool) {j : Nat} (hj : j < m.Roads.n) {back : Bool} {a b w : Int} (D : Dir m j back a b w) {i : Nat} (hi : i < 2) (hb : ((i : Int) == (1 : Int)) = back) :
    ∃ t' f', (ref03_Least_l16_step m.Places m.Roads j t f i).get = some (.next (t', f', ((i + 1 : Nat) : Int))) ∧ RS m s t' ∧ ((t' = t ∧ f' = f ∧ (walks (m.Roads.f j) = true → t.f b.toNat ≤ t.f a.toNat + w)) ∨ (f' = true ∧ sumN t'.f s.n < sumN t.f s.n)) := by
  have tn := h.n
  have w1 := D.w1
  have a0 := D.a0; have a1 := D.a1; have b0 := D.b0; have b1 := D.b1
  have ta := h.ts a.toNat (by omega)
  have tb := h.ts b.toNat (by omega)
  unfold ref03_Least_l16_step
  rw [get_t (decide_eq_true (by omega)), get_t (dix hj), toNat_nat, hb, get_bind D.e, get_bind (ref03_Time_v (m := m) ok _ _), wr_next (by omega)]
  cases hw : walks (m.Roads.f j) with
  | false =>
    rw [D.no hw, get_f (decide_eq_false (by omega))]
    exact ⟨t, f, rfl, h, .inl ⟨rfl, rfl, fun q => by cases q⟩⟩
  | true =>
    rw [D.yes hw, get_t (decide_eq_true (by omega)), get_t (decide_eq_true ⟨a0, by omega⟩)]
    dsimp only
    by_cases c1 : t.f a.toNat < 1099511627776
    · rw [get_t (decide_eq_true c1), get_t (decide_eq_true ⟨a0, by omega⟩), get_t (decide_eq_true ⟨b0, by omega⟩), wr_ok (x := t.f a.toNat + w) (by omega) (by omega)]
      by_cases c2 : t.f a.toNat + w < t.f b.toNat
      · rw [get_t (decide_eq_true c2), get_t (decide_eq_true ⟨a0, by omega⟩), get_t (decide_eq_true ⟨b0, by omega⟩)]
        have hf : ∀ v, (fun k0 => (cond (Nat.beq k0 (Int.toNat b)) (t.f a.toNat + w) (t.f k0))) v = if v = b.toNat then t.f a.toNat + w else t.f v := fun v => by
          dsimp only
          by_cases hv : v = b.toNat
          · rw [beq_t hv, if_pos hv]; rfl
          · rw [beq_f hv, if_neg hv]; rfl
        have hle : ∀ v, v < s.n → (fun k0 => (cond (Nat.beq k0 (Int.toNat b)) (t.f a.toNat + w) (t.f k0))) v ≤ t.f v := fun v _ => by
          rw [hf v]
          split
          · rename_i e; rw [e]; omega
          · exact Int.le_refl _
        refine ⟨_, _, rfl, ⟨tn, fun v hv => ?_, fun v hv => ?_, fun φ h0 hc v hv => ?_⟩, .inr ⟨rfl, ?_⟩⟩
        · show 0 ≤ (fun k0 => (cond (Nat.beq k0 (Int.toNat b)) (t.f a.toNat + w) (t.f k0))) v ∧ (fun k0 => (cond (Nat.beq k0 (Int.toNat b)) (t.f a.toNat + w) (t.f k0))) v ≤ _
          rw [hf v]
          split
          · omega
          · exact h.ts v hv
        · exact Int.le_trans (hle v hv) (h.le v hv)
        · show φ v ≤ (fun k0 => (cond (Nat.beq k0 (Int.toNat b)) (t.f a.toNat + w) (t.f k0))) v
          rw [hf v]
          split
          · rename_i e
            have h1 := D.c hw φ hc
            have h2 := h.ge φ h0 hc a.toNat (by omega)
            rw [e]; omega
          · exact h.ge φ h0 hc v hv
        · refine sumN_lt hle b.toNat (by omega) ?_
          show (fun k0 => (cond (Nat.beq k0 (Int.toNat b)) (t.f a.toNat + w) (t.f k0))) b.toNat < _
          rw [hf, if_pos rfl]; exact c2
      · rw [get_f (decide_eq_false c2)]
        exact ⟨t, f, rfl, h, .inl ⟨rfl, rfl, fun _ => by omega⟩⟩
    · rw [get_f (decide_eq_false c1)]
      exact ⟨t, f, rfl, h, .inl ⟨rfl, rfl, fun _ => by omega⟩⟩
/-- What one road leaves. -/
def ConsAt (m : SMine) (φ : Nat → Int) (j : Nat) : Prop := walks (m.Roads.f j) = true →
  φ (m.Roads.f j).To.toNat ≤ φ (m.Roads.f j).From.toNat + tA m j (m.Roads.f j).From (m.Roads.f j).To ∧ φ (m.Roads.f j).From.toNat ≤ φ (m.Roads.f j).To.toNat + tA m j (m.Roads.f j).To (m.Roads.f j).From
theorem l16_v {m : SMine} (ok : MineOK m) {s t : Sq Int} (hn : s.n = m.Places.n) (h : RS m s t) (f : Bool) {j : Nat} (hj : j < m.Roads.n) :
    ∃ t' f', ref03_Least_l16 m.Places m.Roads j t f 0 = some (.inl (f', t')) ∧ RS m s t' ∧ ((t' = t ∧ f' = f ∧ ConsAt m t.f j) ∨ (f' = true ∧ sumN t'.f s.n < sumN t.f s.n)) := by
  obtain ⟨d0, d1⟩ := dir_of ok hj
  obtain ⟨t1, f1, g1, h1, k1⟩ := l16_one ok hn h f hj d0 (i := 0) (by omega) rfl
  obtain ⟨t2, f2, g2, h2, k2⟩ := l16_one ok hn h1 f1 hj d1 (i := 1) (by omega) rfl
  refine ⟨t2, f2, ?_, h2, ?_⟩
  · rw [ref03_Least_l16_eq]
    refine (fixO_get (step := fun v : (Sq Int) × Bool × Int => ref03_Least_l16_step m.Places m.Roads j v.1 v.2.1 v.2.2) (v := (t, f, 0)) g1).trans ?_
    refine (fixO_get (step := fun v : (Sq Int) × Bool × Int => ref03_Least_l16_step m.Places m.Roads j v.1 v.2.1 v.2.2) (v := (t1, f1, 1)) g2).trans ?_
    refine (fixO_get (step := fun v : (Sq Int) × Bool × Int => ref03_Least_l16_step m.Places m.Roads j v.1 v.2.1 v.2.2) (v := (t2, f2, 2)) (x := .l (f2, t2)) ?_)
    show (ref03_Least_l16_step m.Places m.Roads j t2 f2 2).get = _
    unfold ref03_Least_l16_step
    rw [get_f (decide_eq_false (by omega))]; rfl
  · rcases k1 with ⟨rfl, rfl, q1⟩ | ⟨q1, q2⟩
    · rcases k2 with ⟨rfl, rfl, q2⟩ | q2
      · exact .inl ⟨rfl, rfl, fun hw => ⟨q1 hw, q2 hw⟩⟩
      · exact .inr q2
    · rcases k2 with ⟨rfl, rfl, _⟩ | ⟨q3, q4⟩
      · exact .inr ⟨q1, q2⟩
      · exact .inr ⟨q3, by omega⟩
theorem l13_v {m : SMine} (ok : MineOK m) {s t : Sq Int} (hn : s.n = m.Places.n) (h : RS m s t) :
    ∃ t' f', ref03_Least_l13 m.Places m.Roads t false 0 = some (.inl (f', t')) ∧ RS m s t' ∧ ((t' = t ∧ f' = false ∧ Cons m t.f) ∨ (f' = true ∧ sumN t'.f s.n < sumN t.f s.n)) := by
  have nr := ok.nr
  have key := loop_ex (step := fun v : (Sq Int) × Bool × Int => ref03_Least_l13_step m.Places m.Roads v.1 v.2.1 v.2.2)
    (fun v => RS m s v.1 ∧ 0 ≤ v.2.2 ∧ v.2.2 ≤ m.Roads.n ∧ ((v.1 = t ∧ v.2.1 = false ∧ ∀ j : Nat, (j : Int) < v.2.2 → ConsAt m t.f j) ∨ (v.2.1 = true ∧ sumN v.1.f s.n < sumN t.f s.n))) (fun v => m.Roads.n - v.2.2.toNat)
    (fun z => ∃ y, z = .inl y ∧ RS m s y.2 ∧ ((y.2 = t ∧ y.1 = false ∧ Cons m t.f) ∨ (y.1 = true ∧ sumN y.2.f s.n < sumN t.f s.n))) (fun v hv => by
      obtain ⟨u, f, i⟩ := v
      obtain ⟨h1, h2, h3, h4⟩ := hv
      dsimp only at h1 h2 h3 h4 ⊢
      unfold ref03_Least_l13_step
      by_cases c0 : i < m.Roads.n
      · obtain ⟨j, rfl⟩ : ∃ j : Nat, i = j := ⟨i.toNat, by omega⟩
        obtain ⟨u', f', g, k1, k2⟩ := l16_v ok hn h1 f (j := j) (by omega)
        rw [get_t (decide_eq_true c0), get_sum g, wr_next (by omega)]
        refine ⟨_, rfl, ⟨k1, by dsimp only; omega, by dsimp only; omega, ?_⟩, by dsimp only; omega⟩
        dsimp only
        rcases h4 with ⟨rfl, rfl, q⟩ | ⟨q1, q2⟩
        · rcases k2 with ⟨rfl, rfl, r⟩ | r
          · refine .inl ⟨rfl, rfl, fun x hx => ?_⟩
            by_cases hxj : x = j
            · rw [hxj]; exact r
            · exact q x (by omega)
          · exact .inr r
        · rcases k2 with ⟨rfl, rfl, _⟩ | ⟨r1, r2⟩
          · exact .inr ⟨q1, q2⟩
          · exact .inr ⟨r1, by omega⟩
      · rw [get_f (decide_eq_false c0)]
        refine ⟨_, rfl, _, rfl, h1, ?_⟩
        rcases h4 with ⟨q1, q2, q3⟩ | q
        · exact .inl ⟨q1, q2, fun j hj => q3 j (by omega)⟩
        · exact .inr q) (t, false, 0) ⟨h, by dsimp only; omega, by dsimp only; omega, .inl ⟨rfl, rfl, fun j hj => by dsimp only at hj; omega⟩⟩
  obtain ⟨z, hz, y, rfl, y1, y2⟩ := key
  exact ⟨y.2, y.1, by rw [ref03_Least_l13_eq]; exact hz, y1, y2⟩
theorem l10_v {m : SMine} (ok : MineOK m) {s : Sq Int} (hn : s.n = m.Places.n) (ts : TsOK s) : ∃ t, ref03_Least_l10 m.Places m.Roads s true = some (.inl t) ∧ RS m s t ∧ Cons m t.f := by
  have key := loop_ex (step := fun v : (Sq Int) × Bool => ref03_Least_l10_step m.Places m.Roads v.1 v.2)
    (fun v => RS m s v.1 ∧ (v.2 = false → Cons m v.1.f)) (fun v => 2 * (sumN v.1.f s.n).toNat + (cond v.2 1 0)) (fun z => ∃ y, z = .inl y ∧ RS m s y ∧ Cons m y.f) (fun v hv => by
      obtain ⟨u, f⟩ := v
      obtain ⟨h1, h2⟩ := hv
      dsimp only at h1 h2 ⊢
      unfold ref03_Least_l10_step
      cases f with
      | false => rw [get_f rfl]; exact ⟨_, rfl, _, rfl, h1, h2 rfl⟩
      | true =>
        obtain ⟨u', f', g, k1, k2⟩ := l13_v ok hn h1
        rw [get_t rfl, get_sum g]
        have nn : 0 ≤ sumN u'.f s.n := sumN_nn fun i hi => (k1.ts i (by rw [k1.n]; exact hi)).1
        rcases k2 with ⟨rfl, rfl, r⟩ | ⟨rfl, r⟩
        · exact ⟨_, rfl, ⟨k1, fun _ => r⟩, by dsimp only [cond]; omega⟩
        · exact ⟨_, rfl, ⟨k1, fun q => by cases q⟩, by dsimp only [cond]; omega⟩)
    (s, true) ⟨⟨rfl, ts, fun _ _ => Int.le_refl _, fun φ h _ => h⟩, fun q => by cases q⟩
  obtain ⟨z, hz, y, rfl, y1, y2⟩ := key
  exact ⟨y, by rw [ref03_Least_l10_eq]; exact hz, y1, y2⟩
def gBad (s : Sq Int) (i : Nat) : Option Unit := if odd (s.f i) then some () else none
theorem ref03_l4_v (s : Sq Int) (P : Sq SPlace) (R : Sq SRoad) (h : s.n ≤ 1000000) : ref03_Least_l4 s P R 0 = some (sumO (firstN (gBad s) s.n 0)) := by
  rw [ref03_Least_l4_eq, ← sumO_eq]
  refine loop_first (step := fun v => ref03_Least_l4_step s P R v) (gBad s) (fun i hi => ?_) ?_ s.n 0 (Nat.zero_add _)
  · unfold ref03_Least_l4_step gBad
    rw [get_t (dlt hi), get_t (dix hi), toNat_nat, wr_next (by omega)]
    by_cases c1 : s.f i < 0
    · rw [get_t (decide_eq_true c1), if_pos (show odd (s.f i) from Or.inl c1)]; rfl
    · rw [get_f (decide_eq_false c1), get_t (dix hi)]
      by_cases c2 : s.f i > 1099511627776
      · rw [get_t (decide_eq_true c2), if_pos (show odd (s.f i) from Or.inr c2)]; rfl
      · rw [get_f (decide_eq_false c2), if_neg fun q : odd (s.f i) => q.elim c1 c2]; rfl
  · unfold ref03_Least_l4_step
    rw [get_f (dge (Nat.le_refl _))]; rfl
theorem firstN_hit {B : Type} {g : Nat → Option B} : ∀ {k i j : Nat}, i ≤ j → j < i + k → (g j).isSome = true → ∃ b, firstN g k i = some b := by
  intro k
  induction k with
  | zero => intro i j h1 h2; omega
  | succ k ih =>
    intro i j h1 h2 h
    unfold firstN
    cases hg : g i with
    | some b => exact ⟨b, rfl⟩
    | none =>
      by_cases hij : j = i
      · rw [hij, hg] at h; cases h
      · exact ih (i := i + 1) (j := j) (by omega) (by omega) h
/-- The program and the document find the same least times. -/
theorem least_same {m : SMine} (ok : MineOK m) (s : Sq Int) : ∃ a b, walk_Least m s = some a ∧ ref03_Least m s = some b ∧ a.n = b.n ∧ a.n ≤ 64 ∧ ∀ i, i < a.n → a.f i = b.f i := by
  have np := ok.np
  have hv : plan_Valid m = some true := by rw [plan_Valid_v, decide_eq_true ((mineE_ok m).2 ok)]
  have hr : ref01_Check m = some 0 := by rw [ref01_Check_v, (mineE_ok m).2 ok]
  by_cases hn : s.n = m.Places.n
  · by_cases ts : TsOK s
    · have L := leastP_ok ok hn ts
      obtain ⟨t, e, h1, h2⟩ := l10_v ok hn ts
      refine ⟨leastP m s, t, walk_Least_v ok hn ts, ?_, by rw [L.n, h1.n], by rw [L.n]; omega, fun i hi => ?_⟩
      · rw [ref03_Least_eq]; unfold ref03_Least_t
        have hf : firstN (gBad s) s.n 0 = none := firstN_no fun j _ hj => by
          have := ts j (by omega)
          unfold gBad
          rw [if_neg (fun q : odd (s.f j) => by unfold odd at q; omega)]
        rw [get_bind hr, get_f (b := (0 : Int) != 0) rfl, get_f (by simp [hn]), get_sum (ref03_l4_v s _ _ (by omega)), hf]
        show (DT.ite _ _ _).get = _
        rw [get_t (decide_eq_true ⟨by omega, by omega⟩), get_sum e]; rfl
      · rw [L.n] at hi
        refine Int.le_antisymm ?_ ?_
        · exact h1.ge (fun v => (leastP m s).f v) L.le L.cons i hi
        · exact L.ge t.f h1.le h2 i hi
    · obtain ⟨x, hx⟩ := Classical.not_forall.1 ts
      obtain ⟨x1, x2⟩ := Classical.not_imp.1 hx
      have hodd : odd (s.f x) := by unfold odd; omega
      refine ⟨Sq.mk 0 (fun _ => 0), Sq.mk 0 (fun _ => 0), ?_, ?_, rfl, Nat.zero_le _, fun _ _ => rfl⟩
      · rw [walk_Least_eq]; unfold walk_Least_t
        obtain ⟨b, hb⟩ := firstN_hit (g := gOdd s) (k := s.n) (i := 0) (j := x) (Nat.zero_le _) (by omega) (by unfold gOdd; rw [if_pos hodd]; rfl)
        obtain ⟨j, _, _, e⟩ := firstN_mem hb
        have hc : slices_ContainsFunc s = some true := by
          rw [slices_ContainsFunc_eq]; unfold slices_ContainsFunc_t
          have e2 : slices_IndexFunc s = some b := by
            rw [slices_IndexFunc_eq]; unfold slices_IndexFunc_t
            rw [get_sum (slices_IndexFunc_l2_v s (by omega)), hb]; rfl
          rw [get_bind e2]
          unfold gOdd at e
          split at e
          · injection e with e
            subst e
            exact congrArg some (decide_eq_true (by omega))
          · cases e
        rw [get_bind hv, get_f (b := !true) rfl, get_f (by simp [hn]), get_bind hc, get_t rfl]; rfl
      · rw [ref03_Least_eq]; unfold ref03_Least_t
        obtain ⟨b, hb⟩ := firstN_hit (g := gBad s) (k := s.n) (i := 0) (j := x) (Nat.zero_le _) (by omega) (by unfold gBad; rw [if_pos hodd]; rfl)
        rw [get_bind hr, get_f (b := (0 : Int) != 0) rfl, get_f (by simp [hn]), get_sum (ref03_l4_v s _ _ (by omega)), hb]; rfl
  · refine ⟨Sq.mk 0 (fun _ => 0), Sq.mk 0 (fun _ => 0), ?_, ?_, rfl, Nat.zero_le _, fun _ _ => rfl⟩
    · rw [walk_Least_eq]; unfold walk_Least_t
      rw [get_bind hv, get_f (b := !true) rfl, get_t (by simp; omega)]; rfl
    · rw [ref03_Least_eq]; unfold ref03_Least_t
      rw [get_bind hr, get_f (b := (0 : Int) != 0) rfl, get_t (by simp; omega)]; rfl
/-! ### Within a time -/
def wv (u : Int) (z : Sq Int) : Nat → Sq Int
  | 0 => Sq.mk 0 (fun _ => (0 : Int))
  | i + 1 => if z.f i < 1099511627776 ∧ z.f i ≤ u then Sq.mk ((wv u z i).n + 1) (fun k0 => (cond (Nat.blt k0 (wv u z i).n) ((wv u z i).f k0) (i : Int))) else wv u z i
theorem wv_n (u : Int) (z : Sq Int) (i : Nat) : (wv u z i).n ≤ i := by
  induction i with
  | zero => exact Nat.le_refl _
  | succ i ih =>
    unfold wv
    split
    · show (wv u z i).n + 1 ≤ i + 1; omega
    · omega
theorem wv_congr {u : Int} {z z' : Sq Int} : ∀ i, (∀ k, k < i → z.f k = z'.f k) → wv u z i = wv u z' i := by
  intro i
  induction i with
  | zero => intro _; rfl
  | succ i ih =>
    intro h
    unfold wv
    rw [ih fun k hk => h k (by omega), h i (by omega)]
theorem walk_Within_l3_v (u : Int) (z : Sq Int) (h : z.n ≤ 1000) : walk_Within_l3 u z (Sq.mk 0 (fun _ => (0 : Int))) 0 = some (.inl (wv u z z.n)) := by
  rw [walk_Within_l3_eq]
  refine (loop_seq (step := fun v : (Sq Int) × Int => walk_Within_l3_step u z v.1 v.2) (fun i => (wv u z i, (i : Int))) z.n (z := .l (wv u z z.n)) (fun i hi => ?_) ?_)
  · have hn := wv_n u z i
    unfold walk_Within_l3_step
    dsimp only
    rw [get_t (dlt hi), get_t (dix hi), toNat_nat, wr_next (by omega)]
    show _ = some (LR.next (wv u z (i + 1), ((i + 1 : Nat) : Int)))
    rw [wv]
    by_cases c1 : z.f i < 1099511627776
    · rw [get_t (decide_eq_true c1)]
      by_cases c2 : z.f i ≤ u
      · rw [get_t (decide_eq_true c2), get_t (decide_eq_true ⟨by omega, by omega⟩), if_pos ⟨c1, c2⟩]; rfl
      · rw [get_f (decide_eq_false c2), if_neg fun q => c2 q.2]; rfl
    · rw [get_f (decide_eq_false c1), if_neg fun q => c1 q.1]; rfl
  · unfold walk_Within_l3_step
    rw [get_f (dge (Nat.le_refl _))]; rfl
theorem ref03_Within_l4_v (u : Int) (z : Sq Int) (h : z.n ≤ 1000) : ref03_Within_l4 u z (Sq.mk 0 (fun _ => (0 : Int))) 0 = some (.inl (wv u z z.n)) := by
  rw [ref03_Within_l4_eq]
  refine (loop_seq (step := fun v : (Sq Int) × Int => ref03_Within_l4_step u z v.1 v.2) (fun i => (wv u z i, (i : Int))) z.n (z := .l (wv u z z.n)) (fun i hi => ?_) ?_)
  · have hn := wv_n u z i
    unfold ref03_Within_l4_step
    dsimp only
    rw [get_t (dlt hi), get_t (dix hi), toNat_nat, wr_next (by omega)]
    show _ = some (LR.next (wv u z (i + 1), ((i + 1 : Nat) : Int)))
    rw [wv]
    by_cases c1 : z.f i < 1099511627776
    · rw [get_t (decide_eq_true c1), get_t (dix hi)]
      by_cases c2 : z.f i ≤ u
      · rw [get_t (decide_eq_true c2), get_t (decide_eq_true ⟨by omega, by omega⟩), if_pos ⟨c1, c2⟩]; rfl
      · rw [get_f (decide_eq_false c2), if_neg fun q => c2 q.2]; rfl
    · rw [get_f (decide_eq_false c1), if_neg fun q => c1 q.1]; rfl
  · unfold ref03_Within_l4_step
    rw [get_f (dge (Nat.le_refl _))]; rfl
theorem within_same {m : SMine} (ok : MineOK m) (s : Sq Int) (u : Int) : ∃ a, walk_Within m s u = some a ∧ ref03_Within m s u = some a ∧ a.n ≤ 64 := by
  obtain ⟨a, b, h1, h2, h3, h4, h5⟩ := least_same ok s
  refine ⟨wv u a a.n, ?_, ?_, Nat.le_trans (wv_n _ _ _) h4⟩
  · rw [walk_Within_eq]; unfold walk_Within_t
    rw [get_bind h1, get_sum (walk_Within_l3_v u a (by omega))]; rfl
  · rw [ref03_Within_eq]; unfold ref03_Within_t
    rw [get_bind h2, get_sum (ref03_Within_l4_v u b (by omega)), ← h3, ← wv_congr a.n h5]; rfl
theorem walkLeast_true (codes : Sq Int) (hb : ∀ k, 0 ≤ codes.f k ∧ codes.f k ≤ 255) (raw : Sq Int) (u : Int) : (law03_WalkLeast_t codes raw u).get = some true := by
  obtain ⟨c, e0, hc⟩ := New_ex codes hb
  obtain ⟨m, z, e1, hm, zb⟩ := Codes_Mine_at hc
  have ok := hm.ok
  have n1 := hm.n1
  obtain ⟨l, b, e2, _⟩ := times_ex (hc.at zb.1 zb.2) (m := m) (by omega)
  obtain ⟨w, ew, _⟩ := Mod_ex u 900 (by omega)
  unfold law03_WalkLeast_t
  rw [get_bind e0, get_bind e1, get_bind e2, get_bind ew]
  have hl : ∀ x : Sq (Sq Int), x.n = 2 → law03_WalkLeast_l6 u w m.Places m.Roads x 0 = some (.inl ()) := by
    intro x hx
    rw [law03_WalkLeast_l6_eq]
    refine (loop_first (B := Unit) (step := fun v => law03_WalkLeast_l6_step u w m.Places m.Roads x v) (n := 2) (fun _ => none) (fun i hi => ?_) ?_ 2 0 (Nat.zero_add _)).trans ?_
    · obtain ⟨a, b, h1, h2, h3, h4, h5⟩ := least_same ok (x.f i)
      obtain ⟨a2, p1, p2, p3⟩ := within_same ok (x.f i) w
      obtain ⟨a3, q1, q2, q3⟩ := within_same ok (x.f i) u
      unfold law03_WalkLeast_l6_step
      rw [get_t (decide_eq_true (by omega)), get_t (dix (by omega)), toNat_nat, get_bind (o := walk_Least m _) h1, get_bind (o := ref03_Least m _) h2, get_bind (ref01_Ints_same (by omega) h3 h5), get_f (b := !true) rfl,
        get_bind (o := walk_Within m _ _) p1, get_bind (o := ref03_Within m _ _) p2, get_bind (ref01_Ints_same (by omega) rfl fun _ _ => rfl), get_f (b := !true) rfl,
        get_bind (o := walk_Within m _ _) q1, get_bind (o := ref03_Within m _ _) q2, get_bind (ref01_Ints_same (by omega) rfl fun _ _ => rfl), get_f (b := !true) rfl, wr_next (by omega)]; rfl
    · unfold law03_WalkLeast_l6_step
      rw [get_f (decide_eq_false (by omega))]; rfl
    · rw [firstN_no fun _ _ _ => rfl]
  rw [get_sum (hl _ rfl)]
  dsimp only [Sum.elim]
  rw [get_bind awake3_true]; rfl
end Go.Proofs.YtppidelikicnaaaDoor.Ab
