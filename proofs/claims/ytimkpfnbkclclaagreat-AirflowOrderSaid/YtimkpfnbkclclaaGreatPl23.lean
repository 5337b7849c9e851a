/- A part of the proof, what is needed of it. -/
import Derived.Test.YtimkpfnbkclclaaGreatPl11
import Derived.Test.YtimkpfnbkclclaaGreatPl15
import Derived.Test.YtimkpfnbkclclaaGreatPl17
import Derived.Test.YtimkpfnbkclclaaGreatPl18
import Derived.Test.YtimkpfnbkclclaaGreatPl22
namespace Go.Proofs.YtimkpfnbkclclaaGreat.Ab
noncomputable section
open Go
def noS : qB := ⟨-1125899906842624, 1125899906842624⟩
theorem aql : uE = some noS := by rw [afZ]; rfl
def SnOK (s : qG) : Prop := (1 ≤ s.Kind ∧ s.Kind ≤ 6) ∧ (0 ≤ s.Address ∧ s.Address ≤ 255) ∧ 0 ≤ s.Target ∧ ((-1000000 ≤ s.Offset ∧ s.Offset ≤ 1000000) ∧ (-1000000 ≤ s.Scale ∧ s.Scale ≤ 1000000)) ∧ ((0 ≤ s.Error ∧ s.Error ≤ 1000000) ∧ (0 ≤ s.Drift ∧ s.Drift ≤ 1000000)) ∧ 1 ≤ s.Life ∧ s.Life ≤ 1000000
theorem aqM (lo hi : Int) (l : Sq Int) (h : l.n ≤ 1000) : OP lo hi l 0 = some (sumO (bn (fun i => if lo ≤ l.f i ∧ l.f i ≤ hi then none else some ()) l.n 0)) := by
  rw [aeO, ← aiX]
  refine oM (step := fun v => Hg lo hi l v) (n := l.n) (fun i => if lo ≤ l.f i ∧ l.f i ≤ hi then none else some ()) (fun i hi' => ?_) ?_ l.n 0 (Nat.zero_add _)
  · unfold Hg
    rw [qo (dlt hi'), qo (dix hi'), pI]
    by_cases c : l.f i < lo
    · rw [qo (decide_eq_true c), if_neg (by omega)]; rfl
    · rw [qm (decide_eq_false c)]
      by_cases d : l.f i > hi
      · rw [qo (decide_eq_true d), if_neg (by omega)]; rfl
      · rw [qm (decide_eq_false d), if_pos (by omega), qc (by omega)]; rfl
  · unfold Hg
    rw [qm (dge (Nat.le_refl _))]; rfl
theorem aqL (lo hi x : Int) : Dl lo hi (Sq.mk 1 (fun _ => x)) = some (decide (lo ≤ x ∧ x ≤ hi)) := by
  rw [agH]; unfold Ru
  rw [pV (aqM lo hi _ (show 1 ≤ 1000 by omega))]
  by_cases c : lo ≤ x ∧ x ≤ hi
  · rw [decide_eq_true c, oL fun j _ _ => if_pos c]; rfl
  · rw [decide_eq_false c, show bn (fun _ => if lo ≤ x ∧ x ≤ hi then none else some ()) 1 0 = some () by simp only [bn, if_neg c]]; rfl
theorem aq4 (lo hi x y : Int) : Dl lo hi (Sq.mk 2 (fun k => cond (Nat.beq k 0) x y)) = some (decide ((lo ≤ x ∧ x ≤ hi) ∧ (lo ≤ y ∧ y ≤ hi))) := by
  rw [agH]; unfold Ru
  rw [pV (aqM lo hi _ (show 2 ≤ 1000 by omega))]
  have e0 : (cond (Nat.beq 0 0) x y) = x := rfl
  have e1 : (cond (Nat.beq (0 + 1) 0) x y) = y := rfl
  by_cases c : lo ≤ x ∧ x ≤ hi
  · by_cases d : lo ≤ y ∧ y ≤ hi
    · rw [decide_eq_true ⟨c, d⟩, show bn (fun k => if lo ≤ (cond (Nat.beq k 0) x y) ∧ (cond (Nat.beq k 0) x y) ≤ hi then none else some ()) 2 0 = none by simp only [bn, e0, e1, if_pos c, if_pos d]]; rfl
    · rw [decide_eq_false fun q => d q.2, show bn (fun k => if lo ≤ (cond (Nat.beq k 0) x y) ∧ (cond (Nat.beq k 0) x y) ≤ hi then none else some ()) 2 0 = some () by simp only [bn, e0, e1, if_pos c, if_neg d]]; rfl
  · rw [decide_eq_false fun q => c q.1, show bn (fun k => if lo ≤ (cond (Nat.beq k 0) x y) ∧ (cond (Nat.beq k 0) x y) ≤ hi then none else some ()) 2 0 = some () by simp only [bn, e0, if_neg c]]; rfl
theorem aqI (s : qG) : ∃ e, ZA s = some e ∧ (e = 0 ↔ SnOK s) := by
  rw [ag8]; unfold Ux
  rw [get_bind (aqL _ _ _)]
  by_cases c1 : 1 ≤ s.Kind ∧ s.Kind ≤ 6
  · rw [qm (by rw [decide_eq_true c1]; rfl), get_bind (aqL _ _ _)]
    by_cases c2 : 0 ≤ s.Address ∧ s.Address ≤ 255
    · rw [qm (by rw [decide_eq_true c2]; rfl)]
      by_cases c3 : s.Target < 0
      · rw [qo (decide_eq_true c3)]
        exact ⟨1, rfl, fun e => by omega, fun q => absurd q.2.2.1 (by omega)⟩
      · rw [qm (decide_eq_false c3), get_bind (aq4 _ _ _ _)]
        by_cases c4 : (-1000000 ≤ s.Offset ∧ s.Offset ≤ 1000000) ∧ (-1000000 ≤ s.Scale ∧ s.Scale ≤ 1000000)
        · rw [qm (by rw [decide_eq_true c4]; rfl), get_bind (aq4 _ _ _ _)]
          by_cases c5 : (0 ≤ s.Error ∧ s.Error ≤ 1000000) ∧ (0 ≤ s.Drift ∧ s.Drift ≤ 1000000)
          · rw [qm (by rw [decide_eq_true c5]; rfl), get_bind (aqL _ _ _)]
            by_cases c6 : 1 ≤ s.Life ∧ s.Life ≤ 1000000
            · rw [qm (by rw [decide_eq_true c6]; rfl)]
              exact ⟨0, rfl, fun _ => ⟨c1, c2, by omega, c4, c5, c6⟩, fun _ => rfl⟩
            · rw [qo (by rw [decide_eq_false c6]; rfl)]
              exact ⟨1, rfl, fun e => by omega, fun q => absurd q.2.2.2.2.2 c6⟩
          · rw [qo (by rw [decide_eq_false c5]; rfl)]
            exact ⟨1, rfl, fun e => by omega, fun q => absurd q.2.2.2.2.1 c5⟩
        · rw [qo (by rw [decide_eq_false c4]; rfl)]
          exact ⟨1, rfl, fun e => by omega, fun q => absurd q.2.2.2.1 c4⟩
    · rw [qo (by rw [decide_eq_false c2]; rfl)]
      exact ⟨1, rfl, fun e => by omega, fun q => absurd q.2.1 c2⟩
  · rw [qo (by rw [decide_eq_false c1]; rfl)]
    exact ⟨5, rfl, fun e => by omega, fun q => absurd q.1 c1⟩
def MsOK (m : qE) (t : Int) : Prop := (-1 ≤ m.Time ∧ m.Time ≤ 2147483648) ∧ (-1 ≤ t ∧ t ≤ 2147483648) ∧ (-1125899906842624 ≤ m.Span.Low ∧ m.Span.Low ≤ 1125899906842624) ∧ (-1125899906842624 ≤ m.Span.High ∧ m.Span.High ≤ 1125899906842624)
def Says (s : qG) (m : qE) (t : Int) : Prop := SnOK s ∧ 0 ≤ m.Sensor ∧ ¬ (m.Span.Low = -1125899906842624 ∧ m.Span.High = 1125899906842624) ∧ m.Time ≤ t ∧ t - m.Time ≤ s.Life
def farI (s : qG) (m : qE) (t : Int) : Int := (s.Drift * (t - m.Time) + 999) / 1000
theorem arv {s : qG} {m : qE} {t : Int} (h : Says s m t) : 0 ≤ s.Drift * (t - m.Time) ∧ s.Drift * (t - m.Time) ≤ 1000000000000 ∧ 0 ≤ farI s m t ∧ farI s m t ≤ 1000000001 := by
  obtain ⟨ok, _, _, h1, h2⟩ := h
  have d := ok.2.2.2.2.1.2
  have l := ok.2.2.2.2.2
  have a : 0 ≤ s.Drift * (t - m.Time) := Int.mul_nonneg d.1 (by omega)
  have b : s.Drift * (t - m.Time) ≤ 1000000 * 1000000 := Int.mul_le_mul d.2 (by omega) (by omega) (by omega)
  unfold farI
  omega
open Classical in
def atF (s : qG) (m : qE) (t : Int) : qB := if Says s m t then ⟨m.Span.Low - farI s m t, m.Span.High + farI s m t⟩ else noS
theorem aq3 {x : Int} (h0 : 0 ≤ x) (h1 : x ≤ 9223372036854775807) : IntKind.u64.wrap x = x := by
  rw [IntKind.wrap_u64]; omega
theorem aq6 {s : qG} {m : qE} {t : Int} (k : s.Kind = 3) (h : MsOK m t) : aec s m t = some (atF s m t) := by
  obtain ⟨ht, hn, hl, hh⟩ := h
  rw [aiB]; unfold abE
  obtain ⟨e, ee, he⟩ := aqI s
  rw [get_bind ee]
  by_cases c : e = 0
  · have ok := he.1 c
    rw [qm (by rw [c]; rfl)]
    by_cases c1 : m.Sensor < 0
    · rw [qo (decide_eq_true c1), get_bind aql]
      unfold atF; rw [if_neg fun q => absurd q.2.1 (by omega)]; rfl
    · rw [qm (decide_eq_false c1), get_bind aql]
      by_cases c2 : m.Span.Low = -1125899906842624 ∧ m.Span.High = 1125899906842624
      · rw [qo (by rw [c2.1, c2.2]; rfl), get_bind aql]
        unfold atF; rw [if_neg fun q => q.2.2.1 c2]; rfl
      · rw [qm (by unfold noS; simp; omega)]
        by_cases c3 : t < m.Time
        · rw [qo (decide_eq_true c3), get_bind aql]
          unfold atF; rw [if_neg fun q => absurd q.2.2.2.1 (by omega)]; rfl
        · have l := ok.2.2.2.2.2
          rw [qm (decide_eq_false c3), pJ (x := t - m.Time) (by omega) (by omega), aq3 (x := t - m.Time) (by omega) (by omega), aq3 (x := s.Life) (by omega) (by omega)]
          by_cases c4 : t - m.Time > s.Life
          · rw [qo (decide_eq_true c4), get_bind aql]
            unfold atF; rw [if_neg fun q => absurd q.2.2.2.2 (by omega)]; rfl
          · have sy : Says s m t := ⟨ok, by omega, c2, by omega, by omega⟩
            obtain ⟨f0, f1, f2, f3⟩ := arv sy
            have e1 : UK s m.Span (t - m.Time) = some ⟨m.Span.Low - farI s m t, m.Span.High + farI s m t⟩ := by
              rw [af6]; unfold OW
              rw [qm (by rw [k]; rfl), qm (by rw [k]; rfl), qm (by rw [k]; rfl), qm (by rw [k]; rfl), qm (by rw [k]; rfl), pJ (x := s.Drift * (t - m.Time)) (by omega) (by omega), pJ (x := s.Drift * (t - m.Time) + 999) (by omega) (by omega), Int.tdiv_eq_ediv_of_nonneg (by omega)]
              show some (qB.mk (wr (m.Span.Low - wr (farI s m t))) (wr (m.Span.High + wr (farI s m t)))) = _
              rw [pJ (x := farI s m t) (by omega) (by omega), pJ (by omega) (by omega), pJ (by omega) (by omega)]
            rw [qm (decide_eq_false c4), get_bind e1]
            unfold atF; rw [if_pos sy]; rfl
  · rw [qo (by simp [c]), get_bind aql]
    unfold atF; rw [if_neg fun q => c (he.2 q.1)]; rfl
def aqF (x y : qB) : qB := ⟨if x.Low < y.Low then y.Low else x.Low, if y.High < x.High then y.High else x.High⟩
def aqu (x y : qB) : qB × Bool := if (aqF x y).Low > (aqF x y).High then (noS, false) else (aqF x y, true)
theorem aqQ (x : qB) : ZG x = some (decide (x.Low > x.High)) := by rw [ahb]; rfl
theorem aqZ (x y : qB) : abG (Sq.mk 2 (fun k => (qB.mk (cond (Nat.beq k 0) x.Low y.Low) (cond (Nat.beq k 0) x.High y.High)))) = some (aqu x y) := by
  rw [ahS]; unfold XQ
  have e : UJ (Sq.mk 2 (fun k => (qB.mk (cond (Nat.beq k 0) x.Low y.Low) (cond (Nat.beq k 0) x.High y.High)))) x.Low x.High 0 = some (.inl (if (if x.Low < x.Low then x.Low else x.Low) < y.Low then y.Low else (if x.Low < x.Low then x.Low else x.Low), if y.High < (if x.High < x.High then x.High else x.High) then y.High else (if x.High < x.High then x.High else x.High))) := by
    rw [af5]; exact fV (n := 3) (by kernel_rfl)
  rw [if_neg (Int.lt_irrefl _), if_neg (Int.lt_irrefl _)] at e
  refine (qm rfl).trans ((qo rfl).trans ((pV e).trans ?_))
  dsimp only [Sum.elim]
  rw [get_bind (aqQ _)]
  show (DT.ite (decide ((aqF x y).Low > (aqF x y).High)) _ _).get = some (aqu x y)
  unfold aqu
  by_cases c : (aqF x y).Low > (aqF x y).High
  · rw [qo (decide_eq_true c), get_bind aql, if_pos c]; rfl
  · rw [qm (decide_eq_false c), if_neg c]; rfl
end
end Go.Proofs.YtimkpfnbkclclaaGreat.Ab
namespace Go.Proofs.YtimkpfnbkclclaaGreat.Ab
open Go
theorem am5 {g : Nat → Int} : ∀ {n : Nat}, (∀ i, i < n → g i ≤ 0) → sumN g n ≤ 0 := by
  intro n h
  have := akj (g := g) (g' := fun _ => 0) (n := n) h
  rw [ajY] at this
  exact this
theorem aoM {g : Nat → Int} : ∀ {n : Nat}, (∀ i, i < n → g i ≤ 0) → (∃ i, i < n ∧ g i < 0) → sumN g n < 0 := by
  intro n
  induction n with
  | zero => rintro _ ⟨i, hi, _⟩; omega
  | succ n ih =>
    rintro h ⟨i, hi, hl⟩
    show sumN g n + g n < 0
    have hn := h n (by omega)
    by_cases c : i = n
    · subst c
      have := am5 (g := g) (n := i) fun j hj => h j (by omega)
      omega
    · have := ih (fun j hj => h j (by omega)) ⟨i, by omega, hl⟩
      omega
theorem alz {g : Nat → Int} : ∀ {n : Nat}, (∀ i, i < n → 0 ≤ g i) → 0 ≤ sumN g n := by
  intro n h
  have := akj (g := fun _ => 0) (g' := g) (n := n) h
  rw [ajY] at this
  exact this
theorem ap0 (e : Nat → Int) (A : Nat → Prop) : ∀ n, (∃ i, i < n ∧ A i) → ∃ i, i < n ∧ A i ∧ ∀ j, j < n → A j → e j ≤ e i := by
  intro n
  induction n with
  | zero => rintro ⟨i, hi, _⟩; omega
  | succ n ih =>
    rintro ⟨i, hi, ha⟩
    by_cases c : ∃ i, i < n ∧ A i
    · obtain ⟨k, hk, ak, mk⟩ := ih c
      by_cases an : A n ∧ e k < e n
      · refine ⟨n, by omega, an.1, fun j hj aj => ?_⟩
        by_cases q : j = n
        · subst q; omega
        · have := mk j (by omega) aj; omega
      · refine ⟨k, by omega, ak, fun j hj aj => ?_⟩
        by_cases q : j = n
        · subst q
          have : ¬ e k < e j := fun z => an ⟨aj, z⟩
          omega
        · exact mk j (by omega) aj
    · have hin : i = n := by
        by_cases q : i = n
        · exact q
        · exact absurd ⟨i, by omega, ha⟩ c
      subst hin
      refine ⟨i, by omega, ha, fun j hj aj => ?_⟩
      by_cases q : j = i
      · subst q; omega
      · exact absurd ⟨j, by omega, aj⟩ c
def addR (o : Nat → Bool) (fr to : Nat → Nat) (u v : Nat → Int) (i r : Nat) : Int := if o r = true then (if fr r = i then u r else 0) + (if to r = i then -(v r) else 0) else 0
theorem alM {n m : Nat} {fr to : Nat → Nat} {o : Nat → Bool} {e u v : Nat → Int} {A : Nat → Prop}
    (hfr : ∀ r, r < m → fr r < n) (hto : ∀ r, r < m → to r < n)
    (hA : ∀ r, r < m → o r = true → (A (fr r) ↔ A (to r)))
    (h0 : ∀ r, r < m → o r = true → u r ≤ v r)
    (h1 : ∀ r, r < m → o r = true → e (to r) < e (fr r) → u r < 0)
    (h2 : ∀ r, r < m → o r = true → e (fr r) < e (to r) → 0 < v r)
    (hs : ∀ i, i < n → A i → 0 < e i → 0 ≤ sumN (addR o fr to u v i) m)
    (hc : ∀ C : Nat → Prop, (∀ r, r < m → o r = true → (C (fr r) ↔ C (to r))) → ∀ i, i < n → A i → C i → ∃ j, j < n ∧ A j ∧ C j ∧ e j ≤ 0) :
    ∀ i, i < n → A i → e i ≤ 0 := by
  intro i0 hi0 a0
  obtain ⟨k, hk, ak, mk⟩ := ap0 e A n ⟨i0, hi0, a0⟩
  have mi := mk i0 hi0 a0
  rcases Int.lt_or_le 0 (e k) with hp | hp
  · exfalso
    have dec : ∀ i, Decidable (A i ∧ e i = e k) := fun i => Classical.propDecidable _
    let S : Nat → Prop := fun i => A i ∧ e i = e k
    have total : 0 ≤ sumN (fun i => sumN (fun r => if S i then addR o fr to u v i r else 0) m) n := alz fun i hi => by
      by_cases c : S i
      · have : sumN (fun r => if S i then addR o fr to u v i r else 0) m = sumN (addR o fr to u v i) m := ai0 fun r _ => if_pos c
        rw [this]
        exact hs i hi c.1 (by rw [c.2]; exact hp)
      · have : sumN (fun r => if S i then addR o fr to u v i r else 0) m = sumN (fun _ => 0) m := ai0 fun r _ => if_neg c
        rw [this, ajY]
        exact Int.le_refl _
    rw [aom] at total
    have each : ∀ r, r < m → sumN (fun i => if S i then addR o fr to u v i r else 0) n = if o r = true then (if S (fr r) then u r else 0) + (if S (to r) then -(v r) else 0) else 0 := fun r hr => by
      by_cases c : o r = true
      · rw [if_pos c]
        have e1 : sumN (fun i => if S i then addR o fr to u v i r else 0) n = sumN (fun i => (if S i ∧ fr r = i then u r else 0) + (if S i ∧ to r = i then -(v r) else 0)) n := ai0 fun i _ => by
          unfold addR
          rw [if_pos c]
          by_cases q : S i
          · rw [if_pos q]
            simp only [q, true_and]
          · rw [if_neg q, if_neg (fun z => q z.1), if_neg (fun z => q z.1)]; rfl
        rw [e1, amd, anj (k := fr r) (fun i _ ne => if_neg fun z => ne z.2.symm), anj (k := to r) (fun i _ ne => if_neg fun z => ne z.2.symm), if_pos (hfr r hr), if_pos (hto r hr)]
        simp only [and_true]
      · rw [if_neg c]
        have e1 : sumN (fun i => if S i then addR o fr to u v i r else 0) n = sumN (fun _ => 0) n := ai0 fun i _ => by
          unfold addR
          rw [if_neg c]
          split <;> rfl
        rw [e1, ajY]
    rw [ai0 (g' := fun r => if o r = true then (if S (fr r) then u r else 0) + (if S (to r) then -(v r) else 0) else 0) each] at total
    have le : ∀ r, r < m → (if o r = true then (if S (fr r) then u r else 0) + (if S (to r) then -(v r) else 0) else 0) ≤ 0 ∧ (o r = true → ¬ (S (fr r) ↔ S (to r)) → (if o r = true then (if S (fr r) then u r else 0) + (if S (to r) then -(v r) else 0) else 0) < 0) := fun r hr => by
      by_cases c : o r = true
      · have q0 := h0 r hr c
        have q1 := h1 r hr c
        have q2 := h2 r hr c
        have qa := hA r hr c
        rw [if_pos c]
        by_cases s1 : S (fr r)
        · by_cases s2 : S (to r)
          · rw [if_pos s1, if_pos s2]
            exact ⟨by omega, fun _ z => absurd ⟨fun _ => s2, fun _ => s1⟩ z⟩
          · rw [if_pos s1, if_neg s2]
            have at' := qa.1 s1.1
            have m2 := mk (to r) (hto r hr) at'
            have ne : e (to r) ≠ e k := fun z => s2 ⟨at', z⟩
            have e1 := s1.2
            have := q1 (by omega)
            exact ⟨by omega, fun _ _ => by omega⟩
        · by_cases s2 : S (to r)
          · rw [if_neg s1, if_pos s2]
            have at' := qa.2 s2.1
            have m2 := mk (fr r) (hfr r hr) at'
            have ne : e (fr r) ≠ e k := fun z => s1 ⟨at', z⟩
            have e1 := s2.2
            have := q2 (by omega)
            exact ⟨by omega, fun _ _ => by omega⟩
          · rw [if_neg s1, if_neg s2]
            exact ⟨by omega, fun _ z => absurd ⟨fun y => absurd y s1, fun y => absurd y s2⟩ z⟩
      · rw [if_neg c]
        exact ⟨Int.le_refl _, fun z => absurd z c⟩
    by_cases ex : ∃ r, r < m ∧ o r = true ∧ ¬ (S (fr r) ↔ S (to r))
    · obtain ⟨r, hr, hor, hn⟩ := ex
      have := aoM (n := m) (fun r hr => (le r hr).1) ⟨r, hr, (le r hr).2 hor hn⟩
      omega
    · obtain ⟨j, hj, aj, sj, ej⟩ := hc S (fun r hr hor => Classical.byContradiction fun z => ex ⟨r, hr, hor, z⟩) k hk ak ⟨ak, rfl⟩
      have := sj.2
      omega
  · omega
end Go.Proofs.YtimkpfnbkclclaaGreat.Ab
namespace Go.Proofs.YtimkpfnbkclclaaGreat.Ab
open Go
structure alV (a : SAir) (s : qz) (L H : Sq Int) : Prop where
  r : RtOK a s
  ln : L.n = a.Mine.Places.n
  hn : H.n = a.Mine.Places.n
  lr : ∀ k, k < L.n → -70368744177664 ≤ L.f k ∧ L.f k ≤ 70368744177664
  hr : ∀ k, k < H.n → -70368744177664 ≤ H.f k ∧ H.f k ≤ 70368744177664
  z : ∀ i : Nat, i < a.Mine.Places.n → (a.Mine.Places.f i).Surface = true ∨ ¬ Aw a.Mine i → L.f i = 0 ∧ H.f i = 0
  u : ∀ i : Nat, i < a.Mine.Places.n → (a.Mine.Places.f i).Surface = false → Aw a.Mine i → 0 ≤ NL a s H i (H.f i) ∧ NH a s L i (L.f i) ≤ 0
structure aot (a : SAir) (s : qz) (P Q : Sq Int) : Prop where
  calm : ∀ i, i < a.Mine.Places.n → (a.Mine.Places.f i).Surface = true → P.f i = 0
  dr : ∀ j, j < a.Mine.Roads.n → (a.Mine.Roads.f j).Closed = false → (aiS a s j (Q.f j)).1 ≤ P.f (a.Mine.Roads.f j).From.toNat - P.f (a.Mine.Roads.f j).To.toNat ∧ P.f (a.Mine.Roads.f j).From.toNat - P.f (a.Mine.Roads.f j).To.toNat ≤ (aiS a s j (Q.f j)).2
  cl : ∀ j, j < a.Mine.Roads.n → (a.Mine.Roads.f j).Closed = true → Q.f j = 0
  qb : ∀ j, j < a.Mine.Roads.n → -1048576 ≤ Q.f j ∧ Q.f j ≤ 1048576
  nt : ∀ i : Nat, i < a.Mine.Places.n → (a.Mine.Places.f i).Surface = false → net a.Mine.Roads Q i a.Mine.Roads.n = 0
theorem ane (R : Sq qC) (q : Sq Int) (k : Int) : ∀ n, net R q k n = sumN (fun j => (if (R.f j).From = k then q.f j else 0) - (if (R.f j).To = k then q.f j else 0)) n := by
  intro n
  induction n with
  | zero => rfl
  | succ n ih =>
    rw [alc, ih]
    show _ = sumN _ n + ((if (R.f n).From = k then q.f n else 0) - (if (R.f n).To = k then q.f n else 0))
    omega
theorem ank {f g h : Nat → Int} {n : Nat} (e : ∀ i, i < n → f i + g i = h i) : sumN f n = sumN h n - sumN g n := by
  have := amd f g n
  rw [ai0 e] at this
  omega
theorem aoV {a : SAir} {s : qz} (ok : RtOK a s) {j : Nat} (hj : j < a.Mine.Roads.n) {p q : Int} (q0 : -1048576 ≤ q) (h : p < (aiS a s j q).2) : flL a s j p < q := by
  obtain ⟨_, c⟩ := ak5 ok hj p
  rcases Int.lt_or_le (flL a s j p) q with k | k
  · exact k
  · exact absurd h (c.f q q0 (by omega))
theorem aoU {a : SAir} {s : qz} (ok : RtOK a s) {j : Nat} (hj : j < a.Mine.Roads.n) {p q : Int} (q1 : q ≤ 1048576) (h : (aiS a s j q).1 < p) : q < flH a s j p := by
  obtain ⟨_, c⟩ := ak4 ok hj p
  rcases Int.lt_or_le q (flH a s j p) with k | k
  · exact k
  · have := c.t q k q1
    omega
theorem apP {a : SAir} {s : qz} (ok : RtOK a s) {j : Nat} (hj : j < a.Mine.Roads.n) {p q : Int} (q0 : -1048576 ≤ q) (h : p ≤ (aiS a s j q).2) : flL a s j p ≤ q := by
  obtain ⟨_, c⟩ := ak5 ok hj p
  have ch := c.hi
  rcases Int.lt_or_le q (flL a s j p) with k | k
  · have l := (ajo ok hj (x := q) (y := flL a s j p) (by omega) k (by omega)).2
    have := c.f (flL a s j p) (by omega) (by omega)
    omega
  · exact k
theorem apO {a : SAir} {s : qz} (ok : RtOK a s) {j : Nat} (hj : j < a.Mine.Roads.n) {p q : Int} (q1 : q ≤ 1048576) (h : (aiS a s j q).1 ≤ p) : q ≤ flH a s j p := by
  obtain ⟨_, c⟩ := ak4 ok hj p
  have cl := c.lo
  rcases Int.lt_or_le (flH a s j p) q with k | k
  · have l := (ajo ok hj (x := flH a s j p) (y := q) (by omega) k (by omega)).1
    have := c.t (flH a s j p) (Int.le_refl _) (by omega)
    omega
  · exact k
section
variable {a : SAir} {s : qz} {L H P Q : Sq Int}
theorem alv {m : qI} (ok : aja m) {j : Nat} (hj : j < m.Roads.n) (h : (!(m.Roads.f j).Closed) = true) : Edg m.Roads (((m.Roads.f j).From.toNat : Nat) : Int) (((m.Roads.f j).To.toNat : Nat) : Int) := by
  have re := ai2 ok hj
  refine ⟨j, hj, by simpa using h, .inl ⟨by omega, by omega⟩⟩
theorem alQ (C : Nat → Prop) (hC : ∀ r, r < a.Mine.Roads.n → (!(a.Mine.Roads.f r).Closed) = true → (C (a.Mine.Roads.f r).From.toNat ↔ C (a.Mine.Roads.f r).To.toNat)) {i : Nat} (ha : Aw a.Mine i) (hi : C i) :
    ∃ j, j < a.Mine.Places.n ∧ C j ∧ (a.Mine.Places.f j).Surface = true := by
  obtain ⟨w, w0, w1, c, e⟩ := ha
  refine ⟨w.toNat, by omega, c (fun x => C x.toNat) (fun u v ed hu => ?_) (by rw [pI]; exact hi), e⟩
  obtain ⟨r, hr, ho, h⟩ := ed
  have := hC r hr (by rw [ho]; rfl)
  rcases h with ⟨rfl, rfl⟩ | ⟨rfl, rfl⟩
  · exact this.1 hu
  · exact this.2 hu
theorem alV.above (h : alV a s L H) (f : aot a s P Q) : ∀ i : Nat, i < a.Mine.Places.n → Aw a.Mine i → P.f i ≤ H.f i := by
  have ok := h.r
  have re := fun {j : Nat} (hj : j < a.Mine.Roads.n) => ai2 ok.m hj
  have main := alM (n := a.Mine.Places.n) (m := a.Mine.Roads.n) (fr := fun r => (a.Mine.Roads.f r).From.toNat) (to := fun r => (a.Mine.Roads.f r).To.toNat) (o := fun r => !(a.Mine.Roads.f r).Closed)
    (e := fun i => P.f i - H.f i) (u := fun r => flL a s r (H.f (a.Mine.Roads.f r).From.toNat - H.f (a.Mine.Roads.f r).To.toNat) - Q.f r) (v := fun r => flH a s r (H.f (a.Mine.Roads.f r).From.toNat - H.f (a.Mine.Roads.f r).To.toNat) - Q.f r) (A := fun i => Aw a.Mine (i : Int))
    (fun r hr => by have := re hr; omega) (fun r hr => by have := re hr; omega)
    (fun r hr ho => Aw.edge (alv ok.m hr ho))
    (fun r hr _ => by have := amU ok hr (H.f (a.Mine.Roads.f r).From.toNat - H.f (a.Mine.Roads.f r).To.toNat); omega)
    (fun r hr ho he => by
      have d := f.dr r hr (by simpa using ho)
      have := aoV ok hr (p := H.f (a.Mine.Roads.f r).From.toNat - H.f (a.Mine.Roads.f r).To.toNat) (f.qb r hr).1 (by omega)
      omega)
    (fun r hr ho he => by
      have d := f.dr r hr (by simpa using ho)
      have := aoU ok hr (p := H.f (a.Mine.Roads.f r).From.toNat - H.f (a.Mine.Roads.f r).To.toNat) (f.qb r hr).2 (by omega)
      omega)
    (fun i hi ha he => by
      have ns : (a.Mine.Places.f i).Surface = false := by
        cases e : (a.Mine.Places.f i).Surface with
        | false => rfl
        | true =>
          have h1 := f.calm i hi e
          have h2 := (h.z i hi (.inl e)).2
          omega
      rw [ank (g := fun j => (if (a.Mine.Roads.f j).From = (i : Int) then Q.f j else 0) - (if (a.Mine.Roads.f j).To = (i : Int) then Q.f j else 0)) (h := coL a s H i (H.f i)) fun r hr => ?_, ← ane, f.nt i hi ns]
      · have := (h.u i hi ns ha).1
        unfold NL at this
        omega
      · unfold addR coL
        dsimp only
        have q := re hr
        by_cases ec : (a.Mine.Roads.f r).Closed = true
        · rw [if_neg (show ¬ ((!(a.Mine.Roads.f r).Closed) = true) by rw [ec]; decide), if_pos ec, f.cl r hr ec]
          split <;> split <;> rfl
        · rw [if_pos (show (!(a.Mine.Roads.f r).Closed) = true by simpa using ec), if_neg ec]
          by_cases c1 : (a.Mine.Roads.f r).From = (i : Int)
          · have c2 : ¬ (a.Mine.Roads.f r).To = (i : Int) := by omega
            have e1 : (a.Mine.Roads.f r).From.toNat = i := by omega
            rw [if_pos e1, if_neg (show ¬ (a.Mine.Roads.f r).To.toNat = i by omega), if_pos c1, if_neg c2, if_pos c1, e1]; omega
          · rw [if_neg (show ¬ (a.Mine.Roads.f r).From.toNat = i by omega), if_neg c1, if_neg c1]
            by_cases c2 : (a.Mine.Roads.f r).To = (i : Int)
            · have e1 : (a.Mine.Roads.f r).To.toNat = i := by omega
              rw [if_pos e1, if_pos c2, if_pos c2, e1]; omega
            · rw [if_neg (show ¬ (a.Mine.Roads.f r).To.toNat = i by omega), if_neg c2, if_neg c2]; rfl)
    (fun C hC i _ ha hi => by
      obtain ⟨j, hj, cj, e⟩ := alQ C hC ha hi
      refine ⟨j, hj, .surface (by omega) (by omega) (by rw [pI]; exact e), cj, ?_⟩
      have h1 := f.calm j hj e
      have h2 := (h.z j hj (.inl e)).2
      omega)
  intro i hi ha
  have := main i hi ha
  omega
theorem alV.below (h : alV a s L H) (f : aot a s P Q) : ∀ i : Nat, i < a.Mine.Places.n → Aw a.Mine i → L.f i ≤ P.f i := by
  have ok := h.r
  have re := fun {j : Nat} (hj : j < a.Mine.Roads.n) => ai2 ok.m hj
  have main := alM (n := a.Mine.Places.n) (m := a.Mine.Roads.n) (fr := fun r => (a.Mine.Roads.f r).From.toNat) (to := fun r => (a.Mine.Roads.f r).To.toNat) (o := fun r => !(a.Mine.Roads.f r).Closed)
    (e := fun i => L.f i - P.f i) (u := fun r => Q.f r - flH a s r (L.f (a.Mine.Roads.f r).From.toNat - L.f (a.Mine.Roads.f r).To.toNat)) (v := fun r => Q.f r - flL a s r (L.f (a.Mine.Roads.f r).From.toNat - L.f (a.Mine.Roads.f r).To.toNat)) (A := fun i => Aw a.Mine (i : Int))
    (fun r hr => by have := re hr; omega) (fun r hr => by have := re hr; omega)
    (fun r hr ho => Aw.edge (alv ok.m hr ho))
    (fun r hr _ => by have := amU ok hr (L.f (a.Mine.Roads.f r).From.toNat - L.f (a.Mine.Roads.f r).To.toNat); omega)
    (fun r hr ho he => by
      have d := f.dr r hr (by simpa using ho)
      have := aoU ok hr (p := L.f (a.Mine.Roads.f r).From.toNat - L.f (a.Mine.Roads.f r).To.toNat) (f.qb r hr).2 (by omega)
      omega)
    (fun r hr ho he => by
      have d := f.dr r hr (by simpa using ho)
      have := aoV ok hr (p := L.f (a.Mine.Roads.f r).From.toNat - L.f (a.Mine.Roads.f r).To.toNat) (f.qb r hr).1 (by omega)
      omega)
    (fun i hi ha he => by
      have ns : (a.Mine.Places.f i).Surface = false := by
        cases e : (a.Mine.Places.f i).Surface with
        | false => rfl
        | true =>
          have h1 := f.calm i hi e
          have h2 := (h.z i hi (.inl e)).1
          omega
      rw [ank (g := coH a s L i (L.f i)) (h := fun j => (if (a.Mine.Roads.f j).From = (i : Int) then Q.f j else 0) - (if (a.Mine.Roads.f j).To = (i : Int) then Q.f j else 0)) fun r hr => ?_, ← ane, f.nt i hi ns]
      · have := (h.u i hi ns ha).2
        unfold NH at this
        omega
      · unfold addR coH
        dsimp only
        have q := re hr
        by_cases ec : (a.Mine.Roads.f r).Closed = true
        · rw [if_neg (show ¬ ((!(a.Mine.Roads.f r).Closed) = true) by rw [ec]; decide), if_pos ec, f.cl r hr ec]
          split <;> split <;> rfl
        · rw [if_pos (show (!(a.Mine.Roads.f r).Closed) = true by simpa using ec), if_neg ec]
          by_cases c1 : (a.Mine.Roads.f r).From = (i : Int)
          · have c2 : ¬ (a.Mine.Roads.f r).To = (i : Int) := by omega
            have e1 : (a.Mine.Roads.f r).From.toNat = i := by omega
            rw [if_pos e1, if_neg (show ¬ (a.Mine.Roads.f r).To.toNat = i by omega), if_pos c1, if_pos c1, if_neg c2, e1]; omega
          · rw [if_neg (show ¬ (a.Mine.Roads.f r).From.toNat = i by omega), if_neg c1, if_neg c1]
            by_cases c2 : (a.Mine.Roads.f r).To = (i : Int)
            · have e1 : (a.Mine.Roads.f r).To.toNat = i := by omega
              rw [if_pos e1, if_pos c2, if_pos c2, e1]; omega
            · rw [if_neg (show ¬ (a.Mine.Roads.f r).To.toNat = i by omega), if_neg c2, if_neg c2]; rfl)
    (fun C hC i _ ha hi => by
      obtain ⟨j, hj, cj, e⟩ := alQ C hC ha hi
      refine ⟨j, hj, .surface (by omega) (by omega) (by rw [pI]; exact e), cj, ?_⟩
      have h1 := f.calm j hj e
      have h2 := (h.z j hj (.inl e)).1
      omega)
  intro i hi ha
  have := main i hi ha
  omega
theorem alV.flow (h : alV a s L H) (f : aot a s P Q) {j : Nat} (hj : j < a.Mine.Roads.n) (ho : (a.Mine.Roads.f j).Closed = false) (ha : Aw a.Mine (a.Mine.Roads.f j).From) :
    flL a s j (L.f (a.Mine.Roads.f j).From.toNat - H.f (a.Mine.Roads.f j).To.toNat) ≤ Q.f j ∧ Q.f j ≤ flH a s j (H.f (a.Mine.Roads.f j).From.toNat - L.f (a.Mine.Roads.f j).To.toNat) := by
  have ok := h.r
  have re := ai2 ok.m hj
  have ed := alv ok.m hj (by rw [ho]; rfl)
  rw [show (((a.Mine.Roads.f j).From.toNat : Nat) : Int) = (a.Mine.Roads.f j).From by omega, show (((a.Mine.Roads.f j).To.toNat : Nat) : Int) = (a.Mine.Roads.f j).To by omega] at ed
  have hb := (Aw.edge ed).1 ha
  have d := f.dr j hj ho
  have q := f.qb j hj
  have ha' : Aw a.Mine (((a.Mine.Roads.f j).From.toNat : Nat) : Int) := by rw [show (((a.Mine.Roads.f j).From.toNat : Nat) : Int) = (a.Mine.Roads.f j).From by omega]; exact ha
  have hb' : Aw a.Mine (((a.Mine.Roads.f j).To.toNat : Nat) : Int) := by rw [show (((a.Mine.Roads.f j).To.toNat : Nat) : Int) = (a.Mine.Roads.f j).To by omega]; exact hb
  have a1 := h.above f _ (show (a.Mine.Roads.f j).From.toNat < a.Mine.Places.n by omega) ha'
  have a2 := h.below f _ (show (a.Mine.Roads.f j).From.toNat < a.Mine.Places.n by omega) ha'
  have b1 := h.above f _ (show (a.Mine.Roads.f j).To.toNat < a.Mine.Places.n by omega) hb'
  have b2 := h.below f _ (show (a.Mine.Roads.f j).To.toNat < a.Mine.Places.n by omega) hb'
  exact ⟨apP ok hj q.1 (by omega), apO ok hj q.2 (by omega)⟩
end
end Go.Proofs.YtimkpfnbkclclaaGreat.Ab
