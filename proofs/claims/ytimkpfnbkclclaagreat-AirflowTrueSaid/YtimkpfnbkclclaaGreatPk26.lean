/- A part of the proof, what is needed of it. -/
import Derived.Test.YtimkpfnbkclclaaGreatPk19
import Derived.Test.YtimkpfnbkclclaaGreatPk24
import Derived.Test.YtimkpfnbkclclaaGreatPk25
namespace Go.Proofs.YtimkpfnbkclclaaGreat.Ab
open Go
def ajL (f : Int → Int) (own : Int) (r : Int × Bool) : Prop := (r.2 = true ∧ own ≤ r.1 ∧ r.1 ≤ 70368744177664 ∧ f r.1 ≥ 0 ∧ ∀ x, own ≤ x → x < r.1 → f x < 0) ∨ (r = (0, false) ∧ ∀ x, own ≤ x → x ≤ 70368744177664 → f x < 0)
def ai5 (f : Int → Int) (own : Int) (r : Int × Bool) : Prop := (r.2 = true ∧ r.1 ≤ own ∧ -70368744177664 ≤ r.1 ∧ f r.1 ≤ 0 ∧ ∀ x, x ≤ own → r.1 < x → f x > 0) ∨ (r = (0, false) ∧ ∀ x, x ≤ own → -70368744177664 ≤ x → f x > 0)
structure ajc (P l : Sq Int) (pl : Int) : Prop where
  n : l.n = P.n
  f : ∀ k : Nat, k ≠ pl.toNat → l.f k = P.f k
theorem ajc.set {P l : Sq Int} {pl : Int} (h : ajc P l pl) (v : Int) : ajc P ⟨l.n, fun k => cond (Nat.beq k pl.toNat) v (l.f k)⟩ pl :=
  ⟨h.n, fun k hk => by dsimp only; rw [ajM hk]; exact h.f k hk⟩
theorem ajc.ok {a : SAir} {P l : Sq Int} {pl : Int} (h : ajc P l pl) (hP : aiV a P) {v : Int} (v0 : -70368744177664 ≤ v) (v1 : v ≤ 70368744177664) : aiV a ⟨l.n, fun k => cond (Nat.beq k pl.toNat) v (l.f k)⟩ := by
  have hn := h.n
  refine ⟨by rw [← hP.n]; exact hn, fun k hk => ?_⟩
  dsimp only at hk ⊢
  by_cases c : k = pl.toNat
  · rw [ajw c]; exact ⟨v0, v1⟩
  · rw [ajM c]
    show -70368744177664 ≤ l.f k ∧ l.f k ≤ 70368744177664
    rw [h.f k c]; exact hP.f k (by omega)
theorem alF {a : SAir} {s : qz} (ok : RtOK a s) {P l : Sq Int} (hP : aiV a P) {pl : Int} (p0 : 0 ≤ pl) (h : ajc P l pl) {v : Int} (v0 : -70368744177664 ≤ v) (v1 : v ≤ 70368744177664) :
    G6 a s ⟨l.n, fun k => cond (Nat.beq k pl.toNat) v (l.f k)⟩ pl = some (NL a s P pl v) := by
  rw [ajz ok (h.ok hP v0 v1) (p := v) (by dsimp only; rw [ajw rfl]; rfl), (ao6 ok (P' := P) pl v fun k hk => (h.set v).f k (by omega)).1]
theorem aov {a : SAir} {s : qz} (ok : RtOK a s) {P : Sq Int} (hP : aiV a P) {pl : Int} (p0 : 0 ≤ pl) (p1 : pl < P.n) {own : Int} (o0 : -70368744177664 ≤ own) (o1 : own ≤ 70368744177664) (hf : NL a s P pl own < 0) :
    ∃ z, abl pl a.Mine.Places a.Mine.Roads a.Fans a.Doors s.Fans s.Doors own P 1 = some z ∧ ((∃ y : Int × Sq Int, z = .inl y ∧ own ≤ y.1 ∧ y.1 < (y.2.f pl.toNat) ∧ (y.2.f pl.toNat) ≤ 70368744177664 ∧ NL a s P pl y.1 < 0 ∧ NL a s P pl (y.2.f pl.toNat) ≥ 0 ∧ ajc P y.2 pl) ∨ (∃ y, z = .inr y) ∧ ∀ x, own ≤ x → x ≤ 70368744177664 → NL a s P pl x < 0) := by
  rw [ahG]
  refine pY (step := fun v : Int × Sq Int × Int => OI pl a.Mine.Places a.Mine.Roads a.Fans a.Doors s.Fans s.Doors v.1 v.2.1 v.2.2)
    (fun v => own ≤ v.1 ∧ v.1 ≤ 70368744177664 ∧ v.2.2 = (v.1 - own) + 1 ∧ NL a s P pl v.1 < 0 ∧ ajc P v.2.1 pl) (fun v => ((70368744177664 - v.1)).toNat) _ (fun v hv => ?_) (own, P, 1) ⟨by dsimp only; omega, by dsimp only; omega, by dsimp only; omega, hf, rfl, fun _ _ => rfl⟩
  obtain ⟨low, l, st⟩ := v
  obtain ⟨h1, h2, h3, h4, h5⟩ := hv
  dsimp only at h1 h2 h3 h4 h5 ⊢
  have hn := h5.n
  unfold OI
  have ew : wr ((low + st)) = (low + st) := pJ (by omega) (by omega)
  have e2 : wr (st * 2) = st * 2 := pJ (by omega) (by omega)
  rw [ew]
  generalize hhi : (if 70368744177664 < ((low + st)) then 70368744177664 else (low + st) : Int) = hi
  have bh : low ≤ hi ∧ hi ≤ 70368744177664 ∧ (hi ≠ 70368744177664 → hi = (low + st)) := by
    subst hhi
    split <;> omega
  have eL := alF ok hP p0 h5 (v := hi) (by omega) (by omega)
  rw [qo (decide_eq_true ⟨p0, by omega⟩), get_bind eL]
  have ec : ∀ x : Int, cond (Nat.beq pl.toNat pl.toNat) hi x = hi := fun x => by rw [ajw rfl]; rfl
  by_cases c : NL a s P pl hi ≥ 0
  · rw [qo (decide_eq_true c)]
    refine ⟨_, rfl, .inl ⟨_, rfl, h1, ?_, ?_, h4, ?_, h5.set hi⟩⟩
    · dsimp only
      rw [ec]
      rcases Int.lt_or_le low hi with d | d
      · omega
      · have := (akT ok P pl (show hi ≤ low by omega)).1; omega
    · dsimp only; rw [ec]; omega
    · dsimp only; rw [ec]; exact c
  · rw [qm (decide_eq_false c), qo (decide_eq_true ⟨p0, by omega⟩), ec]
    by_cases d : hi = 70368744177664
    · rw [qo (by rw [d]; rfl)]
      refine ⟨_, rfl, .inr ⟨⟨_, rfl⟩, fun x a1 a2 => ?_⟩⟩
      have := (akT ok P pl (show x ≤ 70368744177664 by omega)).1
      rw [← d] at this
      omega
    · rw [qm (by simpa using d), qo (decide_eq_true ⟨p0, by omega⟩), e2]
      have := bh.2.2 d
      exact ⟨_, rfl, ⟨by dsimp only; omega, by dsimp only; omega, by dsimp only; omega, by dsimp only; omega, h5.set hi⟩, by dsimp only; omega⟩
theorem anX {a : SAir} {s : qz} (ok : RtOK a s) {P : Sq Int} (hP : aiV a P) {pl : Int} (p0 : 0 ≤ pl) (p1 : pl < P.n) {own low high : Int} (o0 : -70368744177664 ≤ own) (o1 : own ≤ 70368744177664) {l : Sq Int} (q1 : own ≤ low) (q2 : low < high) (q3 : high ≤ 70368744177664) (q4 : NL a s P pl low < 0) (q5 : NL a s P pl high ≥ 0) (q6 : ajc P l pl) :
    ∃ y, Zt pl a.Mine.Places a.Mine.Roads a.Fans a.Doors s.Fans s.Doors low high l = some (.inl y) ∧ ajL (NL a s P pl) own (y.1, true) := by
  have key := pY (step := fun v : Int × Int × Sq Int => MG pl a.Mine.Places a.Mine.Roads a.Fans a.Doors s.Fans s.Doors v.1 v.2.1 v.2.2)
    (fun v => own ≤ v.1 ∧ v.1 < v.2.1 ∧ v.2.1 ≤ 70368744177664 ∧ NL a s P pl v.1 < 0 ∧ NL a s P pl v.2.1 ≥ 0 ∧ ajc P v.2.2 pl) (fun v => ((v.2.1 - v.1)).toNat)
    (fun z => ∃ y, z = .inl y ∧ ajL (NL a s P pl) own (y.1, true)) (fun v hv => by
      obtain ⟨low, high, l⟩ := v
      obtain ⟨h1, h2, h3, h4, h5, h6⟩ := hv
      dsimp only at h1 h2 h3 h4 h5 h6 ⊢
      have hn := h6.n
      unfold MG
      have ew : wr (low + 1) = low + 1 := pJ (by omega) (by omega)
      rw [ew]
      by_cases c : low + 1 < high
      · have em : wr (low + wr (Int.tdiv (wr (high - low)) 2)) = low + (high - low) / 2 := by
          rw [pJ (x := high - low) (by omega) (by omega), Int.tdiv_eq_ediv_of_nonneg (by omega), pJ (x := (high - low) / 2) (by omega) (by omega), pJ (by omega) (by omega)]
        rw [em, qo (decide_eq_true c), qo (decide_eq_true ⟨p0, by omega⟩), get_bind (alF ok hP p0 h6 (by omega) (by omega))]
        generalize hm : low + (high - low) / 2 = m
        have bm : low < m ∧ m < high := by omega
        have ec : ∀ x : Int, cond (Nat.beq pl.toNat pl.toNat) m x = m := fun x => by rw [ajw rfl]; rfl
        by_cases d : NL a s P pl m ≥ 0
        · rw [qo (decide_eq_true d), qo (decide_eq_true ⟨p0, by omega⟩), ec]
          exact ⟨_, rfl, ⟨h1, by dsimp only; omega, by dsimp only; omega, h4, d, h6.set m⟩, by dsimp only; omega⟩
        · rw [qm (decide_eq_false d), qo (decide_eq_true ⟨p0, by omega⟩), ec]
          exact ⟨_, rfl, ⟨by dsimp only; omega, by dsimp only; omega, h3, by dsimp only; omega, h5, h6.set m⟩, by dsimp only; omega⟩
      · rw [qm (decide_eq_false c)]
        refine ⟨_, rfl, _, rfl, .inl ⟨rfl, by dsimp only; omega, h3, h5, fun x a1 a2 => ?_⟩⟩
        dsimp only at a2
        have := (akT ok P pl (show x ≤ low by omega)).1
        omega)
    (low, high, l) ⟨q1, q2, q3, q4, q5, q6⟩
  obtain ⟨z, hz, y, rfl, g⟩ := key
  exact ⟨y, by rw [ag4]; exact hz, g⟩
theorem am1 {a : SAir} {s : qz} {P : Sq Int} {pl : Int} (h : PrOK a s P pl) : ∃ r, afb a s P pl = some r ∧ ajL (NL a s P pl) (P.f pl.toNat) r := by
  have ok := aiU h.rt
  have p0 := h.p0
  have p1 := h.p1
  have np := ok.m.np
  have pn := h.Pp.n
  have b := h.Pp.f pl.toNat (by omega)
  rw [aiI]; unfold acR
  rw [qo (decide_eq_true ⟨by omega, by omega⟩), get_bind (ajz ok h.Pp rfl)]
  by_cases c : NL a s P pl (P.f pl.toNat) ≥ 0
  · rw [qo (decide_eq_true c), qo (decide_eq_true ⟨p0, p1⟩)]
    exact ⟨_, rfl, .inl ⟨rfl, Int.le_refl _, by dsimp only; omega, c, fun x a1 a2 => by dsimp only at a2; omega⟩⟩
  · rw [qm (decide_eq_false c), qo (decide_eq_true ⟨p0, p1⟩)]
    obtain ⟨z, ez, ⟨y, rfl, y1, y2, y3, y4, y5, y6⟩ | ⟨⟨y, rfl⟩, hx⟩⟩ := aov ok h.Pp p0 p1 b.1 b.2 (by omega)
    · have yn := y6.n
      rw [pV ez]
      dsimp only [Sum.elim]
      rw [qo (decide_eq_true ⟨p0, by omega⟩)]
      obtain ⟨w, ew, hw⟩ := anX ok h.Pp p0 p1 b.1 b.2 y1 y2 y3 y4 y5 y6
      rw [pV ew]
      exact ⟨_, rfl, hw⟩
    · rw [pV ez]
      exact ⟨_, rfl, .inr ⟨rfl, hx⟩⟩
theorem ali {a : SAir} {s : qz} (ok : RtOK a s) {P l : Sq Int} (hP : aiV a P) {pl : Int} (p0 : 0 ≤ pl) (h : ajc P l pl) {v : Int} (v0 : -70368744177664 ≤ v) (v1 : v ≤ 70368744177664) :
    Fg a s ⟨l.n, fun k => cond (Nat.beq k pl.toNat) v (l.f k)⟩ pl = some (NH a s P pl v) := by
  rw [aju ok (h.ok hP v0 v1) (p := v) (by dsimp only; rw [ajw rfl]; rfl), (ao6 ok (P' := P) pl v fun k hk => (h.set v).f k (by omega)).2]
theorem anm {a : SAir} {s : qz} (ok : RtOK a s) {P : Sq Int} (hP : aiV a P) {pl : Int} (p0 : 0 ≤ pl) (p1 : pl < P.n) {own : Int} (o0 : -70368744177664 ≤ own) (o1 : own ≤ 70368744177664) (hf : NH a s P pl own > 0) :
    ∃ z, Xq pl a.Mine.Places a.Mine.Roads a.Fans a.Doors s.Fans s.Doors own P 1 = some z ∧ ((∃ y : Int × Sq Int, z = .inl y ∧ y.1 ≤ own ∧ (y.2.f pl.toNat) < y.1 ∧ -70368744177664 ≤ (y.2.f pl.toNat) ∧ NH a s P pl y.1 > 0 ∧ NH a s P pl (y.2.f pl.toNat) ≤ 0 ∧ ajc P y.2 pl) ∨ (∃ y, z = .inr y) ∧ ∀ x, x ≤ own → -70368744177664 ≤ x → NH a s P pl x > 0) := by
  rw [agD]
  refine pY (step := fun v : Int × Sq Int × Int => KY pl a.Mine.Places a.Mine.Roads a.Fans a.Doors s.Fans s.Doors v.1 v.2.1 v.2.2)
    (fun v => v.1 ≤ own ∧ -70368744177664 ≤ v.1 ∧ v.2.2 = (own - v.1) + 1 ∧ NH a s P pl v.1 > 0 ∧ ajc P v.2.1 pl) (fun v => ((v.1 - -70368744177664)).toNat) _ (fun v hv => ?_) (own, P, 1) ⟨by dsimp only; omega, by dsimp only; omega, by dsimp only; omega, hf, rfl, fun _ _ => rfl⟩
  obtain ⟨low, l, st⟩ := v
  obtain ⟨h1, h2, h3, h4, h5⟩ := hv
  dsimp only at h1 h2 h3 h4 h5 ⊢
  have hn := h5.n
  unfold KY
  have ew : wr ((low - st)) = (low - st) := pJ (by omega) (by omega)
  have e2 : wr (st * 2) = st * 2 := pJ (by omega) (by omega)
  rw [ew]
  generalize hhi : (if ((low - st)) < -70368744177664 then -70368744177664 else (low - st) : Int) = hi
  have bh : hi ≤ low ∧ -70368744177664 ≤ hi ∧ (hi ≠ -70368744177664 → hi = (low - st)) := by
    subst hhi
    split <;> omega
  have eL := ali ok hP p0 h5 (v := hi) (by omega) (by omega)
  rw [qo (decide_eq_true ⟨p0, by omega⟩), get_bind eL]
  have ec : ∀ x : Int, cond (Nat.beq pl.toNat pl.toNat) hi x = hi := fun x => by rw [ajw rfl]; rfl
  by_cases c : NH a s P pl hi ≤ 0
  · rw [qo (decide_eq_true c)]
    refine ⟨_, rfl, .inl ⟨_, rfl, h1, ?_, ?_, h4, ?_, h5.set hi⟩⟩
    · dsimp only
      rw [ec]
      rcases Int.lt_or_le hi low with d | d
      · omega
      · have := (akT ok P pl (show low ≤ hi by omega)).2; omega
    · dsimp only; rw [ec]; omega
    · dsimp only; rw [ec]; exact c
  · rw [qm (decide_eq_false c), qo (decide_eq_true ⟨p0, by omega⟩), ec]
    by_cases d : hi = -70368744177664
    · rw [qo (by rw [d]; rfl)]
      refine ⟨_, rfl, .inr ⟨⟨_, rfl⟩, fun x a1 a2 => ?_⟩⟩
      have := (akT ok P pl (show -70368744177664 ≤ x by omega)).2
      rw [← d] at this
      omega
    · rw [qm (by simpa using d), qo (decide_eq_true ⟨p0, by omega⟩), e2]
      have := bh.2.2 d
      exact ⟨_, rfl, ⟨by dsimp only; omega, by dsimp only; omega, by dsimp only; omega, by dsimp only; omega, h5.set hi⟩, by dsimp only; omega⟩
theorem amK {a : SAir} {s : qz} (ok : RtOK a s) {P : Sq Int} (hP : aiV a P) {pl : Int} (p0 : 0 ≤ pl) (p1 : pl < P.n) {own low high : Int} (o0 : -70368744177664 ≤ own) (o1 : own ≤ 70368744177664) {l : Sq Int} (q1 : low ≤ own) (q2 : high < low) (q3 : -70368744177664 ≤ high) (q4 : NH a s P pl low > 0) (q5 : NH a s P pl high ≤ 0) (q6 : ajc P l pl) :
    ∃ y, Uo pl a.Mine.Places a.Mine.Roads a.Fans a.Doors s.Fans s.Doors low high l = some (.inl y) ∧ ai5 (NH a s P pl) own (y.1, true) := by
  have key := pY (step := fun v : Int × Int × Sq Int => JV pl a.Mine.Places a.Mine.Roads a.Fans a.Doors s.Fans s.Doors v.1 v.2.1 v.2.2)
    (fun v => v.1 ≤ own ∧ v.2.1 < v.1 ∧ -70368744177664 ≤ v.2.1 ∧ NH a s P pl v.1 > 0 ∧ NH a s P pl v.2.1 ≤ 0 ∧ ajc P v.2.2 pl) (fun v => ((v.1 - v.2.1)).toNat)
    (fun z => ∃ y, z = .inl y ∧ ai5 (NH a s P pl) own (y.1, true)) (fun v hv => by
      obtain ⟨low, high, l⟩ := v
      obtain ⟨h1, h2, h3, h4, h5, h6⟩ := hv
      dsimp only at h1 h2 h3 h4 h5 h6 ⊢
      have hn := h6.n
      unfold JV
      have ew : wr (high + 1) = high + 1 := pJ (by omega) (by omega)
      rw [ew]
      by_cases c : high + 1 < low
      · have em : wr (high + wr (Int.tdiv (wr (low - high)) 2)) = high + (low - high) / 2 := by
          rw [pJ (x := low - high) (by omega) (by omega), Int.tdiv_eq_ediv_of_nonneg (by omega), pJ (x := (low - high) / 2) (by omega) (by omega), pJ (by omega) (by omega)]
        rw [em, qo (decide_eq_true c), qo (decide_eq_true ⟨p0, by omega⟩), get_bind (ali ok hP p0 h6 (by omega) (by omega))]
        generalize hm : high + (low - high) / 2 = m
        have bm : high < m ∧ m < low := by omega
        have ec : ∀ x : Int, cond (Nat.beq pl.toNat pl.toNat) m x = m := fun x => by rw [ajw rfl]; rfl
        by_cases d : NH a s P pl m ≤ 0
        · rw [qo (decide_eq_true d), qo (decide_eq_true ⟨p0, by omega⟩), ec]
          exact ⟨_, rfl, ⟨h1, by dsimp only; omega, by dsimp only; omega, h4, d, h6.set m⟩, by dsimp only; omega⟩
        · rw [qm (decide_eq_false d), qo (decide_eq_true ⟨p0, by omega⟩), ec]
          exact ⟨_, rfl, ⟨by dsimp only; omega, by dsimp only; omega, h3, by dsimp only; omega, h5, h6.set m⟩, by dsimp only; omega⟩
      · rw [qm (decide_eq_false c)]
        refine ⟨_, rfl, _, rfl, .inl ⟨rfl, by dsimp only; omega, h3, h5, fun x a1 a2 => ?_⟩⟩
        dsimp only at a2
        have := (akT ok P pl (show low ≤ x by omega)).2
        omega)
    (low, high, l) ⟨q1, q2, q3, q4, q5, q6⟩
  obtain ⟨z, hz, y, rfl, g⟩ := key
  exact ⟨y, by rw [afT]; exact hz, g⟩
theorem al8 {a : SAir} {s : qz} {P : Sq Int} {pl : Int} (h : PrOK a s P pl) : ∃ r, acP a s P pl = some r ∧ ai5 (NH a s P pl) (P.f pl.toNat) r := by
  have ok := aiU h.rt
  have p0 := h.p0
  have p1 := h.p1
  have np := ok.m.np
  have pn := h.Pp.n
  have b := h.Pp.f pl.toNat (by omega)
  rw [aij]; unfold Zq
  rw [qo (decide_eq_true ⟨by omega, by omega⟩), get_bind (aju ok h.Pp rfl)]
  by_cases c : NH a s P pl (P.f pl.toNat) ≤ 0
  · rw [qo (decide_eq_true c), qo (decide_eq_true ⟨p0, p1⟩)]
    exact ⟨_, rfl, .inl ⟨rfl, Int.le_refl _, by dsimp only; omega, c, fun x a1 a2 => by dsimp only at a2; omega⟩⟩
  · rw [qm (decide_eq_false c), qo (decide_eq_true ⟨p0, p1⟩)]
    obtain ⟨z, ez, ⟨y, rfl, y1, y2, y3, y4, y5, y6⟩ | ⟨⟨y, rfl⟩, hx⟩⟩ := anm ok h.Pp p0 p1 b.1 b.2 (by omega)
    · have yn := y6.n
      rw [pV ez]
      dsimp only [Sum.elim]
      rw [qo (decide_eq_true ⟨p0, by omega⟩)]
      obtain ⟨w, ew, hw⟩ := amK ok h.Pp p0 p1 b.1 b.2 y1 y2 y3 y4 y5 y6
      rw [pV ew]
      exact ⟨_, rfl, hw⟩
    · rw [pV ez]
      exact ⟨_, rfl, .inr ⟨rfl, hx⟩⟩
end Go.Proofs.YtimkpfnbkclclaaGreat.Ab
namespace Go.Proofs.YtimkpfnbkclclaaGreat.Ab
noncomputable section
open Go
def setS (l : Sq Int) (k : Nat) (v : Int) : Sq Int := ⟨l.n, fun j => cond (Nat.beq j k) v (l.f j)⟩
theorem akG (l : Sq Int) (k : Nat) (v : Int) : (setS l k v).f k = v := by
  show cond _ _ _ = _
  rw [ajw rfl]; rfl
theorem ajj (l : Sq Int) {k j : Nat} (v : Int) (h : j ≠ k) : (setS l k v).f j = l.f j := by
  show cond _ _ _ = _
  rw [ajM h]; rfl
theorem aiV.set {a : SAir} {l : Sq Int} (h : aiV a l) (k : Nat) {v : Int} (v0 : -70368744177664 ≤ v) (v1 : v ≤ 70368744177664) : aiV a (setS l k v) := by
  refine ⟨h.n, fun j hj => ?_⟩
  by_cases c : j = k
  · rw [c, akG]; exact ⟨v0, v1⟩
  · rw [ajj l v c]; exact h.f j hj
def Fx (a : SAir) (k : Nat) : Prop := (a.Mine.Places.f k).Surface = true ∨ ¬ Aw a.Mine k
def aiZ (a : SAir) (s : qz) (up : Bool) (l : Sq Int) (k : Nat) : Int × Bool := cond up ((afb a s l k).getD (0, false)) ((acP a s l k).getD (0, false))
theorem ajx {a : SAir} {s : qz} {l : Sq Int} {k : Nat} (h : PrOK a s l k) : afb a s l k = some (aiZ a s true l k) ∧ ajL (NL a s l k) (l.f k) (aiZ a s true l k) := by
  obtain ⟨r, e, hr⟩ := am1 h
  rw [pI] at hr
  have q : aiZ a s true l k = r := by unfold aiZ; rw [e]; rfl
  rw [q]; exact ⟨e, hr⟩
theorem ajr {a : SAir} {s : qz} {l : Sq Int} {k : Nat} (h : PrOK a s l k) : acP a s l k = some (aiZ a s false l k) ∧ ai5 (NH a s l k) (l.f k) (aiZ a s false l k) := by
  obtain ⟨r, e, hr⟩ := al8 h
  rw [pI] at hr
  have q : aiZ a s false l k = r := by unfold aiZ; rw [e]; rfl
  rw [q]; exact ⟨e, hr⟩
theorem alg {a : SAir} {s : qz} {l : Sq Int} {k : Nat} (h : PrOK a s l k) (up : Bool) (e : (aiZ a s up l k).2 = true) : -70368744177664 ≤ (aiZ a s up l k).1 ∧ (aiZ a s up l k).1 ≤ 70368744177664 := by
  have own := h.Pp.f k (by have := h.p1; omega)
  cases up with
  | true =>
    rcases (ajx h).2 with ⟨_, a1, a2, _⟩ | ⟨a1, _⟩
    · omega
    · rw [a1] at e; cases e
  | false =>
    rcases (ajr h).2 with ⟨_, a1, a2, _⟩ | ⟨a1, _⟩
    · omega
    · rw [a1] at e; cases e
open Classical in
def aiW (a : SAir) (s : qz) (up : Bool) : Nat → Nat → Bool → Sq Int → Option (Bool × Sq Int)
  | 0, _, ch, l => some (ch, l)
  | m + 1, k, ch, l => if Fx a k then aiW a s up m (k + 1) ch l else if (aiZ a s up l k).2 = true then aiW a s up m (k + 1) (ch || ((aiZ a s up l k).1 != l.f k)) (setS l k (aiZ a s up l k).1) else none
theorem ajC {a : SAir} {s : qz} {up : Bool} {m k : Nat} {ch : Bool} {l : Sq Int} (h : Fx a k) : aiW a s up (m + 1) k ch l = aiW a s up m (k + 1) ch l := if_pos h
theorem ajD {a : SAir} {s : qz} {up : Bool} {m k : Nat} {ch : Bool} {l : Sq Int} (h : ¬ Fx a k) (e : (aiZ a s up l k).2 = true) : aiW a s up (m + 1) k ch l = aiW a s up m (k + 1) (ch || ((aiZ a s up l k).1 != l.f k)) (setS l k (aiZ a s up l k).1) := (if_neg h).trans (if_pos e)
theorem akF {a : SAir} {s : qz} {up : Bool} {m k : Nat} {ch : Bool} {l : Sq Int} (h : ¬ Fx a k) (e : ¬ (aiZ a s up l k).2 = true) : aiW a s up (m + 1) k ch l = none := (if_neg h).trans (if_neg e)
def ai1 (a : SAir) (s : qz) (up : Bool) : Nat → Sq Int → Option (Sq Int)
  | 0, _ => none
  | r + 1, l => (aiW a s up a.Mine.Places.n 0 false l).bind fun y => cond y.1 (ai1 a s up r y.2) (some y.2)
theorem ajU {a : SAir} {s : qz} {up : Bool} (rt : aiR a s = true) (I : Nat → Bool → Sq Int → Prop)
    (h : ∀ k ch l, k < a.Mine.Places.n → aiV a l → I k ch l → (Fx a k → I (k + 1) ch l) ∧ (¬ Fx a k → (aiZ a s up l k).2 = true → I (k + 1) (ch || ((aiZ a s up l k).1 != l.f k)) (setS l k (aiZ a s up l k).1))) :
    ∀ m k ch l, k + m = a.Mine.Places.n → aiV a l → I k ch l → ∀ y, aiW a s up m k ch l = some y → aiV a y.2 ∧ I a.Mine.Places.n y.1 y.2 := by
  intro m
  induction m with
  | zero =>
    intro k ch l hk hl hi y e
    obtain rfl : (ch, l) = y := Option.some.inj e
    rw [show a.Mine.Places.n = k by omega]
    exact ⟨hl, hi⟩
  | succ m ih =>
    intro k ch l hk hl hi y e
    have q := h k ch l (by omega) hl hi
    by_cases c : Fx a k
    · rw [ajC c] at e
      exact ih (k + 1) ch l (by omega) hl (q.1 c) y e
    · by_cases c2 : (aiZ a s up l k).2 = true
      · rw [ajD c c2] at e
        have b := alg (a := a) (s := s) (l := l) (k := k) ⟨rt, hl, by omega, by have := hl.n; omega⟩ up c2
        exact ih (k + 1) _ _ (by omega) (hl.set k b.1 b.2) (q.2 c c2) y e
      · rw [akF c c2] at e; cases e
theorem ajS {a : SAir} {s : qz} {up : Bool} (J : Nat → Sq Int → Prop)
    (h : ∀ r l, aiV a l → J (r + 1) l → ∀ y, aiW a s up a.Mine.Places.n 0 false l = some y → aiV a y.2 ∧ J r y.2) :
    ∀ r l, aiV a l → J r l → ∀ y, ai1 a s up r l = some y → aiV a y ∧ ∃ r', r' < r ∧ J r' y ∧ ∃ l', aiV a l' ∧ J (r' + 1) l' ∧ aiW a s up a.Mine.Places.n 0 false l' = some (false, y) := by
  intro r
  induction r with
  | zero => intro l _ _ y e; cases e
  | succ r ih =>
    intro l hl hj y e
    unfold ai1 at e
    cases er : aiW a s up a.Mine.Places.n 0 false l with
    | none => rw [er] at e; cases e
    | some z =>
      rw [er] at e
      obtain ⟨p, j⟩ := h r l hl hj z er
      obtain ⟨c, z⟩ := z
      cases c with
      | true =>
        obtain ⟨p, r', hr, q⟩ := ih z p j y e
        exact ⟨p, r', by omega, q⟩
      | false =>
        obtain rfl : z = y := Option.some.inj e
        exact ⟨p, r, by omega, j, l, hl, hj, er⟩
open Classical in
def aiY (a : SAir) (s : qz) (st : Sq Int) : Int :=
  if airE a ≠ 0 then airE a else if aiR a s = false then 21 else if st.n ≠ a.Mine.Places.n then 11 else if ¬ Rng st then 1 else if ∀ i, i < a.Mine.Places.n → Fx a i → st.f i = 0 then 0 else 12
theorem ajv {a : SAir} {s : qz} {st : Sq Int} (h : aiY a s st = 0) : aiR a s = true ∧ aiV a st ∧ ∀ i, i < a.Mine.Places.n → Fx a i → st.f i = 0 := by
  unfold aiY at h
  split at h
  · rename_i c; exact absurd h c
  · split at h
    · cases h
    · rename_i h2
      have h2 : aiR a s = true := by simpa using h2
      split at h
      · cases h
      · rename_i h3
        split at h
        · cases h
        · rename_i h5
          split at h
          · rename_i h7
            exact ⟨h2, ⟨Classical.not_not.1 h3, Classical.not_not.1 h5⟩, h7⟩
          · cases h
theorem ajX {a : SAir} {s : qz} {st : Sq Int} (rt : aiR a s = true) (h : aiV a st) (z : ∀ i, i < a.Mine.Places.n → Fx a i → st.f i = 0) : aiY a s st = 0 := by
  unfold aiY
  rw [if_neg (not_not_intro (aj7 rt)), if_neg (by rw [rt]; simp), if_neg (not_not_intro h.n), if_neg (not_not_intro (show Rng st from h.f)), if_pos z]
def nilS : Sq Int := ⟨0, fun _ => 0⟩
def aiP (a : SAir) (s : qz) (st : Sq Int) (up : Bool) : Sq Int × Int :=
  if aiY a s st = 0 then (match ai1 a s up 200 st with | some l => (l, 0) | none => (nilS, 2)) else (nilS, aiY a s st)
theorem ai4 {a : SAir} {s : qz} {st l : Sq Int} {up : Bool} (h : aiY a s st = 0) (e : ai1 a s up 200 st = some l) : aiP a s st up = (l, 0) := by
  unfold aiP
  rw [if_pos h, e]
theorem ai9 {a : SAir} {s : qz} {st : Sq Int} {up : Bool} (h : aiY a s st = 0) (e : ai1 a s up 200 st = none) : aiP a s st up = (nilS, 2) := by
  unfold aiP
  rw [if_pos h, e]
theorem aj6 {a : SAir} {s : qz} {st : Sq Int} {up : Bool} (h : ¬ aiY a s st = 0) : aiP a s st up = (nilS, aiY a s st) := if_neg h
def ajb (n : Nat) : Sq Int := ⟨n, fun _ => 0⟩
def ai6 (a : SAir) (s : qz) : qL × Int :=
  if (aiP a s (ajb a.Mine.Places.n) false).2 ≠ 0 then (⟨nilS, nilS⟩, (aiP a s (ajb a.Mine.Places.n) false).2)
  else if (aiP a s (aiP a s (ajb a.Mine.Places.n) false).1 true).2 ≠ 0 then (⟨nilS, nilS⟩, (aiP a s (aiP a s (ajb a.Mine.Places.n) false).1 true).2)
  else if (aiP a s (aiP a s (aiP a s (ajb a.Mine.Places.n) false).1 true).1 false).2 ≠ 0 then (⟨nilS, nilS⟩, (aiP a s (aiP a s (aiP a s (ajb a.Mine.Places.n) false).1 true).1 false).2)
  else (⟨(aiP a s (aiP a s (aiP a s (ajb a.Mine.Places.n) false).1 true).1 false).1, (aiP a s (aiP a s (ajb a.Mine.Places.n) false).1 true).1⟩, 0)
theorem akC {a : SAir} {s : qz} {st : Sq Int} {up : Bool} (h : (aiP a s st up).2 = 0) : aiY a s st = 0 ∧ ai1 a s up 200 st = some (aiP a s st up).1 := by
  by_cases c : aiY a s st = 0
  · refine ⟨c, ?_⟩
    cases e : ai1 a s up 200 st with
    | none => rw [ai9 c e] at h; cases h
    | some l => rw [ai4 c e]
  · rw [aj6 c] at h; exact absurd h c
theorem amF {a : SAir} {s : qz} (h : (ai6 a s).2 = 0) : ∃ below, aiP a s (ajb a.Mine.Places.n) false = (below, 0) ∧ aiP a s below true = ((ai6 a s).1.High, 0) ∧ aiP a s (ai6 a s).1.High false = ((ai6 a s).1.Low, 0) := by
  unfold ai6 at h ⊢
  by_cases c1 : (aiP a s (ajb a.Mine.Places.n) false).2 = 0
  · rw [if_neg (not_not_intro c1)] at h ⊢
    by_cases c2 : (aiP a s (aiP a s (ajb a.Mine.Places.n) false).1 true).2 = 0
    · rw [if_neg (not_not_intro c2)] at h ⊢
      by_cases c3 : (aiP a s (aiP a s (aiP a s (ajb a.Mine.Places.n) false).1 true).1 false).2 = 0
      · rw [if_neg (not_not_intro c3)]
        exact ⟨_, Prod.ext rfl c1, Prod.ext rfl c2, Prod.ext rfl c3⟩
      · rw [if_pos c3] at h; exact absurd h c3
    · rw [if_pos c2] at h; exact absurd h c2
  · rw [if_pos c1] at h; exact absurd h c1
structure BdOK (a : SAir) (b : qL) : Prop where
  l : aiV a b.Low
  h : aiV a b.High
end
end Go.Proofs.YtimkpfnbkclclaaGreat.Ab
