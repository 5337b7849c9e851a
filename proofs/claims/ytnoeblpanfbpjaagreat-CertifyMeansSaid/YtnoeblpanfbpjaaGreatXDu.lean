/- The document's Up and Down. -/
import Derived.Test.YtnoeblpanfbpjaaGreatXC
import Derived.Test.YtnoeblpanfbpjaaGreatXkr
namespace Go.Proofs.YtnoeblpanfbpjaaGreat.Ab
open Go

def LeastC (f : Int → Int) (own : Int) (r : Int × Bool) : Prop := (r.2 = true ∧ own ≤ r.1 ∧ r.1 ≤ 70368744177664 ∧ f r.1 ≥ 0 ∧ ∀ x, own ≤ x → x < r.1 → f x < 0) ∨ (r = (0, false) ∧ ∀ x, own ≤ x → x ≤ 70368744177664 → f x < 0)
def GreatestC (f : Int → Int) (own : Int) (r : Int × Bool) : Prop := (r.2 = true ∧ r.1 ≤ own ∧ -70368744177664 ≤ r.1 ∧ f r.1 ≤ 0 ∧ ∀ x, x ≤ own → r.1 < x → f x > 0) ∨ (r = (0, false) ∧ ∀ x, x ≤ own → -70368744177664 ≤ x → f x > 0)

/-- Lists that differ at a place at most. -/
structure SameBut (P l : Sq Int) (pl : Int) : Prop where
  n : l.n = P.n
  f : ∀ k : Nat, k ≠ pl.toNat → l.f k = P.f k
theorem SameBut.set {P l : Sq Int} {pl : Int} (h : SameBut P l pl) (v : Int) : SameBut P ⟨l.n, fun k => cond (Nat.beq k pl.toNat) v (l.f k)⟩ pl :=
  ⟨h.n, fun k hk => by dsimp only; rw [beq_f hk]; exact h.f k hk⟩
theorem SameBut.ok {a : SAir} {P l : Sq Int} {pl : Int} (h : SameBut P l pl) (hP : PrsOK a P) {v : Int} (v0 : -70368744177664 ≤ v) (v1 : v ≤ 70368744177664) : PrsOK a ⟨l.n, fun k => cond (Nat.beq k pl.toNat) v (l.f k)⟩ := by
  have hn := h.n
  refine ⟨by rw [← hP.n]; exact hn, fun k hk => ?_⟩
  dsimp only at hk ⊢
  by_cases c : k = pl.toNat
  · rw [beq_t c]; exact ⟨v0, v1⟩
  · rw [beq_f c]
    show -70368744177664 ≤ l.f k ∧ l.f k ≤ 70368744177664
    rw [h.f k c]; exact hP.f k (by omega)

theorem Lowest_set {a : SAir} {s : SSetting} (ok : RtOK a s) {P l : Sq Int} (hP : PrsOK a P) {pl : Int} (p0 : 0 ≤ pl) (h : SameBut P l pl) {v : Int} (v0 : -70368744177664 ≤ v) (v1 : v ≤ 70368744177664) :
    ref10_Lowest a s ⟨l.n, fun k => cond (Nat.beq k pl.toNat) v (l.f k)⟩ pl = some (NL a s P pl v) := by
  rw [ref10_Lowest_v ok (h.ok hP v0 v1) (p := v) (by dsimp only; rw [beq_t rfl]; rfl), (N_own ok (P' := P) pl v fun k hk => (h.set v).f k (by omega)).1]
theorem Up_l5_ex {a : SAir} {s : SSetting} (ok : RtOK a s) {P : Sq Int} (hP : PrsOK a P) {pl : Int} (p0 : 0 ≤ pl) (p1 : pl < P.n) {own : Int} (o0 : -70368744177664 ≤ own) (o1 : own ≤ 70368744177664) (hf : NL a s P pl own < 0) :
    ∃ z, ref10_Up_l5 pl a.Mine.Places a.Mine.Roads a.Fans a.Doors s.Fans s.Doors own P 1 = some z ∧ ((∃ y : Int × Sq Int, z = .inl y ∧ own ≤ y.1 ∧ y.1 < (y.2.f pl.toNat) ∧ (y.2.f pl.toNat) ≤ 70368744177664 ∧ NL a s P pl y.1 < 0 ∧ NL a s P pl (y.2.f pl.toNat) ≥ 0 ∧ SameBut P y.2 pl) ∨ (∃ y, z = .inr y) ∧ ∀ x, own ≤ x → x ≤ 70368744177664 → NL a s P pl x < 0) := by
  rw [ref10_Up_l5_eq]
  refine loop_ex (step := fun v : Int × Sq Int × Int => ref10_Up_l5_step pl a.Mine.Places a.Mine.Roads a.Fans a.Doors s.Fans s.Doors v.1 v.2.1 v.2.2)
    (fun v => own ≤ v.1 ∧ v.1 ≤ 70368744177664 ∧ v.2.2 = (v.1 - own) + 1 ∧ NL a s P pl v.1 < 0 ∧ SameBut P v.2.1 pl) (fun v => ((70368744177664 - v.1)).toNat) _ (fun v hv => ?_) (own, P, 1) ⟨by dsimp only; omega, by dsimp only; omega, by dsimp only; omega, hf, rfl, fun _ _ => rfl⟩
  obtain ⟨low, l, st⟩ := v
  obtain ⟨h1, h2, h3, h4, h5⟩ := hv
  dsimp only at h1 h2 h3 h4 h5 ⊢
  have hn := h5.n
  unfold ref10_Up_l5_step
  have ew : wr ((low + st)) = (low + st) := wr_ok (by omega) (by omega)
  have e2 : wr (st * 2) = st * 2 := wr_ok (by omega) (by omega)
  rw [ew]
  generalize hhi : (if 70368744177664 < ((low + st)) then 70368744177664 else (low + st) : Int) = hi
  have bh : low ≤ hi ∧ hi ≤ 70368744177664 ∧ (hi ≠ 70368744177664 → hi = (low + st)) := by
    subst hhi
    split <;> omega
  have eL := Lowest_set ok hP p0 h5 (v := hi) (by omega) (by omega)
  rw [get_t (decide_eq_true ⟨p0, by omega⟩), get_bind eL]
  have ec : ∀ x : Int, cond (Nat.beq pl.toNat pl.toNat) hi x = hi := fun x => by rw [beq_t rfl]; rfl
  by_cases c : NL a s P pl hi ≥ 0
  · rw [get_t (decide_eq_true c)]
    refine ⟨_, rfl, .inl ⟨_, rfl, h1, ?_, ?_, h4, ?_, h5.set hi⟩⟩
    · dsimp only
      rw [ec]
      rcases Int.lt_or_le low hi with d | d
      · omega
      · have := (N_mono ok P pl (show hi ≤ low by omega)).1; omega
    · dsimp only; rw [ec]; omega
    · dsimp only; rw [ec]; exact c
  · rw [get_f (decide_eq_false c), get_t (decide_eq_true ⟨p0, by omega⟩), ec]
    by_cases d : hi = 70368744177664
    · rw [get_t (by rw [d]; rfl)]
      refine ⟨_, rfl, .inr ⟨⟨_, rfl⟩, fun x a1 a2 => ?_⟩⟩
      have := (N_mono ok P pl (show x ≤ 70368744177664 by omega)).1
      rw [← d] at this
      omega
    · rw [get_f (by simpa using d), get_t (decide_eq_true ⟨p0, by omega⟩), e2]
      have := bh.2.2 d
      exact ⟨_, rfl, ⟨by dsimp only; omega, by dsimp only; omega, by dsimp only; omega, by dsimp only; omega, h5.set hi⟩, by dsimp only; omega⟩
theorem Up_l12_ex {a : SAir} {s : SSetting} (ok : RtOK a s) {P : Sq Int} (hP : PrsOK a P) {pl : Int} (p0 : 0 ≤ pl) (p1 : pl < P.n) {own low high : Int} (o0 : -70368744177664 ≤ own) (o1 : own ≤ 70368744177664) {l : Sq Int} (q1 : own ≤ low) (q2 : low < high) (q3 : high ≤ 70368744177664) (q4 : NL a s P pl low < 0) (q5 : NL a s P pl high ≥ 0) (q6 : SameBut P l pl) :
    ∃ y, ref10_Up_l12 pl a.Mine.Places a.Mine.Roads a.Fans a.Doors s.Fans s.Doors low high l = some (.inl y) ∧ LeastC (NL a s P pl) own (y.1, true) := by
  have key := loop_ex (step := fun v : Int × Int × Sq Int => ref10_Up_l12_step pl a.Mine.Places a.Mine.Roads a.Fans a.Doors s.Fans s.Doors v.1 v.2.1 v.2.2)
    (fun v => own ≤ v.1 ∧ v.1 < v.2.1 ∧ v.2.1 ≤ 70368744177664 ∧ NL a s P pl v.1 < 0 ∧ NL a s P pl v.2.1 ≥ 0 ∧ SameBut P v.2.2 pl) (fun v => ((v.2.1 - v.1)).toNat)
    (fun z => ∃ y, z = .inl y ∧ LeastC (NL a s P pl) own (y.1, true)) (fun v hv => by
      obtain ⟨low, high, l⟩ := v
      obtain ⟨h1, h2, h3, h4, h5, h6⟩ := hv
      dsimp only at h1 h2 h3 h4 h5 h6 ⊢
      have hn := h6.n
      unfold ref10_Up_l12_step
      have ew : wr (low + 1) = low + 1 := wr_ok (by omega) (by omega)
      rw [ew]
      by_cases c : low + 1 < high
      · have em : wr (low + wr (Int.tdiv (wr (high - low)) 2)) = low + (high - low) / 2 := by
          rw [wr_ok (x := high - low) (by omega) (by omega), Int.tdiv_eq_ediv_of_nonneg (by omega), wr_ok (x := (high - low) / 2) (by omega) (by omega), wr_ok (by omega) (by omega)]
        rw [em, get_t (decide_eq_true c), get_t (decide_eq_true ⟨p0, by omega⟩), get_bind (Lowest_set ok hP p0 h6 (by omega) (by omega))]
        generalize hm : low + (high - low) / 2 = m
        have bm : low < m ∧ m < high := by omega
        have ec : ∀ x : Int, cond (Nat.beq pl.toNat pl.toNat) m x = m := fun x => by rw [beq_t rfl]; rfl
        by_cases d : NL a s P pl m ≥ 0
        · rw [get_t (decide_eq_true d), get_t (decide_eq_true ⟨p0, by omega⟩), ec]
          exact ⟨_, rfl, ⟨h1, by dsimp only; omega, by dsimp only; omega, h4, d, h6.set m⟩, by dsimp only; omega⟩
        · rw [get_f (decide_eq_false d), get_t (decide_eq_true ⟨p0, by omega⟩), ec]
          exact ⟨_, rfl, ⟨by dsimp only; omega, by dsimp only; omega, h3, by dsimp only; omega, h5, h6.set m⟩, by dsimp only; omega⟩
      · rw [get_f (decide_eq_false c)]
        refine ⟨_, rfl, _, rfl, .inl ⟨rfl, by dsimp only; omega, h3, h5, fun x a1 a2 => ?_⟩⟩
        dsimp only at a2
        have := (N_mono ok P pl (show x ≤ low by omega)).1
        omega)
    (low, high, l) ⟨q1, q2, q3, q4, q5, q6⟩
  obtain ⟨z, hz, y, rfl, g⟩ := key
  exact ⟨y, by rw [ref10_Up_l12_eq]; exact hz, g⟩

theorem ref10_Up_ex {a : SAir} {s : SSetting} {P : Sq Int} {pl : Int} (h : PrOK a s P pl) : ∃ r, ref10_Up a s P pl = some r ∧ LeastC (NL a s P pl) (P.f pl.toNat) r := by
  have ok := right_ok h.rt
  have p0 := h.p0
  have p1 := h.p1
  have np := ok.m.np
  have pn := h.Pp.n
  have b := h.Pp.f pl.toNat (by omega)
  rw [ref10_Up_eq]; unfold ref10_Up_t
  rw [get_t (decide_eq_true ⟨by omega, by omega⟩), get_bind (ref10_Lowest_v ok h.Pp rfl)]
  by_cases c : NL a s P pl (P.f pl.toNat) ≥ 0
  · rw [get_t (decide_eq_true c), get_t (decide_eq_true ⟨p0, p1⟩)]
    exact ⟨_, rfl, .inl ⟨rfl, Int.le_refl _, by dsimp only; omega, c, fun x a1 a2 => by dsimp only at a2; omega⟩⟩
  · rw [get_f (decide_eq_false c), get_t (decide_eq_true ⟨p0, p1⟩)]
    obtain ⟨z, ez, ⟨y, rfl, y1, y2, y3, y4, y5, y6⟩ | ⟨⟨y, rfl⟩, hx⟩⟩ := Up_l5_ex ok h.Pp p0 p1 b.1 b.2 (by omega)
    · have yn := y6.n
      rw [get_sum ez]
      dsimp only [Sum.elim]
      rw [get_t (decide_eq_true ⟨p0, by omega⟩)]
      obtain ⟨w, ew, hw⟩ := Up_l12_ex ok h.Pp p0 p1 b.1 b.2 y1 y2 y3 y4 y5 y6
      rw [get_sum ew]
      exact ⟨_, rfl, hw⟩
    · rw [get_sum ez]
      exact ⟨_, rfl, .inr ⟨rfl, hx⟩⟩

theorem Highest_set {a : SAir} {s : SSetting} (ok : RtOK a s) {P l : Sq Int} (hP : PrsOK a P) {pl : Int} (p0 : 0 ≤ pl) (h : SameBut P l pl) {v : Int} (v0 : -70368744177664 ≤ v) (v1 : v ≤ 70368744177664) :
    ref10_Highest a s ⟨l.n, fun k => cond (Nat.beq k pl.toNat) v (l.f k)⟩ pl = some (NH a s P pl v) := by
  rw [ref10_Highest_v ok (h.ok hP v0 v1) (p := v) (by dsimp only; rw [beq_t rfl]; rfl), (N_own ok (P' := P) pl v fun k hk => (h.set v).f k (by omega)).2]
theorem Down_l5_ex {a : SAir} {s : SSetting} (ok : RtOK a s) {P : Sq Int} (hP : PrsOK a P) {pl : Int} (p0 : 0 ≤ pl) (p1 : pl < P.n) {own : Int} (o0 : -70368744177664 ≤ own) (o1 : own ≤ 70368744177664) (hf : NH a s P pl own > 0) :
    ∃ z, ref10_Down_l5 pl a.Mine.Places a.Mine.Roads a.Fans a.Doors s.Fans s.Doors own P 1 = some z ∧ ((∃ y : Int × Sq Int, z = .inl y ∧ y.1 ≤ own ∧ (y.2.f pl.toNat) < y.1 ∧ -70368744177664 ≤ (y.2.f pl.toNat) ∧ NH a s P pl y.1 > 0 ∧ NH a s P pl (y.2.f pl.toNat) ≤ 0 ∧ SameBut P y.2 pl) ∨ (∃ y, z = .inr y) ∧ ∀ x, x ≤ own → -70368744177664 ≤ x → NH a s P pl x > 0) := by
  rw [ref10_Down_l5_eq]
  refine loop_ex (step := fun v : Int × Sq Int × Int => ref10_Down_l5_step pl a.Mine.Places a.Mine.Roads a.Fans a.Doors s.Fans s.Doors v.1 v.2.1 v.2.2)
    (fun v => v.1 ≤ own ∧ -70368744177664 ≤ v.1 ∧ v.2.2 = (own - v.1) + 1 ∧ NH a s P pl v.1 > 0 ∧ SameBut P v.2.1 pl) (fun v => ((v.1 - -70368744177664)).toNat) _ (fun v hv => ?_) (own, P, 1) ⟨by dsimp only; omega, by dsimp only; omega, by dsimp only; omega, hf, rfl, fun _ _ => rfl⟩
  obtain ⟨low, l, st⟩ := v
  obtain ⟨h1, h2, h3, h4, h5⟩ := hv
  dsimp only at h1 h2 h3 h4 h5 ⊢
  have hn := h5.n
  unfold ref10_Down_l5_step
  have ew : wr ((low - st)) = (low - st) := wr_ok (by omega) (by omega)
  have e2 : wr (st * 2) = st * 2 := wr_ok (by omega) (by omega)
  rw [ew]
  generalize hhi : (if ((low - st)) < -70368744177664 then -70368744177664 else (low - st) : Int) = hi
  have bh : hi ≤ low ∧ -70368744177664 ≤ hi ∧ (hi ≠ -70368744177664 → hi = (low - st)) := by
    subst hhi
    split <;> omega
  have eL := Highest_set ok hP p0 h5 (v := hi) (by omega) (by omega)
  rw [get_t (decide_eq_true ⟨p0, by omega⟩), get_bind eL]
  have ec : ∀ x : Int, cond (Nat.beq pl.toNat pl.toNat) hi x = hi := fun x => by rw [beq_t rfl]; rfl
  by_cases c : NH a s P pl hi ≤ 0
  · rw [get_t (decide_eq_true c)]
    refine ⟨_, rfl, .inl ⟨_, rfl, h1, ?_, ?_, h4, ?_, h5.set hi⟩⟩
    · dsimp only
      rw [ec]
      rcases Int.lt_or_le hi low with d | d
      · omega
      · have := (N_mono ok P pl (show low ≤ hi by omega)).2; omega
    · dsimp only; rw [ec]; omega
    · dsimp only; rw [ec]; exact c
  · rw [get_f (decide_eq_false c), get_t (decide_eq_true ⟨p0, by omega⟩), ec]
    by_cases d : hi = -70368744177664
    · rw [get_t (by rw [d]; rfl)]
      refine ⟨_, rfl, .inr ⟨⟨_, rfl⟩, fun x a1 a2 => ?_⟩⟩
      have := (N_mono ok P pl (show -70368744177664 ≤ x by omega)).2
      rw [← d] at this
      omega
    · rw [get_f (by simpa using d), get_t (decide_eq_true ⟨p0, by omega⟩), e2]
      have := bh.2.2 d
      exact ⟨_, rfl, ⟨by dsimp only; omega, by dsimp only; omega, by dsimp only; omega, by dsimp only; omega, h5.set hi⟩, by dsimp only; omega⟩
theorem Down_l12_ex {a : SAir} {s : SSetting} (ok : RtOK a s) {P : Sq Int} (hP : PrsOK a P) {pl : Int} (p0 : 0 ≤ pl) (p1 : pl < P.n) {own low high : Int} (o0 : -70368744177664 ≤ own) (o1 : own ≤ 70368744177664) {l : Sq Int} (q1 : low ≤ own) (q2 : high < low) (q3 : -70368744177664 ≤ high) (q4 : NH a s P pl low > 0) (q5 : NH a s P pl high ≤ 0) (q6 : SameBut P l pl) :
    ∃ y, ref10_Down_l12 pl a.Mine.Places a.Mine.Roads a.Fans a.Doors s.Fans s.Doors low high l = some (.inl y) ∧ GreatestC (NH a s P pl) own (y.1, true) := by
  have key := loop_ex (step := fun v : Int × Int × Sq Int => ref10_Down_l12_step pl a.Mine.Places a.Mine.Roads a.Fans a.Doors s.Fans s.Doors v.1 v.2.1 v.2.2)
    (fun v => v.1 ≤ own ∧ v.2.1 < v.1 ∧ -70368744177664 ≤ v.2.1 ∧ NH a s P pl v.1 > 0 ∧ NH a s P pl v.2.1 ≤ 0 ∧ SameBut P v.2.2 pl) (fun v => ((v.1 - v.2.1)).toNat)
    (fun z => ∃ y, z = .inl y ∧ GreatestC (NH a s P pl) own (y.1, true)) (fun v hv => by
      obtain ⟨low, high, l⟩ := v
      obtain ⟨h1, h2, h3, h4, h5, h6⟩ := hv
      dsimp only at h1 h2 h3 h4 h5 h6 ⊢
      have hn := h6.n
      unfold ref10_Down_l12_step
      have ew : wr (high + 1) = high + 1 := wr_ok (by omega) (by omega)
      rw [ew]
      by_cases c : high + 1 < low
      · have em : wr (high + wr (Int.tdiv (wr (low - high)) 2)) = high + (low - high) / 2 := by
          rw [wr_ok (x := low - high) (by omega) (by omega), Int.tdiv_eq_ediv_of_nonneg (by omega), wr_ok (x := (low - high) / 2) (by omega) (by omega), wr_ok (by omega) (by omega)]
        rw [em, get_t (decide_eq_true c), get_t (decide_eq_true ⟨p0, by omega⟩), get_bind (Highest_set ok hP p0 h6 (by omega) (by omega))]
        generalize hm : high + (low - high) / 2 = m
        have bm : high < m ∧ m < low := by omega
        have ec : ∀ x : Int, cond (Nat.beq pl.toNat pl.toNat) m x = m := fun x => by rw [beq_t rfl]; rfl
        by_cases d : NH a s P pl m ≤ 0
        · rw [get_t (decide_eq_true d), get_t (decide_eq_true ⟨p0, by omega⟩), ec]
          exact ⟨_, rfl, ⟨h1, by dsimp only; omega, by dsimp only; omega, h4, d, h6.set m⟩, by dsimp only; omega⟩
        · rw [get_f (decide_eq_false d), get_t (decide_eq_true ⟨p0, by omega⟩), ec]
          exact ⟨_, rfl, ⟨by dsimp only; omega, by dsimp only; omega, h3, by dsimp only; omega, h5, h6.set m⟩, by dsimp only; omega⟩
      · rw [get_f (decide_eq_false c)]
        refine ⟨_, rfl, _, rfl, .inl ⟨rfl, by dsimp only; omega, h3, h5, fun x a1 a2 => ?_⟩⟩
        dsimp only at a2
        have := (N_mono ok P pl (show low ≤ x by omega)).2
        omega)
    (low, high, l) ⟨q1, q2, q3, q4, q5, q6⟩
  obtain ⟨z, hz, y, rfl, g⟩ := key
  exact ⟨y, by rw [ref10_Down_l12_eq]; exact hz, g⟩

theorem ref10_Down_ex {a : SAir} {s : SSetting} {P : Sq Int} {pl : Int} (h : PrOK a s P pl) : ∃ r, ref10_Down a s P pl = some r ∧ GreatestC (NH a s P pl) (P.f pl.toNat) r := by
  have ok := right_ok h.rt
  have p0 := h.p0
  have p1 := h.p1
  have np := ok.m.np
  have pn := h.Pp.n
  have b := h.Pp.f pl.toNat (by omega)
  rw [ref10_Down_eq]; unfold ref10_Down_t
  rw [get_t (decide_eq_true ⟨by omega, by omega⟩), get_bind (ref10_Highest_v ok h.Pp rfl)]
  by_cases c : NH a s P pl (P.f pl.toNat) ≤ 0
  · rw [get_t (decide_eq_true c), get_t (decide_eq_true ⟨p0, p1⟩)]
    exact ⟨_, rfl, .inl ⟨rfl, Int.le_refl _, by dsimp only; omega, c, fun x a1 a2 => by dsimp only at a2; omega⟩⟩
  · rw [get_f (decide_eq_false c), get_t (decide_eq_true ⟨p0, p1⟩)]
    obtain ⟨z, ez, ⟨y, rfl, y1, y2, y3, y4, y5, y6⟩ | ⟨⟨y, rfl⟩, hx⟩⟩ := Down_l5_ex ok h.Pp p0 p1 b.1 b.2 (by omega)
    · have yn := y6.n
      rw [get_sum ez]
      dsimp only [Sum.elim]
      rw [get_t (decide_eq_true ⟨p0, by omega⟩)]
      obtain ⟨w, ew, hw⟩ := Down_l12_ex ok h.Pp p0 p1 b.1 b.2 y1 y2 y3 y4 y5 y6
      rw [get_sum ew]
      exact ⟨_, rfl, hw⟩
    · rw [get_sum ez]
      exact ⟨_, rfl, .inr ⟨rfl, hx⟩⟩

end Go.Proofs.YtnoeblpanfbpjaaGreat.Ab
