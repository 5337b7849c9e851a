/- A part of the proof, what is needed of it. -/
import Derived.Test.YtimkpfnbkclclaaGreatPj07
import Derived.Test.YtimkpfnbkclclaaGreatPj34
import Derived.Test.YtimkpfnbkclclaaGreatPj35
import Derived.Test.YtimkpfnbkclclaaGreatPj37
namespace Go.Proofs.YtimkpfnbkclclaaGreat.Ab
open Go
theorem TgOK.same {F : Sq qB} {l : Sq qG} {m : Sq qE} {t : Int} {O O' : Sq qB} {B B' : Sq Int} (h : TgOK F l m t O B) (h' : TgOK F l m t O' B') (hF : F.n ≤ 1000) (hm : m.n ≤ 1000) : Gd O O' = some true ∧ Gc B B' = some true := by
  have n1 := h.nn
  have n2 := h'.nn
  have b1 := h.le
  obtain ⟨bn, bf⟩ := arR h.up h'.up fun v => (h.i v).trans (h'.i v).symm
  exact ⟨alH (by omega) (by omega) fun j hj => by rw [h.e j (by omega), h'.e j (by omega)], aqE (by omega) bn bf⟩
def RawM (x : qE) : Prop := (0 ≤ x.Time ∧ x.Time ≤ 2147483648) ∧ (-1099511627776 ≤ x.Span.Low ∧ x.Span.Low ≤ 1099511627776) ∧ (-1099511627776 ≤ x.Span.High ∧ x.Span.High ≤ 1099511627776)
theorem RawM.ok {x : qE} (h : RawM x) {t : Int} (t0 : 0 ≤ t) (t1 : t < 60) : MsOK x t := by
  unfold RawM at h
  unfold MsOK
  omega
theorem MsD.ok {q : Sq Int} {l : Sq qG} {r : Bool} {x : qE} (h : MsD q l r x) {t : Int} (t0 : 0 ≤ t) (t1 : t ≤ 256) : MsOK x t := by
  have h1 := h.t
  have h2 := h.lo
  have h3 := h.hi
  unfold MsOK
  omega
theorem asy (codes : Sq Int) (l : Sq qG) {m : Sq qE} (hm : m.n ≤ 10) (time : Int) : ED codes l m time 0 = some (.inr true) ∨ (ED codes l m time 0 = some (.inl ()) ∧ ∀ i, i < m.n → RawM (m.f i)) := by
  obtain ⟨z, hz, g⟩ := pY (step := fun v : Int => Bb codes l m time v)
    (fun v => ∃ k : Nat, v = k ∧ k ≤ m.n ∧ ∀ j, j < k → RawM (m.f j)) (fun v => m.n - v.toNat)
    (fun z => z = .inr true ∨ (z = .inl () ∧ ∀ i, i < m.n → RawM (m.f i))) (fun v hv => by
      obtain ⟨k, rfl, hk, hf⟩ := hv
      unfold Bb
      rcases Nat.lt_or_ge k m.n with hi | hi
      · rw [qo (dlt hi), qo (dix hi), pI]
        by_cases c1 : (m.f k).Time < 0
        · rw [qo (decide_eq_true c1), get_bind arF]; exact ⟨_, rfl, .inl rfl⟩
        rw [qm (decide_eq_false c1)]
        by_cases c2 : (m.f k).Time > 2147483648
        · rw [qo (decide_eq_true c2), get_bind arF]; exact ⟨_, rfl, .inl rfl⟩
        rw [qm (decide_eq_false c2)]
        by_cases c3 : (m.f k).Span.Low < -1099511627776
        · rw [qo (decide_eq_true c3), get_bind arF]; exact ⟨_, rfl, .inl rfl⟩
        rw [qm (decide_eq_false c3)]
        by_cases c4 : (m.f k).Span.High > 1099511627776
        · rw [qo (decide_eq_true c4), get_bind arF]; exact ⟨_, rfl, .inl rfl⟩
        rw [qm (decide_eq_false c4)]
        by_cases c5 : (m.f k).Span.Low > 1099511627776
        · rw [qo (decide_eq_true c5), get_bind arF]; exact ⟨_, rfl, .inl rfl⟩
        rw [qm (decide_eq_false c5)]
        by_cases c6 : (m.f k).Span.High < -1099511627776
        · rw [qo (decide_eq_true c6), get_bind arF]; exact ⟨_, rfl, .inl rfl⟩
        rw [qm (decide_eq_false c6)]
        refine ⟨_, rfl, ⟨k + 1, qc (by omega), hi, fun j hj => ?_⟩, by rw [qc (by omega)]; omega⟩
        rcases Nat.lt_or_ge j k with c | c
        · exact hf j c
        · rw [show j = k by omega]; unfold RawM; omega
      · obtain rfl : k = m.n := by omega
        rw [qm (dge (by omega))]
        exact ⟨_, rfl, .inr ⟨rfl, hf⟩⟩)
    0 ⟨0, rfl, Nat.zero_le _, fun j hj => absurd hj (Nat.not_lt_zero _)⟩
  rw [aaX]
  rcases g with rfl | ⟨rfl, g⟩
  · exact .inl hz
  · exact .inr ⟨hz, g⟩
theorem ar5 (codes : Sq Int) (hb : ∀ k, 0 ≤ codes.f k ∧ codes.f k ≤ 255) (l : Sq qG) (m : Sq qE) (time : Int) : (Fa codes l m time).get = some true := by
  unfold Fa
  by_cases c1 : ((l.n : Nat) : Int) > 10
  · rw [qo (decide_eq_true c1), get_bind arF]; rfl
  rw [qm (decide_eq_false c1)]
  by_cases c2 : ((m.n : Nat) : Int) > 10
  · rw [qo (decide_eq_true c2), get_bind arF]; rfl
  rw [qm (decide_eq_false c2)]
  rcases asy codes l (m := m) (by omega) time with e | ⟨e, raw⟩
  · rw [pV e]; rfl
  rw [pV e]
  dsimp only [Sum.elim]
  obtain ⟨c, e0, hc⟩ := aqk codes hb
  obtain ⟨a, s, x, b, e1, b0, b1, md⟩ := aos hc
  have nr := md.nr
  obtain ⟨_, qn⟩ := md.lens
  have qb : ∀ j, j < x.Flows.n → -1048576 ≤ x.Flows.f j ∧ x.Flows.f j ≤ 1048576 := fun j hj => md.fit.qb j (by omega)
  obtain ⟨F, b2, e2, p0, p1, Fn, _⟩ := arl (hc.at b0 b1) (by omega) qb
  obtain ⟨ls, ms, b3, e3, q0, q1, fd⟩ := arG (hc.at p0 p1) (by omega) qb false
  have mn := fd.mn
  obtain ⟨t, et, _, t1⟩ := aqj time 60 (by omega)
  obtain ⟨t0, t1⟩ := t1 (by omega)
  obtain ⟨O1, B1, f1, g1⟩ := aqw (F := F) (l := ls) (m := ms) (t := t) (by omega) (by omega) fun i hi _ => (fd.m i hi).ok t0 (by omega)
  obtain ⟨O2, B2, f2, g2⟩ := ard (F := F) (l := ls) (m := ms) (t := t) (by omega) (by omega) fun i hi _ => (fd.m i hi).ok t0 (by omega)
  obtain ⟨O3, B3, f3, g3⟩ := aqw (F := F) (l := l) (m := m) (t := t) (by omega) (by omega) fun i hi _ => (raw i hi).ok t0 t1
  obtain ⟨O4, B4, f4, g4⟩ := ard (F := F) (l := l) (m := m) (t := t) (by omega) (by omega) fun i hi _ => (raw i hi).ok t0 t1
  obtain ⟨h1, h2⟩ := g1.same g2 (by omega) (by omega)
  obtain ⟨h3, h4⟩ := g3.same g4 (by omega) (by omega)
  rw [get_bind e0, get_bind e1]
  dsimp only
  rw [get_bind e2]
  dsimp only
  rw [get_bind e3]
  dsimp only
  rw [get_bind et, get_bind f1, get_bind f2, get_bind f3, get_bind f4]
  dsimp only
  rw [get_bind h1, qo rfl, get_bind h2, qo rfl, get_bind h3, qo rfl, get_bind h4, qo rfl, get_bind arF]; rfl
end Go.Proofs.YtimkpfnbkclclaaGreat.Ab
