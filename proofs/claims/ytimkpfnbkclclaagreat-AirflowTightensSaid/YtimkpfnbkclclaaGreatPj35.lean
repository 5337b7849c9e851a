/- A part of the proof, what is needed of it. -/
import Derived.Test.YtimkpfnbkclclaaGreatPj11
import Derived.Test.YtimkpfnbkclclaaGreatPj24
import Derived.Test.YtimkpfnbkclclaaGreatPj26
import Derived.Test.YtimkpfnbkclclaaGreatPj34
namespace Go.Proofs.YtimkpfnbkclclaaGreat.Ab
open Go
theorem aqm : uO = some noS := by rw [agx]; rfl
theorem aqo (n lo hi : Int) : KT n lo hi = some (decide (lo ≤ n ∧ n ≤ hi)) := by
  rw [aiG]; unfold acL; simp only [DT.get_ite, DT.get_leaf]; split <;> simp_all <;> omega
theorem aqP (s : qG) : ∃ e, aa7 s = some e ∧ (e = 0 ↔ SnOK s) := by
  rw [ahv]; unfold W9
  rw [get_bind (aqo _ _ _)]
  by_cases c1 : 1 ≤ s.Kind ∧ s.Kind ≤ 6
  · rw [qm (by rw [decide_eq_true c1]; rfl), get_bind (aqo _ _ _)]
    by_cases c2 : 0 ≤ s.Address ∧ s.Address ≤ 255
    · rw [qm (by rw [decide_eq_true c2]; rfl)]
      by_cases c3 : s.Target < 0
      · rw [qo (decide_eq_true c3)]
        exact ⟨1, rfl, fun e => by omega, fun q => absurd q.2.2.1 (by omega)⟩
      · rw [qm (decide_eq_false c3), get_bind (aqo _ _ _)]
        by_cases c4 : -1000000 ≤ s.Offset ∧ s.Offset ≤ 1000000
        · rw [qm (by rw [decide_eq_true c4]; rfl), get_bind (aqo _ _ _)]
          by_cases c5 : -1000000 ≤ s.Scale ∧ s.Scale ≤ 1000000
          · rw [qm (by rw [decide_eq_true c5]; rfl), get_bind (aqo _ _ _)]
            by_cases c6 : 0 ≤ s.Error ∧ s.Error ≤ 1000000
            · rw [qm (by rw [decide_eq_true c6]; rfl), get_bind (aqo _ _ _)]
              by_cases c7 : 0 ≤ s.Drift ∧ s.Drift ≤ 1000000
              · rw [qm (by rw [decide_eq_true c7]; rfl), get_bind (aqo _ _ _)]
                by_cases c8 : 1 ≤ s.Life ∧ s.Life ≤ 1000000
                · rw [qm (by rw [decide_eq_true c8]; rfl)]
                  exact ⟨0, rfl, fun _ => ⟨c1, c2, by omega, ⟨c4, c5⟩, ⟨c6, c7⟩, c8⟩, fun _ => rfl⟩
                · rw [qo (by rw [decide_eq_false c8]; rfl)]
                  exact ⟨1, rfl, fun e => by omega, fun q => absurd q.2.2.2.2.2 c8⟩
              · rw [qo (by rw [decide_eq_false c7]; rfl)]
                exact ⟨1, rfl, fun e => by omega, fun q => absurd q.2.2.2.2.1.2 c7⟩
            · rw [qo (by rw [decide_eq_false c6]; rfl)]
              exact ⟨1, rfl, fun e => by omega, fun q => absurd q.2.2.2.2.1.1 c6⟩
          · rw [qo (by rw [decide_eq_false c5]; rfl)]
            exact ⟨1, rfl, fun e => by omega, fun q => absurd q.2.2.2.1.2 c5⟩
        · rw [qo (by rw [decide_eq_false c4]; rfl)]
          exact ⟨1, rfl, fun e => by omega, fun q => absurd q.2.2.2.1.1 c4⟩
    · rw [qo (by rw [decide_eq_false c2]; rfl)]
      exact ⟨1, rfl, fun e => by omega, fun q => absurd q.2.1 c2⟩
  · rw [qo (by rw [decide_eq_false c1]; rfl)]
    exact ⟨5, rfl, fun e => by omega, fun q => absurd q.1 c1⟩
theorem ara {s : qG} {m : qE} {t : Int} (k : s.Kind = 3) (h : MsOK m t) : adg s m t = some (atF s m t) := by
  obtain ⟨ht, hn, hl, hh⟩ := h
  rw [aiH]; unfold acM
  obtain ⟨e, ee, he⟩ := aqP s
  rw [get_bind ee]
  by_cases c : e = 0
  · have ok := he.1 c
    rw [qm (by rw [c]; rfl)]
    by_cases c1 : m.Sensor < 0
    · rw [qo (decide_eq_true c1), get_bind aqm]
      unfold atF; rw [if_neg fun q => absurd q.2.1 (by omega)]; rfl
    · rw [qm (decide_eq_false c1), get_bind aqm]
      by_cases c2 : m.Span.Low = -1125899906842624 ∧ m.Span.High = 1125899906842624
      · rw [qo (by rw [c2.1, c2.2]; rfl), get_bind aqm]
        unfold atF; rw [if_neg fun q => q.2.2.1 c2]; rfl
      · rw [qm (by unfold noS; simp; omega)]
        by_cases c3 : t < m.Time
        · rw [qo (decide_eq_true c3), get_bind aqm]
          unfold atF; rw [if_neg fun q => absurd q.2.2.2.1 (by omega)]; rfl
        · have l := ok.2.2.2.2.2
          rw [qm (decide_eq_false c3), pJ (x := t - m.Time) (by omega) (by omega)]
          by_cases c4 : t - m.Time > s.Life
          · rw [qo (decide_eq_true c4), get_bind aqm]
            unfold atF; rw [if_neg fun q => absurd q.2.2.2.2 (by omega)]; rfl
          · have sy : Says s m t := ⟨ok, by omega, c2, by omega, by omega⟩
            obtain ⟨f0, f1, f2, f3⟩ := arv sy
            have e1 : Nv s.Kind = some false := by rw [agy, k]; rfl
            have e2 : abb s.Kind = some false := by rw [ahx, k]; rfl
            have e3 : Yn (s.Drift * (t - m.Time)) 1000 = some (farI s m t) := by
              have hd : s.Drift * (t - m.Time) = 1000 * (s.Drift * (t - m.Time) / 1000) + s.Drift * (t - m.Time) % 1000 := by omega
              have fl := (an4 (w := 1000) (by omega) hd (by omega) (by omega) (by omega) (by omega)).1
              rw [amy _ _ rfl, pJ (x := 0 - s.Drift * (t - m.Time)) (by omega) (by omega), Int.zero_sub, Int.zero_sub, fl]
              unfold farI
              split
              · rw [pJ (by omega) (by omega)]; congr 1; omega
              · rw [pJ (by omega) (by omega)]; congr 1; omega
            rw [qm (decide_eq_false c4), get_bind e1, qm rfl, pJ (x := s.Drift * (t - m.Time)) (by omega) (by omega), get_bind e3, get_bind e2, qm rfl, pJ (by omega) (by omega), pJ (by omega) (by omega)]
            unfold atF; rw [if_pos sy]; rfl
  · rw [qo (by simp [c]), get_bind aqm]
    unfold atF; rw [if_neg fun q => c (he.2 q.1)]; rfl
theorem aqW (x y : qB) : Yt (Sq.mk 2 (fun k => (qB.mk (cond (Nat.beq k 0) x.Low y.Low) (cond (Nat.beq k 0) x.High y.High)))) = some (aqu x y) := by
  rw [aib]; unfold Zk
  have e : Xc (Sq.mk 2 (fun k => (qB.mk (cond (Nat.beq k 0) x.Low y.Low) (cond (Nat.beq k 0) x.High y.High)))) x.Low x.High 1 = some (.inl (if x.Low < y.Low then y.Low else x.Low, if y.High < x.High then y.High else x.High)) := by
    rw [agz]; exact fV (n := 2) (by kernel_rfl)
  refine (qm rfl).trans ((qo rfl).trans ((pV e).trans ?_))
  dsimp only [Sum.elim]
  show (DT.ite (decide ((aqF x y).Low > (aqF x y).High)) _ _).get = some (aqu x y)
  unfold aqu
  by_cases c : (aqF x y).Low > (aqF x y).High
  · rw [qo (decide_eq_true c), get_bind aqm, if_pos c]; rfl
  · rw [qm (decide_eq_false c), if_neg c]; rfl
end Go.Proofs.YtimkpfnbkclclaaGreat.Ab
namespace Go.Proofs.YtimkpfnbkclclaaGreat.Ab
open Go
def AscS (l : Sq Int) : Prop := ∀ p q, p < q → q < l.n → l.f p < l.f q
theorem AscS.add {B : Sq Int} {w : Int} (h : AscS B) (u : ∀ v, In B v → v < w) : AscS ⟨B.n + 1, fun k => cond (Nat.blt k B.n) (B.f k) w⟩ := by
  intro p q h1 h2
  dsimp only at h2 ⊢
  by_cases c : q < B.n
  · rw [ajf c, ajf (by omega)]; exact h p q h1 c
  · rw [ajl (k := q) (by omega), ajf (k := p) (by omega)]; exact u _ ⟨p, by omega, rfl⟩
structure AmI (l : Sq Int) (n : Int) (k : Nat) (d : Bool) (o : Sq Int) : Prop where
  a : AscS o
  i : ∀ v, In o v ↔ (∃ j, j < k ∧ l.f j = v) ∨ (d = true ∧ v = n)
  ne : ∀ j, j < k → l.f j ≠ n
  f : d = false → ∀ j, j < k → l.f j < n
  t : d = true → ∃ j, j < k ∧ n < l.f j
  nn : o.n = k + cond d 1 0
theorem AmI.last {l : Sq Int} {n : Int} {k : Nat} {d : Bool} {o : Sq Int} (h : AmI l n k d o) (hl : AscS l) (hk : k < l.n) : ∀ v, In o v → v < l.f k := fun v hv => by
  rcases (h.i v).1 hv with ⟨j, hj, e⟩ | ⟨e, e2⟩
  · rw [← e]; exact hl j k hj hk
  · obtain ⟨j, hj, q⟩ := h.t e
    have := hl j k hj hk
    omega
theorem aqx {k j : Nat} {P : Nat → Prop} (h : ∀ j, j < k → P j) (e : P k) (hj : j < k + 1) : P j := by
  rcases Nat.lt_or_ge j k with c | c
  · exact h j c
  · rw [show j = k by omega]; exact e
theorem AmI.next {l : Sq Int} {n : Int} {k : Nat} {d : Bool} {o : Sq Int} (h : AmI l n k d o) (hl : AscS l) (hk : k < l.n) (ne : l.f k ≠ n) (hd : d = false → l.f k < n) : AmI l n (k + 1) d ⟨o.n + 1, fun k' => cond (Nat.blt k' o.n) (o.f k') (l.f k)⟩ := by
  refine ⟨h.a.add (h.last hl hk), fun v => ?_, fun j hj => aqx h.ne ne hj, fun e j hj => aqx (h.f e) (hd e) hj, fun e => ?_, by have := h.nn; dsimp only; omega⟩
  · rw [aq7, h.i v]
    constructor
    · rintro ((⟨j, hj, e⟩ | q) | q)
      · exact .inl ⟨j, by omega, e⟩
      · exact .inr q
      · exact .inl ⟨k, by omega, q.symm⟩
    · rintro (⟨j, hj, e⟩ | q)
      · rcases Nat.lt_or_ge j k with c | c
        · exact .inl (.inl ⟨j, c, e⟩)
        · rw [show j = k by omega] at e; exact .inr e.symm
      · exact .inl (.inr q)
  · obtain ⟨j, hj, q⟩ := h.t e
    exact ⟨j, by omega, q⟩
theorem AmI.put {l : Sq Int} {n : Int} {k : Nat} {o : Sq Int} (h : AmI l n k false o) : AscS ⟨o.n + 1, fun k' => cond (Nat.blt k' o.n) (o.f k') n⟩ ∧ ∀ v, In ⟨o.n + 1, fun k' => cond (Nat.blt k' o.n) (o.f k') n⟩ v ↔ (∃ j, j < k ∧ l.f j = v) ∨ v = n := by
  refine ⟨h.a.add fun v hv => ?_, fun v => ?_⟩
  · rcases (h.i v).1 hv with ⟨j, hj, e⟩ | ⟨e, _⟩
    · rw [← e]; exact h.f rfl j hj
    · cases e
  · rw [aq7, h.i v]
    exact ⟨fun q => q.elim (fun q => q.elim .inl fun e => by cases e.1) .inr, fun q => q.elim (fun e => .inl (.inl e)) .inr⟩
theorem AmI.put2 {l : Sq Int} {n : Int} {k : Nat} {o : Sq Int} (h : AmI l n k false o) (hl : AscS l) (hk : k < l.n) (gt : l.f k > n) : AmI l n (k + 1) true ⟨(o.n + 1) + 1, fun k' => cond (Nat.blt k' (o.n + 1)) (cond (Nat.blt k' o.n) (o.f k') n) (l.f k)⟩ := by
  obtain ⟨a, i⟩ := h.put
  have b : AscS ⟨(o.n + 1) + 1, fun k' => cond (Nat.blt k' (o.n + 1)) (cond (Nat.blt k' o.n) (o.f k') n) (l.f k)⟩ := AscS.add (B := ⟨o.n + 1, fun k' => cond (Nat.blt k' o.n) (o.f k') n⟩) a fun v hv => by
    rcases (i v).1 hv with ⟨j, hj, e⟩ | e
    · rw [← e]; exact hl j k hj hk
    · omega
  refine ⟨b, fun v => ?_, fun j hj => aqx h.ne (by omega) hj, fun e => (by cases e), fun _ => ⟨k, by omega, gt⟩, by have := h.nn; dsimp only [cond] at this ⊢; omega⟩
  rw [show (In ⟨(o.n + 1) + 1, fun k' => cond (Nat.blt k' (o.n + 1)) (cond (Nat.blt k' o.n) (o.f k') n) (l.f k)⟩ v ↔ In ⟨o.n + 1, fun k' => cond (Nat.blt k' o.n) (o.f k') n⟩ v ∨ v = l.f k) from aq7 (B := ⟨o.n + 1, fun k' => cond (Nat.blt k' o.n) (o.f k') n⟩), i v]
  constructor
  · rintro ((⟨j, hj, e⟩ | q) | q)
    · exact .inl ⟨j, by omega, e⟩
    · exact .inr ⟨rfl, q⟩
    · exact .inl ⟨k, by omega, q.symm⟩
  · rintro (⟨j, hj, e⟩ | q)
    · rcases Nat.lt_or_ge j k with c | c
      · exact .inl (.inl ⟨j, c, e⟩)
      · rw [show j = k by omega] at e; exact .inr e.symm
    · exact .inl (.inr q.2)
theorem arp {l : Sq Int} (hl : AscS l) (hn : l.n ≤ 1000) (n : Int) : ∃ r, abr l n = some r ∧ AscS r ∧ r.n ≤ l.n + 1 ∧ ∀ v, In r v ↔ In l v ∨ v = n := by
  obtain ⟨z, hz, g⟩ := pY (step := fun v : Sq Int × Bool × Int => J2 l n v.1 v.2.1 v.2.2)
    (fun v => ∃ k : Nat, v.2.2 = k ∧ k ≤ l.n ∧ AmI l n k v.2.1 v.1) (fun v => l.n - v.2.2.toNat)
    (fun z => (∃ y, z = .inl y ∧ AmI l n l.n y.1 y.2) ∨ (∃ y, z = .inr y) ∧ In l n) (fun v hv => by
      obtain ⟨o, d, x⟩ := v
      obtain ⟨k, h1, hk, h⟩ := hv
      dsimp only at h1 h ⊢
      subst h1
      unfold J2
      rcases Nat.lt_or_ge k l.n with hi | hi
      · have dn : l.n - (wr ((k : Int) + 1)).toNat < l.n - (k : Int).toNat := by rw [qc (by omega)]; omega
        have nx := qc (i := k) (by omega)
        have on : o.n ≤ k + 1 := by have := h.nn; cases d <;> dsimp only [cond] at this <;> omega
        rw [qo (dlt hi), qo (dix hi), pI]
        by_cases c : l.f k = n
        · rw [qo (by rw [c]; simp)]
          exact ⟨_, rfl, .inr ⟨⟨_, rfl⟩, k, hi, c⟩⟩
        · rw [qm (by simpa using c), qo (dix hi)]
          by_cases c2 : l.f k > n
          · rw [qo (decide_eq_true c2)]
            cases d with
            | false =>
              rw [qo (b := !false) rfl, qo (decide_eq_true ⟨by omega, by omega⟩), qo (dix hi), qo (decide_eq_true ⟨by omega, by omega⟩)]
              exact ⟨_, rfl, ⟨k + 1, nx, hi, h.put2 hl hi c2⟩, dn⟩
            | true =>
              rw [qm (b := !true) rfl, qo (dix hi), qo (decide_eq_true ⟨by omega, by omega⟩)]
              exact ⟨_, rfl, ⟨k + 1, nx, hi, h.next hl hi c fun e => by cases e⟩, dn⟩
          · rw [qm (decide_eq_false c2), qo (dix hi), qo (decide_eq_true ⟨by omega, by omega⟩)]
            exact ⟨_, rfl, ⟨k + 1, nx, hi, h.next hl hi c fun _ => by omega⟩, dn⟩
      · obtain rfl : k = l.n := by omega
        rw [qm (dge (by omega))]
        exact ⟨_, rfl, .inl ⟨_, rfl, h⟩⟩)
    (⟨0, fun _ => 0⟩, false, 0) ⟨0, rfl, Nat.zero_le _, fun _ _ _ q => absurd q (Nat.not_lt_zero _), fun v => ⟨fun ⟨_, q, _⟩ => absurd q (Nat.not_lt_zero _), fun q => q.elim (fun ⟨_, q, _⟩ => absurd q (Nat.not_lt_zero _)) fun q => by cases q.1⟩, fun _ q => absurd q (Nat.not_lt_zero _), fun _ _ q => absurd q (Nat.not_lt_zero _), fun q => (by cases q), rfl⟩
  rw [ahN]; unfold XA
  have es : Uv l n ⟨0, fun _ => 0⟩ false 0 = some z := by rw [afX]; exact hz
  rw [pV es]
  rcases g with ⟨⟨d, o⟩, rfl, h⟩ | ⟨⟨y, rfl⟩, h⟩
  · dsimp only [Sum.elim]
    have on := h.nn
    cases d with
    | false =>
      have hh : AmI l n l.n false o := h
      have on : o.n = l.n := by have := hh.nn; dsimp only [cond] at this; omega
      rw [qo (b := !false) rfl, qo (decide_eq_true ⟨by omega, by omega⟩)]
      exact ⟨_, rfl, hh.put.1, by dsimp only; omega, fun v => hh.put.2 v⟩
    | true =>
      have hh : AmI l n l.n true o := h
      have on : o.n = l.n + 1 := by have := hh.nn; dsimp only [cond] at this; omega
      rw [qm (b := !true) rfl]
      exact ⟨_, rfl, hh.a, by omega, fun v => (hh.i v).trans ⟨fun q => q.elim .inl fun e => .inr e.2, fun q => q.elim .inl fun e => .inr ⟨rfl, e⟩⟩⟩
  · exact ⟨l, rfl, hl, by omega, fun v => ⟨.inl, fun q => q.elim id fun e => by rw [e]; exact h⟩⟩
structure TIr (F : Sq qB) (T : TS) (k : Nat) (B : Sq Int) (Z : Sq Bool) (O : Sq qB) : Prop where
  on : O.n = F.n
  oe : ∀ j, j < F.n → O.f j = T.o j
  zn : Z.n = F.n
  ze : ∀ j, j < F.n → Z.f j = T.z j
  bn : B.n ≤ k
  ba : AscS B
  bi : ∀ v, In B v ↔ T.b v
theorem aqz {F : Sq qB} {l : Sq qG} {m : Sq qE} {t : Int} (hm : m.n ≤ 12) (ms : ∀ i, i < m.n → Tgt F.n l (m.f i) → MsOK (m.f i) t) :
    ∃ O Z B, OL F l m t ⟨0, fun _ => 0⟩ ⟨F.n, fun _ => false⟩ 0 F = some (.inl (B, O, Z)) ∧ TIr F (trun F l m t m.n) m.n B Z O := by
  obtain ⟨z, hz, O, Z, B, rfl, g⟩ := pY (step := fun v : Sq Int × Sq Bool × Int × Sq qB => G7 F l m t v.1 v.2.1 v.2.2.1 v.2.2.2)
    (fun v => ∃ k : Nat, v.2.2.1 = k ∧ k ≤ m.n ∧ TIr F (trun F l m t k) k v.1 v.2.1 v.2.2.2) (fun v => m.n - v.2.2.1.toNat)
    (fun z => ∃ O Z B, z = .inl (B, O, Z) ∧ TIr F (trun F l m t m.n) m.n B Z O) (fun v hv => by
      obtain ⟨B, Z, x, O⟩ := v
      obtain ⟨k, h1, hk, h⟩ := hv
      dsimp only at h1 h ⊢
      subst h1
      unfold G7
      rcases Nat.lt_or_ge k m.n with hi | hi
      · have dn : m.n - (wr ((k : Int) + 1)).toNat < m.n - (k : Int).toNat := by rw [qc (by omega)]; omega
        have nx := qc (i := k) (by omega)
        have on := h.on
        have zn := h.zn
        have bn := h.bn
        have mk := ms k hi
        have same : trun F l m t (k + 1) = trun F l m t k → TIr F (trun F l m t (k + 1)) (k + 1) B Z O := fun e => by
          rw [e]; exact ⟨h.on, h.oe, h.zn, h.ze, Nat.le_trans bn (Nat.le_succ k), h.ba, h.bi⟩
        have skip : ¬ Tgt F.n l (m.f k) → TIr F (trun F l m t (k + 1)) (k + 1) B Z O := fun c => same (aqK fun q => c q.1)
        rw [qo (dlt hi), qo (dix hi), pI]
        by_cases c0 : (m.f k).Sensor < 0
        · rw [qo (decide_eq_true c0)]
          exact ⟨_, rfl, ⟨k + 1, nx, hi, skip fun q => absurd q.1 (by omega)⟩, dn⟩
        rw [qm (decide_eq_false c0)]
        by_cases c1 : (m.f k).Sensor ≥ l.n
        · rw [qo (decide_eq_true c1)]
          exact ⟨_, rfl, ⟨k + 1, nx, hi, skip fun q => absurd q.2.1 (by omega)⟩, dn⟩
        have ix : decide ((0 : Int) ≤ (m.f k).Sensor ∧ (m.f k).Sensor < ((l.n : Nat) : Int)) = true := decide_eq_true ⟨by omega, by omega⟩
        rw [qm (decide_eq_false c1), qo ix]
        by_cases c2 : (l.f (m.f k).Sensor.toNat).Kind = 3
        case neg =>
          rw [qo (by simpa using c2)]
          exact ⟨_, rfl, ⟨k + 1, nx, hi, skip fun q => c2 q.2.2.1⟩, dn⟩
        rw [qm (by rw [c2]; rfl), qo ix]
        by_cases c3 : (l.f (m.f k).Sensor.toNat).Target < 0
        · rw [qo (decide_eq_true c3)]
          exact ⟨_, rfl, ⟨k + 1, nx, hi, skip fun q => absurd q.2.2.2.1 (by omega)⟩, dn⟩
        rw [qm (decide_eq_false c3), qo ix]
        by_cases c4 : (l.f (m.f k).Sensor.toNat).Target ≥ F.n
        · rw [qo (decide_eq_true c4)]
          exact ⟨_, rfl, ⟨k + 1, nx, hi, skip fun q => absurd q.2.2.2.2 (by omega)⟩, dn⟩
        have c : Tgt F.n l (m.f k) := ⟨by omega, by omega, c2, by omega, by omega⟩
        have ms' := mk c
        have hr : (l.f (m.f k).Sensor.toNat).Target.toNat < F.n := by omega
        have oe := h.oe _ hr
        have ze := h.ze _ hr
        have iz : decide ((0 : Int) ≤ (l.f (m.f k).Sensor.toNat).Target ∧ (l.f (m.f k).Sensor.toNat).Target < ((Z.n : Nat) : Int)) = true := decide_eq_true ⟨by omega, by omega⟩
        have io : decide ((0 : Int) ≤ (l.f (m.f k).Sensor.toNat).Target ∧ (l.f (m.f k).Sensor.toNat).Target < ((O.n : Nat) : Int)) = true := decide_eq_true ⟨by omega, by omega⟩
        rw [qm (decide_eq_false c4), qo ix, qo iz]
        cases ez : Z.f (l.f (m.f k).Sensor.toNat).Target.toNat with
        | true =>
          rw [qo rfl]
          exact ⟨_, rfl, ⟨k + 1, nx, hi, same (aqK fun q => by have := q.2; unfold rdOf at this; rw [← ze, ez] at this; cases this)⟩, dn⟩
        | false =>
          have z0 : (trun F l m t k).z (l.f (m.f k).Sensor.toNat).Target.toNat = false := by rw [← ze, ez]
          rw [qm rfl, qo ix, qo io, qo ix, qo (dix hi), get_bind (ara c2 ms'), get_bind (aqW _ _), qo io]
          rw [oe]
          have go := fun y e => aqJ (F := F) (t := t) (y := y) (r := (l.f (m.f k).Sensor.toNat).Target.toNat) (rfl : m.f k = m.f k) rfl e c z0
          generalize ey : aqu ((trun F l m t k).o (l.f (m.f k).Sensor.toNat).Target.toNat) (atF (l.f (m.f k).Sensor.toNat) (m.f k) t) = y
          have tg := go y ey
          obtain ⟨y1, y2⟩ := y
          have o' : ∀ j, j < F.n → (qB.mk (cond (Nat.beq j (l.f (m.f k).Sensor.toNat).Target.toNat) y1.Low (O.f j).Low) (cond (Nat.beq j (l.f (m.f k).Sensor.toNat).Target.toNat) y1.High (O.f j).High)) = if j = (l.f (m.f k).Sensor.toNat).Target.toNat then y1 else (trun F l m t k).o j := fun j hj => by
            by_cases q : j = (l.f (m.f k).Sensor.toNat).Target.toNat
            · rw [ajw q, if_pos q]; rfl
            · rw [ajM q, if_neg q]; exact h.oe j hj
          cases y2 with
          | false =>
            obtain ⟨r, er, ra, rn, ri⟩ := arp h.ba (by omega) (m.f k).Sensor
            rw [qo (b := !false) rfl, qo iz, get_bind er]
            refine ⟨_, rfl, ⟨k + 1, nx, hi, ?_⟩, dn⟩
            rw [tg]
            refine ⟨on, o', zn, fun j hj => ?_, Nat.le_trans rn (Nat.succ_le_succ bn), ra, fun v => ?_⟩
            · dsimp only
              by_cases q : j = (l.f (m.f k).Sensor.toNat).Target.toNat
              · rw [ajw q, if_pos q]; rfl
              · rw [ajM q, if_neg q]; exact h.ze j hj
            · rw [ri v, h.bi v]
              exact ⟨fun q => q.imp id fun e => ⟨rfl, e⟩, fun q => q.imp id fun e => e.2⟩
          | true =>
            rw [qm (b := !true) rfl]
            refine ⟨_, rfl, ⟨k + 1, nx, hi, ?_⟩, dn⟩
            rw [tg]
            refine ⟨on, o', zn, fun j hj => ?_, Nat.le_trans bn (Nat.le_succ k), h.ba, fun v => ?_⟩
            · dsimp only
              by_cases q : j = (l.f (m.f k).Sensor.toNat).Target.toNat
              · rw [if_pos q, q, ez]; rfl
              · rw [if_neg q]; exact h.ze j hj
            · rw [h.bi v]
              exact ⟨.inl, fun q => q.elim id fun e => by cases e.1⟩
      · obtain rfl : k = m.n := by omega
        rw [qm (dge (by omega))]
        exact ⟨_, rfl, _, _, _, rfl, h⟩)
    (⟨0, fun _ => 0⟩, ⟨F.n, fun _ => false⟩, 0, F) ⟨0, rfl, Nat.zero_le _, rfl, fun _ _ => rfl, rfl, fun _ _ => rfl, Nat.le_refl _, fun _ _ _ h => absurd h (Nat.not_lt_zero _), fun v => ⟨fun ⟨_, q, _⟩ => absurd q (Nat.not_lt_zero _), fun q => q.elim⟩⟩
  exact ⟨O, Z, B, by rw [aeN]; exact hz, g⟩
theorem ard {F : Sq qB} {l : Sq qG} {m : Sq qE} {t : Int} (hF : F.n ≤ 1000) (hm : m.n ≤ 12) (ms : ∀ i, i < m.n → Tgt F.n l (m.f i) → MsOK (m.f i) t) :
    ∃ O B, NC F l m t = some (O, B) ∧ TgOK F l m t O B := by
  obtain ⟨O, Z, B, e, h⟩ := aqz hm ms
  rw [agG]; unfold Rn
  rw [qo (decide_eq_true ⟨by omega, by omega⟩), qo (decide_eq_true ⟨by omega, by omega, by omega, by omega⟩), pI, pV e]
  exact ⟨O, B, rfl, h.on, h.oe, h.ba, h.bi, h.bn⟩
end Go.Proofs.YtimkpfnbkclclaaGreat.Ab
