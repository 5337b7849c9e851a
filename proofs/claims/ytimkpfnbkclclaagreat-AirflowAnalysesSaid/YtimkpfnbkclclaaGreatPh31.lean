/- A part of the proof, what is needed of it. -/
import Derived.Test.YtimkpfnbkclclaaGreatPh26
import Derived.Test.YtimkpfnbkclclaaGreatPh29
import Derived.Test.YtimkpfnbkclclaaGreatPh30
namespace Go.Proofs.YtimkpfnbkclclaaGreat.Ab
noncomputable section
open Go
def setS (l : Sq Int) (k : Nat) (v : Int) : Sq Int := ⟨l.n, fun j => cond (Nat.beq j k) v (l.f j)⟩
theorem akG (l : Sq Int) (k : Nat) (v : Int) : (setS l k v).f k = v := by
  show cond _ _ _ = _
  rw [ajw rfl]; rfl
theorem ajj (l : Sq Int) {k j : Nat} (v : Int) (h : j ≠ k) : (setS l k v).f j = l.f j := by
  show cond _ _ _ = _
  rw [ajM h]; rfl
theorem aiV.set {a : SAir} {l : Sq Int} (h : aiV a l) (k : Nat) {v : Int} (v0 : -70368744177664 ≤ v) (v1 : v ≤ 70368744177664) : aiV a (setS l k v) := by
  refine ⟨h.n, fun j hj => ?_⟩
  by_cases c : j = k
  · rw [c, akG]; exact ⟨v0, v1⟩
  · rw [ajj l v c]; exact h.f j hj
def Fx (a : SAir) (k : Nat) : Prop := (a.Mine.Places.f k).Surface = true ∨ ¬ Aw a.Mine k
def aiZ (a : SAir) (s : qz) (up : Bool) (l : Sq Int) (k : Nat) : Int × Bool := cond up ((afb a s l k).getD (0, false)) ((acP a s l k).getD (0, false))
theorem ajx {a : SAir} {s : qz} {l : Sq Int} {k : Nat} (h : PrOK a s l k) : afb a s l k = some (aiZ a s true l k) ∧ ajL (NL a s l k) (l.f k) (aiZ a s true l k) := by
  obtain ⟨r, e, hr⟩ := am1 h
  rw [pI] at hr
  have q : aiZ a s true l k = r := by unfold aiZ; rw [e]; rfl
  rw [q]; exact ⟨e, hr⟩
theorem ajr {a : SAir} {s : qz} {l : Sq Int} {k : Nat} (h : PrOK a s l k) : acP a s l k = some (aiZ a s false l k) ∧ ai5 (NH a s l k) (l.f k) (aiZ a s false l k) := by
  obtain ⟨r, e, hr⟩ := al8 h
  rw [pI] at hr
  have q : aiZ a s false l k = r := by unfold aiZ; rw [e]; rfl
  rw [q]; exact ⟨e, hr⟩
theorem alg {a : SAir} {s : qz} {l : Sq Int} {k : Nat} (h : PrOK a s l k) (up : Bool) (e : (aiZ a s up l k).2 = true) : -70368744177664 ≤ (aiZ a s up l k).1 ∧ (aiZ a s up l k).1 ≤ 70368744177664 := by
  have own := h.Pp.f k (by have := h.p1; omega)
  cases up with
  | true =>
    rcases (ajx h).2 with ⟨_, a1, a2, _⟩ | ⟨a1, _⟩
    · omega
    · rw [a1] at e; cases e
  | false =>
    rcases (ajr h).2 with ⟨_, a1, a2, _⟩ | ⟨a1, _⟩
    · omega
    · rw [a1] at e; cases e
open Classical in
def aiW (a : SAir) (s : qz) (up : Bool) : Nat → Nat → Bool → Sq Int → Option (Bool × Sq Int)
  | 0, _, ch, l => some (ch, l)
  | m + 1, k, ch, l => if Fx a k then aiW a s up m (k + 1) ch l else if (aiZ a s up l k).2 = true then aiW a s up m (k + 1) (ch || ((aiZ a s up l k).1 != l.f k)) (setS l k (aiZ a s up l k).1) else none
theorem ajC {a : SAir} {s : qz} {up : Bool} {m k : Nat} {ch : Bool} {l : Sq Int} (h : Fx a k) : aiW a s up (m + 1) k ch l = aiW a s up m (k + 1) ch l := if_pos h
theorem ajD {a : SAir} {s : qz} {up : Bool} {m k : Nat} {ch : Bool} {l : Sq Int} (h : ¬ Fx a k) (e : (aiZ a s up l k).2 = true) : aiW a s up (m + 1) k ch l = aiW a s up m (k + 1) (ch || ((aiZ a s up l k).1 != l.f k)) (setS l k (aiZ a s up l k).1) := (if_neg h).trans (if_pos e)
theorem akF {a : SAir} {s : qz} {up : Bool} {m k : Nat} {ch : Bool} {l : Sq Int} (h : ¬ Fx a k) (e : ¬ (aiZ a s up l k).2 = true) : aiW a s up (m + 1) k ch l = none := (if_neg h).trans (if_neg e)
def ai1 (a : SAir) (s : qz) (up : Bool) : Nat → Sq Int → Option (Sq Int)
  | 0, _ => none
  | r + 1, l => (aiW a s up a.Mine.Places.n 0 false l).bind fun y => cond y.1 (ai1 a s up r y.2) (some y.2)
theorem ajU {a : SAir} {s : qz} {up : Bool} (rt : aiR a s = true) (I : Nat → Bool → Sq Int → Prop)
    (h : ∀ k ch l, k < a.Mine.Places.n → aiV a l → I k ch l → (Fx a k → I (k + 1) ch l) ∧ (¬ Fx a k → (aiZ a s up l k).2 = true → I (k + 1) (ch || ((aiZ a s up l k).1 != l.f k)) (setS l k (aiZ a s up l k).1))) :
    ∀ m k ch l, k + m = a.Mine.Places.n → aiV a l → I k ch l → ∀ y, aiW a s up m k ch l = some y → aiV a y.2 ∧ I a.Mine.Places.n y.1 y.2 := by
  intro m
  induction m with
  | zero =>
    intro k ch l hk hl hi y e
    obtain rfl : (ch, l) = y := Option.some.inj e
    rw [show a.Mine.Places.n = k by omega]
    exact ⟨hl, hi⟩
  | succ m ih =>
    intro k ch l hk hl hi y e
    have q := h k ch l (by omega) hl hi
    by_cases c : Fx a k
    · rw [ajC c] at e
      exact ih (k + 1) ch l (by omega) hl (q.1 c) y e
    · by_cases c2 : (aiZ a s up l k).2 = true
      · rw [ajD c c2] at e
        have b := alg (a := a) (s := s) (l := l) (k := k) ⟨rt, hl, by omega, by have := hl.n; omega⟩ up c2
        exact ih (k + 1) _ _ (by omega) (hl.set k b.1 b.2) (q.2 c c2) y e
      · rw [akF c c2] at e; cases e
theorem ajS {a : SAir} {s : qz} {up : Bool} (J : Nat → Sq Int → Prop)
    (h : ∀ r l, aiV a l → J (r + 1) l → ∀ y, aiW a s up a.Mine.Places.n 0 false l = some y → aiV a y.2 ∧ J r y.2) :
    ∀ r l, aiV a l → J r l → ∀ y, ai1 a s up r l = some y → aiV a y ∧ ∃ r', r' < r ∧ J r' y ∧ ∃ l', aiV a l' ∧ J (r' + 1) l' ∧ aiW a s up a.Mine.Places.n 0 false l' = some (false, y) := by
  intro r
  induction r with
  | zero => intro l _ _ y e; cases e
  | succ r ih =>
    intro l hl hj y e
    unfold ai1 at e
    cases er : aiW a s up a.Mine.Places.n 0 false l with
    | none => rw [er] at e; cases e
    | some z =>
      rw [er] at e
      obtain ⟨p, j⟩ := h r l hl hj z er
      obtain ⟨c, z⟩ := z
      cases c with
      | true =>
        obtain ⟨p, r', hr, q⟩ := ih z p j y e
        exact ⟨p, r', by omega, q⟩
      | false =>
        obtain rfl : z = y := Option.some.inj e
        exact ⟨p, r, by omega, j, l, hl, hj, er⟩
theorem am2 {a : SAir} {s : qz} (rt : aiR a s = true) (up : Bool) (st : Sq Int) {t : Sq Bool} (tn : t.n = a.Mine.Places.n) (ht : ∀ v : Nat, v < a.Mine.Places.n → (t.f v = true ↔ Fx a v)) (n : Int) :
    ∀ m k ch l, k + m = a.Mine.Places.n → aiV a l → (∃ y, aiW a s up m k ch l = some y ∧ aiV a y.2 ∧ Rf up st a.Mine.Places a.Mine.Roads a.Fans a.Doors s.Fans s.Doors t n (k : Int) ch l = some (.inl y)) ∨
      (aiW a s up m k ch l = none ∧ ∃ y, Rf up st a.Mine.Places a.Mine.Roads a.Fans a.Doors s.Fans s.Doors t n (k : Int) ch l = some (.inr y)) := by
  have ok := aiU rt
  have np := ok.m.np
  intro m
  induction m with
  | zero =>
    intro k ch l hk hl
    have ln := hl.n
    refine .inl ⟨(ch, l), rfl, hl, ?_⟩
    rw [aff]
    refine (aP (x := .l (ch, l)) ?_).trans rfl
    dsimp only
    unfold Iw
    rw [qm (dge (by omega))]; rfl
  | succ m ih =>
    intro k ch l hk hl
    have ln := hl.n
    have nk : wr ((k : Int) + 1) = ((k + 1 : Nat) : Int) := qc (by omega)
    have pr : PrOK a s l k := ⟨rt, hl, by omega, by omega⟩
    have nx : ∀ (ch' : Bool) (l' : Sq Int), (Iw up st a.Mine.Places a.Mine.Roads a.Fans a.Doors s.Fans s.Doors t n (k : Int) ch l).get = some (.next (((k + 1 : Nat) : Int), ch', l')) →
        Rf up st a.Mine.Places a.Mine.Roads a.Fans a.Doors s.Fans s.Doors t n (k : Int) ch l = Rf up st a.Mine.Places a.Mine.Roads a.Fans a.Doors s.Fans s.Doors t n ((k + 1 : Nat) : Int) ch' l' := fun ch' l' e => by
      rw [aff, aff]
      exact aP (x := .next (((k + 1 : Nat) : Int), ch', l')) e
    have hc : ∀ (r : Int × Bool), r.2 = true → (DT.ite (!r.2) (.leaf (.r (ch, l))) (.ite ch (.ite (decide ((0 : Int) ≤ (k : Int) ∧ (k : Int) < ((l.n : Nat) : Int))) (.leaf (.next (((k + 1 : Nat) : Int), true, (Sq.mk l.n (fun j => (cond (Nat.beq j k) r.1 (l.f j))))))) .fail)
        (.ite (decide ((0 : Int) ≤ (k : Int) ∧ (k : Int) < ((l.n : Nat) : Int))) (.ite (decide ((0 : Int) ≤ (k : Int) ∧ (k : Int) < ((l.n : Nat) : Int))) (.leaf (.next (((k + 1 : Nat) : Int), (r.1 != l.f k), (Sq.mk l.n (fun j => (cond (Nat.beq j k) r.1 (l.f j))))))) .fail) .fail)) : DT (LR (Int × Bool × Sq Int) (Bool × Sq Int) (Bool × Sq Int))).get = some (.next (((k + 1 : Nat) : Int), (ch || (r.1 != l.f k)), setS l k r.1)) := fun r e => by
      rw [e, qm (b := !true) rfl]
      cases ch with
      | true => rw [qo rfl, qo (dix (by omega))]; rfl
      | false => rw [qm rfl, qo (dix (by omega)), qo (dix (by omega))]; rfl
    have hd : ∀ (r : Int × Bool) (Z : DT (LR (Int × Bool × Sq Int) (Bool × Sq Int) (Bool × Sq Int))), ¬ r.2 = true → (DT.ite (!r.2) (.leaf (.r (ch, l))) Z).get = some (.r (ch, l)) := fun r Z e => by
      rw [qo (by simpa using e)]; rfl
    by_cases c : Fx a k
    · rw [ajC c, nx ch l (by
        unfold Iw
        rw [qo (dlt (by omega)), qo (dix (by omega)), pI, qo ((ht k (by omega)).2 c), nk]; rfl)]
      exact ih (k + 1) ch l (by omega) hl
    · have tf : t.f k = false := by
        cases e : t.f k with
        | false => rfl
        | true => exact absurd ((ht k (by omega)).1 e) c
      by_cases c2 : (aiZ a s up l k).2 = true
      · rw [ajD c c2, nx (ch || ((aiZ a s up l k).1 != l.f k)) (setS l k (aiZ a s up l k).1) (by
          unfold Iw
          rw [qo (dlt (by omega)), qo (dix (by omega)), pI, qm tf, nk]
          cases up with
          | true => rw [qo rfl]; exact (get_bind (ajx pr).1).trans (hc _ c2)
          | false => rw [qm rfl]; exact (get_bind (ajr pr).1).trans (hc _ c2))]
        have b := alg pr up c2
        exact ih (k + 1) _ _ (by omega) (hl.set k b.1 b.2)
      · refine .inr ⟨akF c c2, (ch, l), ?_⟩
        rw [aff]
        refine (aP (x := .r (ch, l)) ?_).trans rfl
        dsimp only
        unfold Iw
        rw [qo (dlt (by omega)), qo (dix (by omega)), pI, qm tf]
        cases up with
        | true => rw [qo rfl]; exact (get_bind (ajx pr).1).trans (hd _ _ c2)
        | false => rw [qm rfl]; exact (get_bind (ajr pr).1).trans (hd _ _ c2)
theorem anF {a : SAir} {s : qz} (rt : aiR a s = true) (up : Bool) (st : Sq Int) {t : Sq Bool} (tn : t.n = a.Mine.Places.n) (ht : ∀ v : Nat, v < a.Mine.Places.n → (t.f v = true ↔ Fx a v)) :
    ∀ (r : Nat) (n : Int) (l : Sq Int), n + (r : Int) = 200 → 0 ≤ n → aiV a l → (∃ y, ai1 a s up r l = some y ∧ aiV a y ∧ Uu up st a.Mine.Places a.Mine.Roads a.Fans a.Doors s.Fans s.Doors t n l = some (.inr (.inl y))) ∨
      (ai1 a s up r l = none ∧ ((∃ y, Uu up st a.Mine.Places a.Mine.Roads a.Fans a.Doors s.Fans s.Doors t n l = some (.inl y)) ∨ ∃ y, Uu up st a.Mine.Places a.Mine.Roads a.Fans a.Doors s.Fans s.Doors t n l = some (.inr (.inr y)))) := by
  intro r
  induction r with
  | zero =>
    intro n l hn h0 hl
    refine .inr ⟨rfl, .inl ⟨l, ?_⟩⟩
    rw [afW]
    refine (aP (x := .l l) ?_).trans rfl
    dsimp only
    unfold JZ
    rw [qm (decide_eq_false (by omega))]; rfl
  | succ r ih =>
    intro n l hn h0 hl
    have g := am2 rt up st tn ht n a.Mine.Places.n 0 false l (by omega) hl
    rw [show ((0 : Nat) : Int) = 0 from rfl] at g
    have stp : ∀ x, (JZ up st a.Mine.Places a.Mine.Roads a.Fans a.Doors s.Fans s.Doors t n l).get = some x → Uu up st a.Mine.Places a.Mine.Roads a.Fans a.Doors s.Fans s.Doors t n l = LR.elim (fixO fun v : Int × Sq Int => JZ up st a.Mine.Places a.Mine.Roads a.Fans a.Doors s.Fans s.Doors t v.1 v.2) (fun a => some (.inl a)) (fun b => some (.inr b)) x := fun x e => by
      rw [afW]
      exact aP e
    have un : ∀ {x}, (DT.sum (Rf up st a.Mine.Places a.Mine.Roads a.Fans a.Doors s.Fans s.Doors t n (0 : Int) false l) (fun y0 => .ite (!y0.1) (.leaf (.r (Sum.inl (y0.2)))) (.leaf (.next ((wr (n + (1 : Int))), y0.2)))) (fun y1 => .leaf (.r (Sum.inr (y1.2)))) : DT (LR (Int × (Sq Int)) ((Sq Int)) (((Sq Int)) ⊕ ((Sq Int))))).get = some x → (JZ up st a.Mine.Places a.Mine.Roads a.Fans a.Doors s.Fans s.Doors t n l).get = some x := fun {x} e => by
      unfold JZ
      rw [qo (decide_eq_true (by omega))]; exact e
    rcases g with ⟨⟨c, y⟩, e1, p, e2⟩ | ⟨e1, y, e2⟩
    · cases c with
      | true =>
        have e : ai1 a s up (r + 1) l = ai1 a s up r y := by
          show (aiW a s up a.Mine.Places.n 0 false l).bind _ = _
          rw [e1]; rfl
        have e' := stp (.next (n + 1, y)) (un (by
          rw [pV e2, pJ (x := n + 1) (by omega) (by omega)]; rfl))
        have e'' := e'.trans (show _ = Uu up st a.Mine.Places a.Mine.Roads a.Fans a.Doors s.Fans s.Doors t (n + 1) y from (afW ..).symm)
        rw [e, e'']
        exact ih (n + 1) y (by omega) (by omega) p
      | false =>
        refine .inl ⟨y, ?_, p, ?_⟩
        · show (aiW a s up a.Mine.Places.n 0 false l).bind _ = _
          rw [e1]; rfl
        · exact (stp (.r (.inl y)) (un (by rw [pV e2]; rfl))).trans rfl
    · refine .inr ⟨?_, .inr ⟨y.2, ?_⟩⟩
      · show (aiW a s up a.Mine.Places.n 0 false l).bind _ = _
        rw [e1]; rfl
      · exact (stp (.r (.inr y.2)) (un (by rw [pV e2]; rfl))).trans rfl
open Classical in
def aiY (a : SAir) (s : qz) (st : Sq Int) : Int :=
  if airE a ≠ 0 then airE a else if aiR a s = false then 21 else if st.n ≠ a.Mine.Places.n then 11 else if ¬ Rng st then 1 else if ∀ i, i < a.Mine.Places.n → Fx a i → st.f i = 0 then 0 else 12
theorem ajv {a : SAir} {s : qz} {st : Sq Int} (h : aiY a s st = 0) : aiR a s = true ∧ aiV a st ∧ ∀ i, i < a.Mine.Places.n → Fx a i → st.f i = 0 := by
  unfold aiY at h
  split at h
  · rename_i c; exact absurd h c
  · split at h
    · cases h
    · rename_i h2
      have h2 : aiR a s = true := by simpa using h2
      split at h
      · cases h
      · rename_i h3
        split at h
        · cases h
        · rename_i h5
          split at h
          · rename_i h7
            exact ⟨h2, ⟨Classical.not_not.1 h3, Classical.not_not.1 h5⟩, h7⟩
          · cases h
theorem ajX {a : SAir} {s : qz} {st : Sq Int} (rt : aiR a s = true) (h : aiV a st) (z : ∀ i, i < a.Mine.Places.n → Fx a i → st.f i = 0) : aiY a s st = 0 := by
  unfold aiY
  rw [if_neg (not_not_intro (aj7 rt)), if_neg (by rw [rt]; simp), if_neg (not_not_intro h.n), if_neg (not_not_intro (show Rng st from h.f)), if_pos z]
theorem ama (a : SAir) (s : qz) (st : Sq Int) : abq a s st = some (aiY a s st) := by
  rw [ahL]; unfold Xx aiY
  rw [get_bind (ajJ a)]
  by_cases h1 : airE a = 0
  · rw [qm (by rw [h1]; rfl), if_neg (not_not_intro h1), get_bind (akA a s)]
    by_cases rt : aiR a s = true
    · have ok := aiU rt
      have np := ok.m.np
      rw [rt, qm (b := !true) rfl, if_neg (by simp)]
      by_cases h : st.n = a.Mine.Places.n
      · rw [qm (by rw [h]; simp), if_neg (not_not_intro h)]
        obtain ⟨x, ex, hx⟩ := alk st (by omega)
        rw [get_bind ex]
        by_cases h5 : Rng st
        · obtain ⟨t, et, tn, ht⟩ := alY ok.m
          rw [hx.2 h5, qm (b := !true) rfl, if_neg (not_not_intro h5), get_bind et]
          have el : Q9 st t 0 = some (sumO (bn (gQ fun i => Fx a i → st.f i = 0) st.n 0)) := by
            rw [afe, ← aiX]
            refine oM (step := fun v => Iu st t v) (gQ fun i => Fx a i → st.f i = 0) (fun i hi => ?_) ?_ st.n 0 (Nat.zero_add _)
            · have at' : t.f i = true ↔ Fx a i := ht i (by omega)
              unfold Iu gQ
              rw [qo (dlt hi), qo (dix (by omega)), pI, qc (by omega)]
              by_cases c : t.f i = true
              · rw [qo c, qo (dix hi)]
                by_cases c2 : st.f i = 0
                · rw [qm (by rw [c2]; rfl), if_pos fun _ => c2]; rfl
                · rw [qo (by simp [c2]), if_neg fun q => c2 (q (at'.1 c))]; rfl
              · rw [qm (by simpa using c), if_pos fun q => absurd (at'.2 q) c]; rfl
            · unfold Iu
              rw [qm (dge (Nat.le_refl _))]; rfl
          by_cases h7 : ∀ i, i < a.Mine.Places.n → Fx a i → st.f i = 0
          · rw [amq fun i hi => h7 i (by omega)] at el
            rw [pV el, if_pos h7]; rfl
          · rw [amr fun q => h7 fun i hi => q i (by omega)] at el
            rw [pV el, if_neg h7]; rfl
        · have : x = false := by cases x with
            | false => rfl
            | true => exact absurd (hx.1 rfl) h5
          rw [this, qo (b := !false) rfl, if_pos h5]; rfl
      · rw [qo (by simp; omega), if_pos h]; rfl
    · have h2 : aiR a s = false := by simpa using rt
      rw [h2, qo (b := !false) rfl, if_pos rfl]; rfl
  · rw [qo (by simp [h1]), if_pos h1]; rfl
def nilS : Sq Int := ⟨0, fun _ => 0⟩
def aiP (a : SAir) (s : qz) (st : Sq Int) (up : Bool) : Sq Int × Int :=
  if aiY a s st = 0 then (match ai1 a s up 200 st with | some l => (l, 0) | none => (nilS, 2)) else (nilS, aiY a s st)
theorem ai4 {a : SAir} {s : qz} {st l : Sq Int} {up : Bool} (h : aiY a s st = 0) (e : ai1 a s up 200 st = some l) : aiP a s st up = (l, 0) := by
  unfold aiP
  rw [if_pos h, e]
theorem ai9 {a : SAir} {s : qz} {st : Sq Int} {up : Bool} (h : aiY a s st = 0) (e : ai1 a s up 200 st = none) : aiP a s st up = (nilS, 2) := by
  unfold aiP
  rw [if_pos h, e]
theorem aj6 {a : SAir} {s : qz} {st : Sq Int} {up : Bool} (h : ¬ aiY a s st = 0) : aiP a s st up = (nilS, aiY a s st) := if_neg h
theorem akB (a : SAir) (s : qz) (st : Sq Int) (up : Bool) : Vu a s st up = some (aiP a s st up) := by
  rw [ahM]; unfold Xz
  rw [get_bind (ama a s st)]
  by_cases c : aiY a s st = 0
  · obtain ⟨rt, hl, _⟩ := ajv c
    have ok := aiU rt
    have np := ok.m.np
    have ln := hl.n
    obtain ⟨t, et, tn, ht⟩ := alY ok.m
    rw [qm (by rw [c]; rfl), qo (decide_eq_true ⟨by omega, by omega⟩), get_bind et]
    rcases anF rt up st tn ht 200 0 st (by omega) (by omega) hl with ⟨y, e1, _, e2⟩ | ⟨e1, ⟨y, e2⟩ | ⟨y, e2⟩⟩
    · rw [pV e2, ai4 c e1]; rfl
    · rw [pV e2, ai9 c e1]; rfl
    · rw [pV e2, ai9 c e1]; rfl
  · rw [qo (by simp [c]), aj6 c]; rfl
theorem amz (a : SAir) (s : qz) (st : Sq Int) : acS a s st = some (aiP a s st true) := by
  rw [ail]; unfold Zv
  rw [get_bind (akB a s st true)]; rfl
theorem akX (a : SAir) (s : qz) (st : Sq Int) : YD a s st = some (aiP a s st false) := by
  rw [aik]; unfold Zu
  rw [get_bind (akB a s st false)]; rfl
def ajb (n : Nat) : Sq Int := ⟨n, fun _ => 0⟩
def ai6 (a : SAir) (s : qz) : qL × Int :=
  if (aiP a s (ajb a.Mine.Places.n) false).2 ≠ 0 then (⟨nilS, nilS⟩, (aiP a s (ajb a.Mine.Places.n) false).2)
  else if (aiP a s (aiP a s (ajb a.Mine.Places.n) false).1 true).2 ≠ 0 then (⟨nilS, nilS⟩, (aiP a s (aiP a s (ajb a.Mine.Places.n) false).1 true).2)
  else if (aiP a s (aiP a s (aiP a s (ajb a.Mine.Places.n) false).1 true).1 false).2 ≠ 0 then (⟨nilS, nilS⟩, (aiP a s (aiP a s (aiP a s (ajb a.Mine.Places.n) false).1 true).1 false).2)
  else (⟨(aiP a s (aiP a s (aiP a s (ajb a.Mine.Places.n) false).1 true).1 false).1, (aiP a s (aiP a s (ajb a.Mine.Places.n) false).1 true).1⟩, 0)
theorem aoG (a : SAir) (s : qz) (np : a.Mine.Places.n ≤ 64) : abo a s = some (ai6 a s) := by
  rw [ahK]; unfold Xw ai6
  rw [qo (decide_eq_true ⟨by omega, by omega, by omega, by omega⟩), pI]
  refine (get_bind (akX a s (ajb a.Mine.Places.n))).trans ?_
  by_cases c1 : (aiP a s (ajb a.Mine.Places.n) false).2 = 0
  · rw [qm (by rw [c1]; rfl), if_neg (not_not_intro c1), get_bind (amz a s _)]
    by_cases c2 : (aiP a s (aiP a s (ajb a.Mine.Places.n) false).1 true).2 = 0
    · rw [qm (by rw [c2]; rfl), if_neg (not_not_intro c2), get_bind (akX a s _)]
      by_cases c3 : (aiP a s (aiP a s (aiP a s (ajb a.Mine.Places.n) false).1 true).1 false).2 = 0
      · rw [qm (by rw [c3]; rfl), if_neg (not_not_intro c3)]; rfl
      · rw [qo (by simp [c3]), if_pos c3]; rfl
    · rw [qo (by simp [c2]), if_pos c2]; rfl
  · rw [qo (by simp [c1]), if_pos c1]; rfl
theorem akC {a : SAir} {s : qz} {st : Sq Int} {up : Bool} (h : (aiP a s st up).2 = 0) : aiY a s st = 0 ∧ ai1 a s up 200 st = some (aiP a s st up).1 := by
  by_cases c : aiY a s st = 0
  · refine ⟨c, ?_⟩
    cases e : ai1 a s up 200 st with
    | none => rw [ai9 c e] at h; cases h
    | some l => rw [ai4 c e]
  · rw [aj6 c] at h; exact absurd h c
theorem amF {a : SAir} {s : qz} (h : (ai6 a s).2 = 0) : ∃ below, aiP a s (ajb a.Mine.Places.n) false = (below, 0) ∧ aiP a s below true = ((ai6 a s).1.High, 0) ∧ aiP a s (ai6 a s).1.High false = ((ai6 a s).1.Low, 0) := by
  unfold ai6 at h ⊢
  by_cases c1 : (aiP a s (ajb a.Mine.Places.n) false).2 = 0
  · rw [if_neg (not_not_intro c1)] at h ⊢
    by_cases c2 : (aiP a s (aiP a s (ajb a.Mine.Places.n) false).1 true).2 = 0
    · rw [if_neg (not_not_intro c2)] at h ⊢
      by_cases c3 : (aiP a s (aiP a s (aiP a s (ajb a.Mine.Places.n) false).1 true).1 false).2 = 0
      · rw [if_neg (not_not_intro c3)]
        exact ⟨_, Prod.ext rfl c1, Prod.ext rfl c2, Prod.ext rfl c3⟩
      · rw [if_pos c3] at h; exact absurd h c3
    · rw [if_pos c2] at h; exact absurd h c2
  · rw [if_pos c1] at h; exact absurd h c1
structure BdOK (a : SAir) (b : qL) : Prop where
  l : aiV a b.Low
  h : aiV a b.High
end
end Go.Proofs.YtimkpfnbkclclaaGreat.Ab
