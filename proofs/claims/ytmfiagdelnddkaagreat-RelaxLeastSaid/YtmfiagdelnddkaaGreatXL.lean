/- Stage 11: the document's Rise, Fall and Solve as numbers. -/
import Derived.Test.YtmfiagdelnddkaaGreatXJ
import Derived.Test.YtmfiagdelnddkaaGreatXDu
import Derived.Test.YtmfiagdelnddkaaGreatXks
namespace Go.Proofs.YtmfiagdelnddkaaGreat.Ab
noncomputable section
open Go
def setS (l : Sq Int) (k : Nat) (v : Int) : Sq Int := ⟨l.n, fun j => cond (Nat.beq j k) v (l.f j)⟩
theorem CU (l : Sq Int) (k : Nat) (v : Int) : (setS l k v).f k = v := by
  show cond _ _ _ = _
  rw [Ar rfl]; rfl
theorem om (l : Sq Int) {k j : Nat} (v : Int) (h : j ≠ k) : (setS l k v).f j = l.f j := by
  show cond _ _ _ = _
  rw [Aq h]; rfl
theorem bQ.set {a : SAir} {l : Sq Int} (h : bQ a l) (k : Nat) {v : Int} (v0 : -70368744177664 ≤ v) (v1 : v ≤ 70368744177664) : bQ a (setS l k v) := by
  refine ⟨h.n, fun j hj => ?_⟩
  by_cases c : j = k
  · rw [c, CU]; exact ⟨v0, v1⟩
  · rw [om l v c]; exact h.f j hj
def Fx (a : SAir) (k : Nat) : Prop := (a.Mine.Places.f k).Surface = true ∨ ¬ Aw a.Mine k
def iQ (a : SAir) (s : au) (up : Bool) (l : Sq Int) (k : Nat) : Int × Bool := cond up ((Og a s l k).getD (0, false)) ((C9 a s l k).getD (0, false))
theorem tL {a : SAir} {s : au} {l : Sq Int} {k : Nat} (h : PrOK a s l k) : Og a s l k = some (iQ a s true l k) ∧ Kv (NL a s l k) (l.f k) (iQ a s true l k) := by
  obtain ⟨r, e, hr⟩ := aeP h
  rw [aF] at hr
  have q : iQ a s true l k = r := by unfold iQ; rw [e]; rfl
  rw [q]; exact ⟨e, hr⟩
theorem mI {a : SAir} {s : au} {l : Sq Int} {k : Nat} (h : PrOK a s l k) : C9 a s l k = some (iQ a s false l k) ∧ tV (NH a s l k) (l.f k) (iQ a s false l k) := by
  obtain ⟨r, e, hr⟩ := ab8 h
  rw [aF] at hr
  have q : iQ a s false l k = r := by unfold iQ; rw [e]; rfl
  rw [q]; exact ⟨e, hr⟩
theorem FJ {a : SAir} {s : au} {l : Sq Int} {k : Nat} (h : PrOK a s l k) (up : Bool) (e : (iQ a s up l k).2 = true) : -70368744177664 ≤ (iQ a s up l k).1 ∧ (iQ a s up l k).1 ≤ 70368744177664 := by
  have own := h.Pp.f k (by have := h.p1; omega)
  cases up with
  | true =>
    rcases (tL h).2 with ⟨_, a1, a2, _⟩ | ⟨a1, _⟩
    · omega
    · rw [a1] at e; cases e
  | false =>
    rcases (mI h).2 with ⟨_, a1, a2, _⟩ | ⟨a1, _⟩
    · omega
    · rw [a1] at e; cases e
open Classical in
def bL (a : SAir) (s : au) (up : Bool) : Nat → Nat → Bool → Sq Int → Option (Bool × Sq Int)
  | 0, _, ch, l => some (ch, l)
  | m + 1, k, ch, l => if Fx a k then bL a s up m (k + 1) ch l else if (iQ a s up l k).2 = true then bL a s up m (k + 1) (ch || ((iQ a s up l k).1 != l.f k)) (setS l k (iQ a s up l k).1) else none
theorem pQ {a : SAir} {s : au} {up : Bool} {m k : Nat} {ch : Bool} {l : Sq Int} (h : Fx a k) : bL a s up (m + 1) k ch l = bL a s up m (k + 1) ch l := if_pos h
theorem qX {a : SAir} {s : au} {up : Bool} {m k : Nat} {ch : Bool} {l : Sq Int} (h : ¬ Fx a k) (e : (iQ a s up l k).2 = true) : bL a s up (m + 1) k ch l = bL a s up m (k + 1) (ch || ((iQ a s up l k).1 != l.f k)) (setS l k (iQ a s up l k).1) := (if_neg h).trans (if_pos e)
theorem wM {a : SAir} {s : au} {up : Bool} {m k : Nat} {ch : Bool} {l : Sq Int} (h : ¬ Fx a k) (e : ¬ (iQ a s up l k).2 = true) : bL a s up (m + 1) k ch l = none := (if_neg h).trans (if_neg e)
def bW (a : SAir) (s : au) (up : Bool) : Nat → Sq Int → Option (Sq Int)
  | 0, _ => none
  | r + 1, l => (bL a s up a.Mine.Places.n 0 false l).bind fun y => cond y.1 (bW a s up r y.2) (some y.2)
theorem FB {a : SAir} {s : au} {up : Bool} (rt : aZ a s = true) (I : Nat → Bool → Sq Int → Prop)
    (h : ∀ k ch l, k < a.Mine.Places.n → bQ a l → I k ch l → (Fx a k → I (k + 1) ch l) ∧ (¬ Fx a k → (iQ a s up l k).2 = true → I (k + 1) (ch || ((iQ a s up l k).1 != l.f k)) (setS l k (iQ a s up l k).1))) :
    ∀ m k ch l, k + m = a.Mine.Places.n → bQ a l → I k ch l → ∀ y, bL a s up m k ch l = some y → bQ a y.2 ∧ I a.Mine.Places.n y.1 y.2 := by
  intro m
  induction m with
  | zero =>
    intro k ch l hk hl hi y e
    obtain rfl : (ch, l) = y := Option.some.inj e
    rw [show a.Mine.Places.n = k by omega]
    exact ⟨hl, hi⟩
  | succ m ih =>
    intro k ch l hk hl hi y e
    have q := h k ch l (by omega) hl hi
    by_cases c : Fx a k
    · rw [pQ c] at e
      exact ih (k + 1) ch l (by omega) hl (q.1 c) y e
    · by_cases c2 : (iQ a s up l k).2 = true
      · rw [qX c c2] at e
        have b := FJ (a := a) (s := s) (l := l) (k := k) ⟨rt, hl, by omega, by have := hl.n; omega⟩ up c2
        exact ih (k + 1) _ _ (by omega) (hl.set k b.1 b.2) (q.2 c c2) y e
      · rw [wM c c2] at e; cases e
theorem Nu {a : SAir} {s : au} {up : Bool} (J : Nat → Sq Int → Prop)
    (h : ∀ r l, bQ a l → J (r + 1) l → ∀ y, bL a s up a.Mine.Places.n 0 false l = some y → bQ a y.2 ∧ J r y.2) :
    ∀ r l, bQ a l → J r l → ∀ y, bW a s up r l = some y → bQ a y ∧ ∃ r', r' < r ∧ J r' y ∧ ∃ l', bQ a l' ∧ J (r' + 1) l' ∧ bL a s up a.Mine.Places.n 0 false l' = some (false, y) := by
  intro r
  induction r with
  | zero => intro l _ _ y e; cases e
  | succ r ih =>
    intro l hl hj y e
    unfold bW at e
    cases er : bL a s up a.Mine.Places.n 0 false l with
    | none => rw [er] at e; cases e
    | some z =>
      rw [er] at e
      obtain ⟨p, j⟩ := h r l hl hj z er
      obtain ⟨c, z⟩ := z
      cases c with
      | true =>
        obtain ⟨p, r', hr, q⟩ := ih z p j y e
        exact ⟨p, r', by omega, q⟩
      | false =>
        obtain rfl : z = y := Option.some.inj e
        exact ⟨p, r, by omega, j, l, hl, hj, er⟩
theorem aeT {a : SAir} {s : au} (rt : aZ a s = true) (up : Bool) (st : Sq Int) {t : Sq Bool} (tn : t.n = a.Mine.Places.n) (ht : ∀ v : Nat, v < a.Mine.Places.n → (t.f v = true ↔ Fx a v)) (n : Int) :
    ∀ m k ch l, k + m = a.Mine.Places.n → bQ a l → (∃ y, bL a s up m k ch l = some y ∧ bQ a y.2 ∧ nJ up st a.Mine.Places a.Mine.Roads a.Fans a.Doors s.Fans s.Doors t n (k : Int) ch l = some (.inl y)) ∨
      (bL a s up m k ch l = none ∧ ∃ y, nJ up st a.Mine.Places a.Mine.Roads a.Fans a.Doors s.Fans s.Doors t n (k : Int) ch l = some (.inr y)) := by
  have ok := aW rt
  have np := ok.m.np
  intro m
  induction m with
  | zero =>
    intro k ch l hk hl
    have ln := hl.n
    refine .inl ⟨(ch, l), rfl, hl, ?_⟩
    rw [vE]
    refine (bI (x := .l (ch, l)) ?_).trans rfl
    dsimp only
    unfold fU
    rw [aD (dge (by omega))]; rfl
  | succ m ih =>
    intro k ch l hk hl
    have ln := hl.n
    have nk : wr ((k : Int) + 1) = ((k + 1 : Nat) : Int) := aQ (by omega)
    have pr : PrOK a s l k := ⟨rt, hl, by omega, by omega⟩
    have nx : ∀ (ch' : Bool) (l' : Sq Int), (fU up st a.Mine.Places a.Mine.Roads a.Fans a.Doors s.Fans s.Doors t n (k : Int) ch l).get = some (.next (((k + 1 : Nat) : Int), ch', l')) →
        nJ up st a.Mine.Places a.Mine.Roads a.Fans a.Doors s.Fans s.Doors t n (k : Int) ch l = nJ up st a.Mine.Places a.Mine.Roads a.Fans a.Doors s.Fans s.Doors t n ((k + 1 : Nat) : Int) ch' l' := fun ch' l' e => by
      rw [vE, vE]
      exact bI (x := .next (((k + 1 : Nat) : Int), ch', l')) e
    have hc : ∀ (r : Int × Bool), r.2 = true → (DT.ite (!r.2) (.leaf (.r (ch, l))) (.ite ch (.ite (decide ((0 : Int) ≤ (k : Int) ∧ (k : Int) < ((l.n : Nat) : Int))) (.leaf (.next (((k + 1 : Nat) : Int), true, (Sq.mk l.n (fun j => (cond (Nat.beq j k) r.1 (l.f j))))))) .fail)
        (.ite (decide ((0 : Int) ≤ (k : Int) ∧ (k : Int) < ((l.n : Nat) : Int))) (.ite (decide ((0 : Int) ≤ (k : Int) ∧ (k : Int) < ((l.n : Nat) : Int))) (.leaf (.next (((k + 1 : Nat) : Int), (r.1 != l.f k), (Sq.mk l.n (fun j => (cond (Nat.beq j k) r.1 (l.f j))))))) .fail) .fail)) : DT (LR (Int × Bool × Sq Int) (Bool × Sq Int) (Bool × Sq Int))).get = some (.next (((k + 1 : Nat) : Int), (ch || (r.1 != l.f k)), setS l k r.1)) := fun r e => by
      rw [e, aD (b := !true) rfl]
      cases ch with
      | true => rw [aA rfl, aA (dix (by omega))]; rfl
      | false => rw [aD rfl, aA (dix (by omega)), aA (dix (by omega))]; rfl
    have hd : ∀ (r : Int × Bool) (Z : DT (LR (Int × Bool × Sq Int) (Bool × Sq Int) (Bool × Sq Int))), ¬ r.2 = true → (DT.ite (!r.2) (.leaf (.r (ch, l))) Z).get = some (.r (ch, l)) := fun r Z e => by
      rw [aA (by simpa using e)]; rfl
    by_cases c : Fx a k
    · rw [pQ c, nx ch l (by
        unfold fU
        rw [aA (dlt (by omega)), aA (dix (by omega)), aF, aA ((ht k (by omega)).2 c), nk]; rfl)]
      exact ih (k + 1) ch l (by omega) hl
    · have tf : t.f k = false := by
        cases e : t.f k with
        | false => rfl
        | true => exact absurd ((ht k (by omega)).1 e) c
      by_cases c2 : (iQ a s up l k).2 = true
      · rw [qX c c2, nx (ch || ((iQ a s up l k).1 != l.f k)) (setS l k (iQ a s up l k).1) (by
          unfold fU
          rw [aA (dlt (by omega)), aA (dix (by omega)), aF, aD tf, nk]
          cases up with
          | true => rw [aA rfl]; exact (get_bind (tL pr).1).trans (hc _ c2)
          | false => rw [aD rfl]; exact (get_bind (mI pr).1).trans (hc _ c2))]
        have b := FJ pr up c2
        exact ih (k + 1) _ _ (by omega) (hl.set k b.1 b.2)
      · refine .inr ⟨wM c c2, (ch, l), ?_⟩
        rw [vE]
        refine (bI (x := .r (ch, l)) ?_).trans rfl
        dsimp only
        unfold fU
        rw [aA (dlt (by omega)), aA (dix (by omega)), aF, aD tf]
        cases up with
        | true => rw [aA rfl]; exact (get_bind (tL pr).1).trans (hd _ _ c2)
        | false => rw [aD rfl]; exact (get_bind (mI pr).1).trans (hd _ _ c2)
theorem af4 {a : SAir} {s : au} (rt : aZ a s = true) (up : Bool) (st : Sq Int) {t : Sq Bool} (tn : t.n = a.Mine.Places.n) (ht : ∀ v : Nat, v < a.Mine.Places.n → (t.f v = true ↔ Fx a v)) :
    ∀ (r : Nat) (n : Int) (l : Sq Int), n + (r : Int) = 200 → 0 ≤ n → bQ a l → (∃ y, bW a s up r l = some y ∧ bQ a y ∧ qm up st a.Mine.Places a.Mine.Roads a.Fans a.Doors s.Fans s.Doors t n l = some (.inr (.inl y))) ∨
      (bW a s up r l = none ∧ ((∃ y, qm up st a.Mine.Places a.Mine.Roads a.Fans a.Doors s.Fans s.Doors t n l = some (.inl y)) ∨ ∃ y, qm up st a.Mine.Places a.Mine.Roads a.Fans a.Doors s.Fans s.Doors t n l = some (.inr (.inr y)))) := by
  intro r
  induction r with
  | zero =>
    intro n l hn h0 hl
    refine .inr ⟨rfl, .inl ⟨l, ?_⟩⟩
    rw [Bb]
    refine (bI (x := .l l) ?_).trans rfl
    dsimp only
    unfold iD
    rw [aD (decide_eq_false (by omega))]; rfl
  | succ r ih =>
    intro n l hn h0 hl
    have g := aeT rt up st tn ht n a.Mine.Places.n 0 false l (by omega) hl
    rw [show ((0 : Nat) : Int) = 0 from rfl] at g
    have stp : ∀ x, (iD up st a.Mine.Places a.Mine.Roads a.Fans a.Doors s.Fans s.Doors t n l).get = some x → qm up st a.Mine.Places a.Mine.Roads a.Fans a.Doors s.Fans s.Doors t n l = LR.elim (fixO fun v : Int × Sq Int => iD up st a.Mine.Places a.Mine.Roads a.Fans a.Doors s.Fans s.Doors t v.1 v.2) (fun a => some (.inl a)) (fun b => some (.inr b)) x := fun x e => by
      rw [Bb]
      exact bI e
    have un : ∀ {x}, (DT.sum (nJ up st a.Mine.Places a.Mine.Roads a.Fans a.Doors s.Fans s.Doors t n (0 : Int) false l) (fun y0 => .ite (!y0.1) (.leaf (.r (Sum.inl (y0.2)))) (.leaf (.next ((wr (n + (1 : Int))), y0.2)))) (fun y1 => .leaf (.r (Sum.inr (y1.2)))) : DT (LR (Int × (Sq Int)) ((Sq Int)) (((Sq Int)) ⊕ ((Sq Int))))).get = some x → (iD up st a.Mine.Places a.Mine.Roads a.Fans a.Doors s.Fans s.Doors t n l).get = some x := fun {x} e => by
      unfold iD
      rw [aA (decide_eq_true (by omega))]; exact e
    rcases g with ⟨⟨c, y⟩, e1, p, e2⟩ | ⟨e1, y, e2⟩
    · cases c with
      | true =>
        have e : bW a s up (r + 1) l = bW a s up r y := by
          show (bL a s up a.Mine.Places.n 0 false l).bind _ = _
          rw [e1]; rfl
        have e' := stp (.next (n + 1, y)) (un (by
          rw [aI e2, aO (x := n + 1) (by omega) (by omega)]; rfl))
        have e'' := e'.trans (show _ = qm up st a.Mine.Places a.Mine.Roads a.Fans a.Doors s.Fans s.Doors t (n + 1) y from (Bb ..).symm)
        rw [e, e'']
        exact ih (n + 1) y (by omega) (by omega) p
      | false =>
        refine .inl ⟨y, ?_, p, ?_⟩
        · show (bL a s up a.Mine.Places.n 0 false l).bind _ = _
          rw [e1]; rfl
        · exact (stp (.r (.inl y)) (un (by rw [aI e2]; rfl))).trans rfl
    · refine .inr ⟨?_, .inr ⟨y.2, ?_⟩⟩
      · show (bL a s up a.Mine.Places.n 0 false l).bind _ = _
        rw [e1]; rfl
      · exact (stp (.r (.inr y.2)) (un (by rw [aI e2]; rfl))).trans rfl
open Classical in
def dR (a : SAir) (s : au) (st : Sq Int) : Int :=
  if airE a ≠ 0 then airE a else if aZ a s = false then 21 else if st.n ≠ a.Mine.Places.n then 11 else if ¬ Rng st then 1 else if ∀ i, i < a.Mine.Places.n → Fx a i → st.f i = 0 then 0 else 12
theorem nT {a : SAir} {s : au} {st : Sq Int} (h : dR a s st = 0) : aZ a s = true ∧ bQ a st ∧ ∀ i, i < a.Mine.Places.n → Fx a i → st.f i = 0 := by
  unfold dR at h
  split at h
  · rename_i c; exact absurd h c
  · split at h
    · cases h
    · rename_i h2
      have h2 : aZ a s = true := by simpa using h2
      split at h
      · cases h
      · rename_i h3
        split at h
        · cases h
        · rename_i h5
          split at h
          · rename_i h7
            exact ⟨h2, ⟨Classical.not_not.1 h3, Classical.not_not.1 h5⟩, h7⟩
          · cases h
theorem wU {a : SAir} {s : au} {st : Sq Int} (rt : aZ a s = true) (h : bQ a st) (z : ∀ i, i < a.Mine.Places.n → Fx a i → st.f i = 0) : dR a s st = 0 := by
  unfold dR
  rw [if_neg (not_not_intro (Da rt)), if_neg (by rw [rt]; simp), if_neg (not_not_intro h.n), if_neg (not_not_intro (show Rng st from h.f)), if_pos z]
theorem TJ (a : SAir) (s : au) (st : Sq Int) : JU a s st = some (dR a s st) := by
  rw [aav]; unfold JV dR
  rw [get_bind (Tq a)]
  by_cases h1 : airE a = 0
  · rw [aD (by rw [h1]; rfl), if_neg (not_not_intro h1), get_bind (ab6 a s)]
    by_cases rt : aZ a s = true
    · have ok := aW rt
      have np := ok.m.np
      rw [rt, aD (b := !true) rfl, if_neg (by simp)]
      by_cases h : st.n = a.Mine.Places.n
      · rw [aD (by rw [h]; simp), if_neg (not_not_intro h)]
        obtain ⟨x, ex, hx⟩ := agH st (by omega)
        rw [get_bind ex]
        by_cases h5 : Rng st
        · obtain ⟨t, et, tn, ht⟩ := abh ok.m
          rw [hx.2 h5, aD (b := !true) rfl, if_neg (not_not_intro h5), get_bind et]
          have el : Ei st t 0 = some (sumO (aR (gQ fun i => Fx a i → st.f i = 0) st.n 0)) := by
            rw [TH, ← jV]
            refine aX (step := fun v => lU st t v) (gQ fun i => Fx a i → st.f i = 0) (fun i hi => ?_) ?_ st.n 0 (Nat.zero_add _)
            · have at' : t.f i = true ↔ Fx a i := ht i (by omega)
              unfold lU gQ
              rw [aA (dlt hi), aA (dix (by omega)), aF, aQ (by omega)]
              by_cases c : t.f i = true
              · rw [aA c, aA (dix hi)]
                by_cases c2 : st.f i = 0
                · rw [aD (by rw [c2]; rfl), if_pos fun _ => c2]; rfl
                · rw [aA (by simp [c2]), if_neg fun q => c2 (q (at'.1 c))]; rfl
              · rw [aD (by simpa using c), if_pos fun q => absurd (at'.2 q) c]; rfl
            · unfold lU
              rw [aD (dge (Nat.le_refl _))]; rfl
          by_cases h7 : ∀ i, i < a.Mine.Places.n → Fx a i → st.f i = 0
          · rw [afc fun i hi => h7 i (by omega)] at el
            rw [aI el, if_pos h7]; rfl
          · rw [afd fun q => h7 fun i hi => q i (by omega)] at el
            rw [aI el, if_neg h7]; rfl
        · have : x = false := by cases x with
            | false => rfl
            | true => exact absurd (hx.1 rfl) h5
          rw [this, aA (b := !false) rfl, if_pos h5]; rfl
      · rw [aA (by simp; omega), if_pos h]; rfl
    · have h2 : aZ a s = false := by simpa using rt
      rw [h2, aA (b := !false) rfl, if_pos rfl]; rfl
  · rw [aA (by simp [h1]), if_pos h1]; rfl
def nilS : Sq Int := ⟨0, fun _ => 0⟩
def aS (a : SAir) (s : au) (st : Sq Int) (up : Bool) : Sq Int × Int :=
  if dR a s st = 0 then (match bW a s up 200 st with | some l => (l, 0) | none => (nilS, 2)) else (nilS, dR a s st)
theorem d9 {a : SAir} {s : au} {st l : Sq Int} {up : Bool} (h : dR a s st = 0) (e : bW a s up 200 st = some l) : aS a s st up = (l, 0) := by
  unfold aS
  rw [if_pos h, e]
theorem bX {a : SAir} {s : au} {st : Sq Int} {up : Bool} (h : dR a s st = 0) (e : bW a s up 200 st = none) : aS a s st up = (nilS, 2) := by
  unfold aS
  rw [if_pos h, e]
theorem uK {a : SAir} {s : au} {st : Sq Int} {up : Bool} (h : ¬ dR a s st = 0) : aS a s st up = (nilS, dR a s st) := if_neg h
theorem TN (a : SAir) (s : au) (st : Sq Int) (up : Bool) : JW a s st up = some (aS a s st up) := by
  rw [aaw]; unfold JX
  rw [get_bind (TJ a s st)]
  by_cases c : dR a s st = 0
  · obtain ⟨rt, hl, _⟩ := nT c
    have ok := aW rt
    have np := ok.m.np
    have ln := hl.n
    obtain ⟨t, et, tn, ht⟩ := abh ok.m
    rw [aD (by rw [c]; rfl), aA (decide_eq_true ⟨by omega, by omega⟩), get_bind et]
    rcases af4 rt up st tn ht 200 0 st (by omega) (by omega) hl with ⟨y, e1, _, e2⟩ | ⟨e1, ⟨y, e2⟩ | ⟨y, e2⟩⟩
    · rw [aI e2, d9 c e1]; rfl
    · rw [aI e2, bX c e1]; rfl
    · rw [aI e2, bX c e1]; rfl
  · rw [aA (by simp [c]), uK c]; rfl
theorem adG (a : SAir) (s : au) (st : Sq Int) : Vs a s st = some (aS a s st true) := by
  rw [ace]; unfold Nl
  rw [get_bind (TN a s st true)]; rfl
theorem V9 (a : SAir) (s : au) (st : Sq Int) : Oh a s st = some (aS a s st false) := by
  rw [acd]; unfold Nk
  rw [get_bind (TN a s st false)]; rfl
def xu (n : Nat) : Sq Int := ⟨n, fun _ => 0⟩
def gZ (a : SAir) (s : au) : bM × Int :=
  if (aS a s (xu a.Mine.Places.n) false).2 ≠ 0 then (⟨nilS, nilS⟩, (aS a s (xu a.Mine.Places.n) false).2)
  else if (aS a s (aS a s (xu a.Mine.Places.n) false).1 true).2 ≠ 0 then (⟨nilS, nilS⟩, (aS a s (aS a s (xu a.Mine.Places.n) false).1 true).2)
  else if (aS a s (aS a s (aS a s (xu a.Mine.Places.n) false).1 true).1 false).2 ≠ 0 then (⟨nilS, nilS⟩, (aS a s (aS a s (aS a s (xu a.Mine.Places.n) false).1 true).1 false).2)
  else (⟨(aS a s (aS a s (aS a s (xu a.Mine.Places.n) false).1 true).1 false).1, (aS a s (aS a s (xu a.Mine.Places.n) false).1 true).1⟩, 0)
theorem acf (a : SAir) (s : au) (np : a.Mine.Places.n ≤ 64) : Ro a s = some (gZ a s) := by
  rw [aau]; unfold JR gZ
  rw [aA (decide_eq_true ⟨by omega, by omega, by omega, by omega⟩), aF]
  refine (get_bind (V9 a s (xu a.Mine.Places.n))).trans ?_
  by_cases c1 : (aS a s (xu a.Mine.Places.n) false).2 = 0
  · rw [aD (by rw [c1]; rfl), if_neg (not_not_intro c1), get_bind (adG a s _)]
    by_cases c2 : (aS a s (aS a s (xu a.Mine.Places.n) false).1 true).2 = 0
    · rw [aD (by rw [c2]; rfl), if_neg (not_not_intro c2), get_bind (V9 a s _)]
      by_cases c3 : (aS a s (aS a s (aS a s (xu a.Mine.Places.n) false).1 true).1 false).2 = 0
      · rw [aD (by rw [c3]; rfl), if_neg (not_not_intro c3)]; rfl
      · rw [aA (by simp [c3]), if_pos c3]; rfl
    · rw [aA (by simp [c2]), if_pos c2]; rfl
  · rw [aA (by simp [c1]), if_pos c1]; rfl
theorem TP {a : SAir} {s : au} {st : Sq Int} {up : Bool} (h : (aS a s st up).2 = 0) : dR a s st = 0 ∧ bW a s up 200 st = some (aS a s st up).1 := by
  by_cases c : dR a s st = 0
  · refine ⟨c, ?_⟩
    cases e : bW a s up 200 st with
    | none => rw [bX c e] at h; cases h
    | some l => rw [d9 c e]
  · rw [uK c] at h; exact absurd h c
theorem Vx {a : SAir} {s : au} {st : Sq Int} {up : Bool} (h : (aS a s st up).2 = 0) : bQ a (aS a s st up).1 := by
  obtain ⟨h1, h2⟩ := TP h
  obtain ⟨rt, hl, _⟩ := nT h1
  exact (Nu (fun _ _ => True) (fun r l hl _ y e => ⟨(FB rt (fun _ _ _ => True) (fun _ _ _ _ _ _ => ⟨fun _ => trivial, fun _ _ => trivial⟩) a.Mine.Places.n 0 false l (by omega) hl trivial y e).1, trivial⟩) 200 st hl trivial _ h2).1
theorem adT {a : SAir} {s : au} (h : (gZ a s).2 = 0) : ∃ below, aS a s (xu a.Mine.Places.n) false = (below, 0) ∧ aS a s below true = ((gZ a s).1.High, 0) ∧ aS a s (gZ a s).1.High false = ((gZ a s).1.Low, 0) := by
  unfold gZ at h ⊢
  by_cases c1 : (aS a s (xu a.Mine.Places.n) false).2 = 0
  · rw [if_neg (not_not_intro c1)] at h ⊢
    by_cases c2 : (aS a s (aS a s (xu a.Mine.Places.n) false).1 true).2 = 0
    · rw [if_neg (not_not_intro c2)] at h ⊢
      by_cases c3 : (aS a s (aS a s (aS a s (xu a.Mine.Places.n) false).1 true).1 false).2 = 0
      · rw [if_neg (not_not_intro c3)]
        exact ⟨_, Prod.ext rfl c1, Prod.ext rfl c2, Prod.ext rfl c3⟩
      · rw [if_pos c3] at h; exact absurd h c3
    · rw [if_pos c2] at h; exact absurd h c2
  · rw [if_pos c1] at h; exact absurd h c1
structure BdOK (a : SAir) (b : bM) : Prop where
  l : bQ a b.Low
  h : bQ a b.High
theorem adS {a : SAir} {s : au} (h : (gZ a s).2 = 0) : BdOK a (gZ a s).1 := by
  obtain ⟨below, e1, e2, e3⟩ := adT h
  have p2 := Vx (a := a) (s := s) (st := below) (up := true) (by rw [e2])
  have p3 := Vx (a := a) (s := s) (st := (gZ a s).1.High) (up := false) (by rw [e3])
  rw [e2] at p2
  rw [e3] at p3
  exact ⟨p3, p2⟩
end
end Go.Proofs.YtmfiagdelnddkaaGreat.Ab
