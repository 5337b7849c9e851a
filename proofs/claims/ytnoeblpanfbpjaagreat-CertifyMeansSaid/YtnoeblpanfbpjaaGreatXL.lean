/- Stage 11: the document's Rise, Fall and Solve as numbers. -/
import Derived.Test.YtnoeblpanfbpjaaGreatXJ
import Derived.Test.YtnoeblpanfbpjaaGreatXDu
import Derived.Test.YtnoeblpanfbpjaaGreatXks
namespace Go.Proofs.YtnoeblpanfbpjaaGreat.Ab
open Go

def setS (l : Sq Int) (k : Nat) (v : Int) : Sq Int := ⟨l.n, fun j => cond (Nat.beq j k) v (l.f j)⟩
theorem setS_own (l : Sq Int) (k : Nat) (v : Int) : (setS l k v).f k = v := by
  show cond _ _ _ = _
  rw [beq_t rfl]; rfl
theorem setS_other (l : Sq Int) {k j : Nat} (v : Int) (h : j ≠ k) : (setS l k v).f j = l.f j := by
  show cond _ _ _ = _
  rw [beq_f h]; rfl
theorem PrsOK.set {a : SAir} {l : Sq Int} (h : PrsOK a l) (k : Nat) {v : Int} (v0 : -70368744177664 ≤ v) (v1 : v ≤ 70368744177664) : PrsOK a (setS l k v) := by
  refine ⟨h.n, fun j hj => ?_⟩
  by_cases c : j = k
  · rw [c, setS_own]; exact ⟨v0, v1⟩
  · rw [setS_other l v c]; exact h.f j hj
/-- A place whose pressure is given. -/
def Fx (a : SAir) (k : Nat) : Prop := (a.Mine.Places.f k).Surface = true ∨ ¬ Aw a.Mine k
/-- The nearest pressure of a place at which enough leaves, or comes. -/
noncomputable def stepO (a : SAir) (s : SSetting) (up : Bool) (l : Sq Int) (k : Nat) : Int × Bool := cond up ((ref10_Up a s l k).getD (0, false)) ((ref10_Down a s l k).getD (0, false))
theorem stepO_up {a : SAir} {s : SSetting} {l : Sq Int} {k : Nat} (h : PrOK a s l k) : ref10_Up a s l k = some (stepO a s true l k) ∧ LeastC (NL a s l k) (l.f k) (stepO a s true l k) := by
  obtain ⟨r, e, hr⟩ := ref10_Up_ex h
  rw [toNat_nat] at hr
  have q : stepO a s true l k = r := by unfold stepO; rw [e]; rfl
  rw [q]; exact ⟨e, hr⟩
theorem stepO_down {a : SAir} {s : SSetting} {l : Sq Int} {k : Nat} (h : PrOK a s l k) : ref10_Down a s l k = some (stepO a s false l k) ∧ GreatestC (NH a s l k) (l.f k) (stepO a s false l k) := by
  obtain ⟨r, e, hr⟩ := ref10_Down_ex h
  rw [toNat_nat] at hr
  have q : stepO a s false l k = r := by unfold stepO; rw [e]; rfl
  rw [q]; exact ⟨e, hr⟩
theorem stepO_in {a : SAir} {s : SSetting} {l : Sq Int} {k : Nat} (h : PrOK a s l k) (up : Bool) (e : (stepO a s up l k).2 = true) : -70368744177664 ≤ (stepO a s up l k).1 ∧ (stepO a s up l k).1 ≤ 70368744177664 := by
  have own := h.Pp.f k (by have := h.p1; omega)
  cases up with
  | true =>
    rcases (stepO_up h).2 with ⟨_, a1, a2, _⟩ | ⟨a1, _⟩
    · omega
    · rw [a1] at e; cases e
  | false =>
    rcases (stepO_down h).2 with ⟨_, a1, a2, _⟩ | ⟨a1, _⟩
    · omega
    · rw [a1] at e; cases e
open Classical in
/-- A round from a place on; none: a limit. -/
noncomputable def roundO (a : SAir) (s : SSetting) (up : Bool) : Nat → Nat → Bool → Sq Int → Option (Bool × Sq Int)
  | 0, _, ch, l => some (ch, l)
  | m + 1, k, ch, l => if Fx a k then roundO a s up m (k + 1) ch l else if (stepO a s up l k).2 = true then roundO a s up m (k + 1) (ch || ((stepO a s up l k).1 != l.f k)) (setS l k (stepO a s up l k).1) else none
theorem roundO_fx {a : SAir} {s : SSetting} {up : Bool} {m k : Nat} {ch : Bool} {l : Sq Int} (h : Fx a k) : roundO a s up (m + 1) k ch l = roundO a s up m (k + 1) ch l := if_pos h
theorem roundO_go {a : SAir} {s : SSetting} {up : Bool} {m k : Nat} {ch : Bool} {l : Sq Int} (h : ¬ Fx a k) (e : (stepO a s up l k).2 = true) : roundO a s up (m + 1) k ch l = roundO a s up m (k + 1) (ch || ((stepO a s up l k).1 != l.f k)) (setS l k (stepO a s up l k).1) := (if_neg h).trans (if_pos e)
theorem roundO_no {a : SAir} {s : SSetting} {up : Bool} {m k : Nat} {ch : Bool} {l : Sq Int} (h : ¬ Fx a k) (e : ¬ (stepO a s up l k).2 = true) : roundO a s up (m + 1) k ch l = none := (if_neg h).trans (if_neg e)
/-- Rounds; none: a limit. -/
noncomputable def relaxO (a : SAir) (s : SSetting) (up : Bool) : Nat → Sq Int → Option (Sq Int)
  | 0, _ => none
  | r + 1, l => (roundO a s up a.Mine.Places.n 0 false l).bind fun y => cond y.1 (relaxO a s up r y.2) (some y.2)
/-- What a round keeps. -/
theorem roundO_keeps {a : SAir} {s : SSetting} {up : Bool} (rt : rightB a s = true) (I : Nat → Bool → Sq Int → Prop)
    (h : ∀ k ch l, k < a.Mine.Places.n → PrsOK a l → I k ch l → (Fx a k → I (k + 1) ch l) ∧ (¬ Fx a k → (stepO a s up l k).2 = true → I (k + 1) (ch || ((stepO a s up l k).1 != l.f k)) (setS l k (stepO a s up l k).1))) :
    ∀ m k ch l, k + m = a.Mine.Places.n → PrsOK a l → I k ch l → ∀ y, roundO a s up m k ch l = some y → PrsOK a y.2 ∧ I a.Mine.Places.n y.1 y.2 := by
  intro m
  induction m with
  | zero =>
    intro k ch l hk hl hi y e
    obtain rfl : (ch, l) = y := Option.some.inj e
    rw [show a.Mine.Places.n = k by omega]
    exact ⟨hl, hi⟩
  | succ m ih =>
    intro k ch l hk hl hi y e
    have q := h k ch l (by omega) hl hi
    by_cases c : Fx a k
    · rw [roundO_fx c] at e
      exact ih (k + 1) ch l (by omega) hl (q.1 c) y e
    · by_cases c2 : (stepO a s up l k).2 = true
      · rw [roundO_go c c2] at e
        have b := stepO_in (a := a) (s := s) (l := l) (k := k) ⟨rt, hl, by omega, by have := hl.n; omega⟩ up c2
        exact ih (k + 1) _ _ (by omega) (hl.set k b.1 b.2) (q.2 c c2) y e
      · rw [roundO_no c c2] at e; cases e
theorem relaxO_keeps {a : SAir} {s : SSetting} {up : Bool} (J : Nat → Sq Int → Prop)
    (h : ∀ r l, PrsOK a l → J (r + 1) l → ∀ y, roundO a s up a.Mine.Places.n 0 false l = some y → PrsOK a y.2 ∧ J r y.2) :
    ∀ r l, PrsOK a l → J r l → ∀ y, relaxO a s up r l = some y → PrsOK a y ∧ ∃ r', r' < r ∧ J r' y ∧ ∃ l', PrsOK a l' ∧ J (r' + 1) l' ∧ roundO a s up a.Mine.Places.n 0 false l' = some (false, y) := by
  intro r
  induction r with
  | zero => intro l _ _ y e; cases e
  | succ r ih =>
    intro l hl hj y e
    unfold relaxO at e
    cases er : roundO a s up a.Mine.Places.n 0 false l with
    | none => rw [er] at e; cases e
    | some z =>
      rw [er] at e
      obtain ⟨p, j⟩ := h r l hl hj z er
      obtain ⟨c, z⟩ := z
      cases c with
      | true =>
        obtain ⟨p, r', hr, q⟩ := ih z p j y e
        exact ⟨p, r', by omega, q⟩
      | false =>
        obtain rfl : z = y := Option.some.inj e
        exact ⟨p, r, by omega, j, l, hl, hj, er⟩
theorem relax_l11_v {a : SAir} {s : SSetting} (rt : rightB a s = true) (up : Bool) (st : Sq Int) {t : Sq Bool} (tn : t.n = a.Mine.Places.n) (ht : ∀ v : Nat, v < a.Mine.Places.n → (t.f v = true ↔ Fx a v)) (n : Int) :
    ∀ m k ch l, k + m = a.Mine.Places.n → PrsOK a l → (∃ y, roundO a s up m k ch l = some y ∧ PrsOK a y.2 ∧ ref12_relax_l11 up st a.Mine.Places a.Mine.Roads a.Fans a.Doors s.Fans s.Doors t n (k : Int) ch l = some (.inl y)) ∨
      (roundO a s up m k ch l = none ∧ ∃ y, ref12_relax_l11 up st a.Mine.Places a.Mine.Roads a.Fans a.Doors s.Fans s.Doors t n (k : Int) ch l = some (.inr y)) := by
  have ok := right_ok rt
  have np := ok.m.np
  intro m
  induction m with
  | zero =>
    intro k ch l hk hl
    have ln := hl.n
    refine .inl ⟨(ch, l), rfl, hl, ?_⟩
    rw [ref12_relax_l11_eq]
    refine (fixO_get (x := .l (ch, l)) ?_).trans rfl
    dsimp only
    unfold ref12_relax_l11_step
    rw [get_f (dge (by omega))]; rfl
  | succ m ih =>
    intro k ch l hk hl
    have ln := hl.n
    have nk : wr ((k : Int) + 1) = ((k + 1 : Nat) : Int) := wr_next (by omega)
    have pr : PrOK a s l k := ⟨rt, hl, by omega, by omega⟩
    have nx : ∀ (ch' : Bool) (l' : Sq Int), (ref12_relax_l11_step up st a.Mine.Places a.Mine.Roads a.Fans a.Doors s.Fans s.Doors t n (k : Int) ch l).get = some (.next (((k + 1 : Nat) : Int), ch', l')) →
        ref12_relax_l11 up st a.Mine.Places a.Mine.Roads a.Fans a.Doors s.Fans s.Doors t n (k : Int) ch l = ref12_relax_l11 up st a.Mine.Places a.Mine.Roads a.Fans a.Doors s.Fans s.Doors t n ((k + 1 : Nat) : Int) ch' l' := fun ch' l' e => by
      rw [ref12_relax_l11_eq, ref12_relax_l11_eq]
      exact fixO_get (x := .next (((k + 1 : Nat) : Int), ch', l')) e
    have hc : ∀ (r : Int × Bool), r.2 = true → (DT.ite (!r.2) (.leaf (.r (ch, l))) (.ite ch (.ite (decide ((0 : Int) ≤ (k : Int) ∧ (k : Int) < ((l.n : Nat) : Int))) (.leaf (.next (((k + 1 : Nat) : Int), true, (Sq.mk l.n (fun j => (cond (Nat.beq j k) r.1 (l.f j))))))) .fail)
        (.ite (decide ((0 : Int) ≤ (k : Int) ∧ (k : Int) < ((l.n : Nat) : Int))) (.ite (decide ((0 : Int) ≤ (k : Int) ∧ (k : Int) < ((l.n : Nat) : Int))) (.leaf (.next (((k + 1 : Nat) : Int), (r.1 != l.f k), (Sq.mk l.n (fun j => (cond (Nat.beq j k) r.1 (l.f j))))))) .fail) .fail)) : DT (LR (Int × Bool × Sq Int) (Bool × Sq Int) (Bool × Sq Int))).get = some (.next (((k + 1 : Nat) : Int), (ch || (r.1 != l.f k)), setS l k r.1)) := fun r e => by
      rw [e, get_f (b := !true) rfl]
      cases ch with
      | true => rw [get_t rfl, get_t (dix (by omega))]; rfl
      | false => rw [get_f rfl, get_t (dix (by omega)), get_t (dix (by omega))]; rfl
    have hd : ∀ (r : Int × Bool) (Z : DT (LR (Int × Bool × Sq Int) (Bool × Sq Int) (Bool × Sq Int))), ¬ r.2 = true → (DT.ite (!r.2) (.leaf (.r (ch, l))) Z).get = some (.r (ch, l)) := fun r Z e => by
      rw [get_t (by simpa using e)]; rfl
    by_cases c : Fx a k
    · rw [roundO_fx c, nx ch l (by
        unfold ref12_relax_l11_step
        rw [get_t (dlt (by omega)), get_t (dix (by omega)), toNat_nat, get_t ((ht k (by omega)).2 c), nk]; rfl)]
      exact ih (k + 1) ch l (by omega) hl
    · have tf : t.f k = false := by
        cases e : t.f k with
        | false => rfl
        | true => exact absurd ((ht k (by omega)).1 e) c
      by_cases c2 : (stepO a s up l k).2 = true
      · rw [roundO_go c c2, nx (ch || ((stepO a s up l k).1 != l.f k)) (setS l k (stepO a s up l k).1) (by
          unfold ref12_relax_l11_step
          rw [get_t (dlt (by omega)), get_t (dix (by omega)), toNat_nat, get_f tf, nk]
          cases up with
          | true => rw [get_t rfl]; exact (get_bind (stepO_up pr).1).trans (hc _ c2)
          | false => rw [get_f rfl]; exact (get_bind (stepO_down pr).1).trans (hc _ c2))]
        have b := stepO_in pr up c2
        exact ih (k + 1) _ _ (by omega) (hl.set k b.1 b.2)
      · refine .inr ⟨roundO_no c c2, (ch, l), ?_⟩
        rw [ref12_relax_l11_eq]
        refine (fixO_get (x := .r (ch, l)) ?_).trans rfl
        dsimp only
        unfold ref12_relax_l11_step
        rw [get_t (dlt (by omega)), get_t (dix (by omega)), toNat_nat, get_f tf]
        cases up with
        | true => rw [get_t rfl]; exact (get_bind (stepO_up pr).1).trans (hd _ _ c2)
        | false => rw [get_f rfl]; exact (get_bind (stepO_down pr).1).trans (hd _ _ c2)
theorem relax_l7_v {a : SAir} {s : SSetting} (rt : rightB a s = true) (up : Bool) (st : Sq Int) {t : Sq Bool} (tn : t.n = a.Mine.Places.n) (ht : ∀ v : Nat, v < a.Mine.Places.n → (t.f v = true ↔ Fx a v)) :
    ∀ (r : Nat) (n : Int) (l : Sq Int), n + (r : Int) = 200 → 0 ≤ n → PrsOK a l → (∃ y, relaxO a s up r l = some y ∧ PrsOK a y ∧ ref12_relax_l7 up st a.Mine.Places a.Mine.Roads a.Fans a.Doors s.Fans s.Doors t n l = some (.inr (.inl y))) ∨
      (relaxO a s up r l = none ∧ ((∃ y, ref12_relax_l7 up st a.Mine.Places a.Mine.Roads a.Fans a.Doors s.Fans s.Doors t n l = some (.inl y)) ∨ ∃ y, ref12_relax_l7 up st a.Mine.Places a.Mine.Roads a.Fans a.Doors s.Fans s.Doors t n l = some (.inr (.inr y)))) := by
  intro r
  induction r with
  | zero =>
    intro n l hn h0 hl
    refine .inr ⟨rfl, .inl ⟨l, ?_⟩⟩
    rw [ref12_relax_l7_eq]
    refine (fixO_get (x := .l l) ?_).trans rfl
    dsimp only
    unfold ref12_relax_l7_step
    rw [get_f (decide_eq_false (by omega))]; rfl
  | succ r ih =>
    intro n l hn h0 hl
    have g := relax_l11_v rt up st tn ht n a.Mine.Places.n 0 false l (by omega) hl
    rw [show ((0 : Nat) : Int) = 0 from rfl] at g
    have stp : ∀ x, (ref12_relax_l7_step up st a.Mine.Places a.Mine.Roads a.Fans a.Doors s.Fans s.Doors t n l).get = some x → ref12_relax_l7 up st a.Mine.Places a.Mine.Roads a.Fans a.Doors s.Fans s.Doors t n l = LR.elim (fixO fun v : Int × Sq Int => ref12_relax_l7_step up st a.Mine.Places a.Mine.Roads a.Fans a.Doors s.Fans s.Doors t v.1 v.2) (fun a => some (.inl a)) (fun b => some (.inr b)) x := fun x e => by
      rw [ref12_relax_l7_eq]
      exact fixO_get e
    have un : ∀ {x}, (DT.sum (ref12_relax_l11 up st a.Mine.Places a.Mine.Roads a.Fans a.Doors s.Fans s.Doors t n (0 : Int) false l) (fun y0 => .ite (!y0.1) (.leaf (.r (Sum.inl (y0.2)))) (.leaf (.next ((wr (n + (1 : Int))), y0.2)))) (fun y1 => .leaf (.r (Sum.inr (y1.2)))) : DT (LR (Int × (Sq Int)) ((Sq Int)) (((Sq Int)) ⊕ ((Sq Int))))).get = some x → (ref12_relax_l7_step up st a.Mine.Places a.Mine.Roads a.Fans a.Doors s.Fans s.Doors t n l).get = some x := fun {x} e => by
      unfold ref12_relax_l7_step
      rw [get_t (decide_eq_true (by omega))]; exact e
    rcases g with ⟨⟨c, y⟩, e1, p, e2⟩ | ⟨e1, y, e2⟩
    · cases c with
      | true =>
        have e : relaxO a s up (r + 1) l = relaxO a s up r y := by
          show (roundO a s up a.Mine.Places.n 0 false l).bind _ = _
          rw [e1]; rfl
        have e' := stp (.next (n + 1, y)) (un (by
          rw [get_sum e2, wr_ok (x := n + 1) (by omega) (by omega)]; rfl))
        have e'' := e'.trans (show _ = ref12_relax_l7 up st a.Mine.Places a.Mine.Roads a.Fans a.Doors s.Fans s.Doors t (n + 1) y from (ref12_relax_l7_eq ..).symm)
        rw [e, e'']
        exact ih (n + 1) y (by omega) (by omega) p
      | false =>
        refine .inl ⟨y, ?_, p, ?_⟩
        · show (roundO a s up a.Mine.Places.n 0 false l).bind _ = _
          rw [e1]; rfl
        · exact (stp (.r (.inl y)) (un (by rw [get_sum e2]; rfl))).trans rfl
    · refine .inr ⟨?_, .inr ⟨y.2, ?_⟩⟩
      · show (roundO a s up a.Mine.Places.n 0 false l).bind _ = _
        rw [e1]; rfl
      · exact (stp (.r (.inr y.2)) (un (by rw [get_sum e2]; rfl))).trans rfl
open Classical in
/-- The error of a start. -/
noncomputable def startE (a : SAir) (s : SSetting) (st : Sq Int) : Int :=
  if airE a ≠ 0 then airE a else if rightB a s = false then 21 else if st.n ≠ a.Mine.Places.n then 11 else if ¬ Rng st then 1 else if ∀ i, i < a.Mine.Places.n → Fx a i → st.f i = 0 then 0 else 12
theorem startE_ok {a : SAir} {s : SSetting} {st : Sq Int} (h : startE a s st = 0) : rightB a s = true ∧ PrsOK a st ∧ ∀ i, i < a.Mine.Places.n → Fx a i → st.f i = 0 := by
  unfold startE at h
  split at h
  · rename_i c; exact absurd h c
  · split at h
    · cases h
    · rename_i h2
      have h2 : rightB a s = true := by simpa using h2
      split at h
      · cases h
      · rename_i h3
        split at h
        · cases h
        · rename_i h5
          split at h
          · rename_i h7
            exact ⟨h2, ⟨Classical.not_not.1 h3, Classical.not_not.1 h5⟩, h7⟩
          · cases h
theorem startE_of {a : SAir} {s : SSetting} {st : Sq Int} (rt : rightB a s = true) (h : PrsOK a st) (z : ∀ i, i < a.Mine.Places.n → Fx a i → st.f i = 0) : startE a s st = 0 := by
  unfold startE
  rw [if_neg (not_not_intro (rightB_air rt)), if_neg (by rw [rt]; simp), if_neg (not_not_intro h.n), if_neg (not_not_intro (show Rng st from h.f)), if_pos z]
theorem ref12_check_v (a : SAir) (s : SSetting) (st : Sq Int) : ref12_check a s st = some (startE a s st) := by
  rw [ref12_check_eq]; unfold ref12_check_t startE
  rw [get_bind (ref09_Check_v a)]
  by_cases h1 : airE a = 0
  · rw [get_f (by rw [h1]; rfl), if_neg (not_not_intro h1), get_bind (ref09_Right_v a s)]
    by_cases rt : rightB a s = true
    · have ok := right_ok rt
      have np := ok.m.np
      rw [rt, get_f (b := !true) rfl, if_neg (by simp)]
      by_cases h : st.n = a.Mine.Places.n
      · rw [get_f (by rw [h]; simp), if_neg (not_not_intro h)]
        obtain ⟨x, ex, hx⟩ := Ranged_ex st (by omega)
        rw [get_bind ex]
        by_cases h5 : Rng st
        · obtain ⟨t, et, tn, ht⟩ := Fixed_ex ok.m
          rw [hx.2 h5, get_f (b := !true) rfl, if_neg (not_not_intro h5), get_bind et]
          have el : ref12_check_l12 st t 0 = some (sumO (firstN (gQ fun i => Fx a i → st.f i = 0) st.n 0)) := by
            rw [ref12_check_l12_eq, ← sumO_eq]
            refine loop_first (step := fun v => ref12_check_l12_step st t v) (gQ fun i => Fx a i → st.f i = 0) (fun i hi => ?_) ?_ st.n 0 (Nat.zero_add _)
            · have at' : t.f i = true ↔ Fx a i := ht i (by omega)
              unfold ref12_check_l12_step gQ
              rw [get_t (dlt hi), get_t (dix (by omega)), toNat_nat, wr_next (by omega)]
              by_cases c : t.f i = true
              · rw [get_t c, get_t (dix hi)]
                by_cases c2 : st.f i = 0
                · rw [get_f (by rw [c2]; rfl), if_pos fun _ => c2]; rfl
                · rw [get_t (by simp [c2]), if_neg fun q => c2 (q (at'.1 c))]; rfl
              · rw [get_f (by simpa using c), if_pos fun q => absurd (at'.2 q) c]; rfl
            · unfold ref12_check_l12_step
              rw [get_f (dge (Nat.le_refl _))]; rfl
          by_cases h7 : ∀ i, i < a.Mine.Places.n → Fx a i → st.f i = 0
          · rw [gQ_all fun i hi => h7 i (by omega)] at el
            rw [get_sum el, if_pos h7]; rfl
          · rw [gQ_not fun q => h7 fun i hi => q i (by omega)] at el
            rw [get_sum el, if_neg h7]; rfl
        · have : x = false := by cases x with
            | false => rfl
            | true => exact absurd (hx.1 rfl) h5
          rw [this, get_t (b := !false) rfl, if_pos h5]; rfl
      · rw [get_t (by simp; omega), if_pos h]; rfl
    · have h2 : rightB a s = false := by simpa using rt
      rw [h2, get_t (b := !false) rfl, if_pos rfl]; rfl
  · rw [get_t (by simp [h1]), if_pos h1]; rfl
def nilS : Sq Int := ⟨0, fun _ => 0⟩
/-- What Rise (up) and Fall answer. -/
noncomputable def relaxV (a : SAir) (s : SSetting) (st : Sq Int) (up : Bool) : Sq Int × Int :=
  if startE a s st = 0 then (match relaxO a s up 200 st with | some l => (l, 0) | none => (nilS, 2)) else (nilS, startE a s st)
theorem relaxV_some {a : SAir} {s : SSetting} {st l : Sq Int} {up : Bool} (h : startE a s st = 0) (e : relaxO a s up 200 st = some l) : relaxV a s st up = (l, 0) := by
  unfold relaxV
  rw [if_pos h, e]
theorem relaxV_none {a : SAir} {s : SSetting} {st : Sq Int} {up : Bool} (h : startE a s st = 0) (e : relaxO a s up 200 st = none) : relaxV a s st up = (nilS, 2) := by
  unfold relaxV
  rw [if_pos h, e]
theorem relaxV_not {a : SAir} {s : SSetting} {st : Sq Int} {up : Bool} (h : ¬ startE a s st = 0) : relaxV a s st up = (nilS, startE a s st) := if_neg h
theorem ref12_relax_v (a : SAir) (s : SSetting) (st : Sq Int) (up : Bool) : ref12_relax a s st up = some (relaxV a s st up) := by
  rw [ref12_relax_eq]; unfold ref12_relax_t
  rw [get_bind (ref12_check_v a s st)]
  by_cases c : startE a s st = 0
  · obtain ⟨rt, hl, _⟩ := startE_ok c
    have ok := right_ok rt
    have np := ok.m.np
    have ln := hl.n
    obtain ⟨t, et, tn, ht⟩ := Fixed_ex ok.m
    rw [get_f (by rw [c]; rfl), get_t (decide_eq_true ⟨by omega, by omega⟩), get_bind et]
    rcases relax_l7_v rt up st tn ht 200 0 st (by omega) (by omega) hl with ⟨y, e1, _, e2⟩ | ⟨e1, ⟨y, e2⟩ | ⟨y, e2⟩⟩
    · rw [get_sum e2, relaxV_some c e1]; rfl
    · rw [get_sum e2, relaxV_none c e1]; rfl
    · rw [get_sum e2, relaxV_none c e1]; rfl
  · rw [get_t (by simp [c]), relaxV_not c]; rfl
theorem ref12_Rise_v (a : SAir) (s : SSetting) (st : Sq Int) : ref12_Rise a s st = some (relaxV a s st true) := by
  rw [ref12_Rise_eq]; unfold ref12_Rise_t
  rw [get_bind (ref12_relax_v a s st true)]; rfl
theorem ref12_Fall_v (a : SAir) (s : SSetting) (st : Sq Int) : ref12_Fall a s st = some (relaxV a s st false) := by
  rw [ref12_Fall_eq]; unfold ref12_Fall_t
  rw [get_bind (ref12_relax_v a s st false)]; rfl
def zeroS (n : Nat) : Sq Int := ⟨n, fun _ => 0⟩
/-- What Solve answers. -/
noncomputable def solveV (a : SAir) (s : SSetting) : SBounds × Int :=
  if (relaxV a s (zeroS a.Mine.Places.n) false).2 ≠ 0 then (⟨nilS, nilS⟩, (relaxV a s (zeroS a.Mine.Places.n) false).2)
  else if (relaxV a s (relaxV a s (zeroS a.Mine.Places.n) false).1 true).2 ≠ 0 then (⟨nilS, nilS⟩, (relaxV a s (relaxV a s (zeroS a.Mine.Places.n) false).1 true).2)
  else if (relaxV a s (relaxV a s (relaxV a s (zeroS a.Mine.Places.n) false).1 true).1 false).2 ≠ 0 then (⟨nilS, nilS⟩, (relaxV a s (relaxV a s (relaxV a s (zeroS a.Mine.Places.n) false).1 true).1 false).2)
  else (⟨(relaxV a s (relaxV a s (relaxV a s (zeroS a.Mine.Places.n) false).1 true).1 false).1, (relaxV a s (relaxV a s (zeroS a.Mine.Places.n) false).1 true).1⟩, 0)
theorem ref12_Solve_v (a : SAir) (s : SSetting) (np : a.Mine.Places.n ≤ 64) : ref12_Solve a s = some (solveV a s) := by
  rw [ref12_Solve_eq]; unfold ref12_Solve_t solveV
  rw [get_t (decide_eq_true ⟨by omega, by omega, by omega, by omega⟩), toNat_nat]
  refine (get_bind (ref12_Fall_v a s (zeroS a.Mine.Places.n))).trans ?_
  by_cases c1 : (relaxV a s (zeroS a.Mine.Places.n) false).2 = 0
  · rw [get_f (by rw [c1]; rfl), if_neg (not_not_intro c1), get_bind (ref12_Rise_v a s _)]
    by_cases c2 : (relaxV a s (relaxV a s (zeroS a.Mine.Places.n) false).1 true).2 = 0
    · rw [get_f (by rw [c2]; rfl), if_neg (not_not_intro c2), get_bind (ref12_Fall_v a s _)]
      by_cases c3 : (relaxV a s (relaxV a s (relaxV a s (zeroS a.Mine.Places.n) false).1 true).1 false).2 = 0
      · rw [get_f (by rw [c3]; rfl), if_neg (not_not_intro c3)]; rfl
      · rw [get_t (by simp [c3]), if_pos c3]; rfl
    · rw [get_t (by simp [c2]), if_pos c2]; rfl
  · rw [get_t (by simp [c1]), if_pos c1]; rfl
theorem relaxV_ok {a : SAir} {s : SSetting} {st : Sq Int} {up : Bool} (h : (relaxV a s st up).2 = 0) : startE a s st = 0 ∧ relaxO a s up 200 st = some (relaxV a s st up).1 := by
  by_cases c : startE a s st = 0
  · refine ⟨c, ?_⟩
    cases e : relaxO a s up 200 st with
    | none => rw [relaxV_none c e] at h; cases h
    | some l => rw [relaxV_some c e]
  · rw [relaxV_not c] at h; exact absurd h c
theorem relaxV_prs {a : SAir} {s : SSetting} {st : Sq Int} {up : Bool} (h : (relaxV a s st up).2 = 0) : PrsOK a (relaxV a s st up).1 := by
  obtain ⟨h1, h2⟩ := relaxV_ok h
  obtain ⟨rt, hl, _⟩ := startE_ok h1
  exact (relaxO_keeps (fun _ _ => True) (fun r l hl _ y e => ⟨(roundO_keeps rt (fun _ _ _ => True) (fun _ _ _ _ _ _ => ⟨fun _ => trivial, fun _ _ => trivial⟩) a.Mine.Places.n 0 false l (by omega) hl trivial y e).1, trivial⟩) 200 st hl trivial _ h2).1
/-- The three parts of what Solve finds. -/
theorem solveV_ok {a : SAir} {s : SSetting} (h : (solveV a s).2 = 0) : ∃ below, relaxV a s (zeroS a.Mine.Places.n) false = (below, 0) ∧ relaxV a s below true = ((solveV a s).1.High, 0) ∧ relaxV a s (solveV a s).1.High false = ((solveV a s).1.Low, 0) := by
  unfold solveV at h ⊢
  by_cases c1 : (relaxV a s (zeroS a.Mine.Places.n) false).2 = 0
  · rw [if_neg (not_not_intro c1)] at h ⊢
    by_cases c2 : (relaxV a s (relaxV a s (zeroS a.Mine.Places.n) false).1 true).2 = 0
    · rw [if_neg (not_not_intro c2)] at h ⊢
      by_cases c3 : (relaxV a s (relaxV a s (relaxV a s (zeroS a.Mine.Places.n) false).1 true).1 false).2 = 0
      · rw [if_neg (not_not_intro c3)]
        exact ⟨_, Prod.ext rfl c1, Prod.ext rfl c2, Prod.ext rfl c3⟩
      · rw [if_pos c3] at h; exact absurd h c3
    · rw [if_pos c2] at h; exact absurd h c2
  · rw [if_pos c1] at h; exact absurd h c1
/-- Bounds of the air's places. -/
structure BdOK (a : SAir) (b : SBounds) : Prop where
  l : PrsOK a b.Low
  h : PrsOK a b.High
theorem solveV_bd {a : SAir} {s : SSetting} (h : (solveV a s).2 = 0) : BdOK a (solveV a s).1 := by
  obtain ⟨below, e1, e2, e3⟩ := solveV_ok h
  have p2 := relaxV_prs (a := a) (s := s) (st := below) (up := true) (by rw [e2])
  have p3 := relaxV_prs (a := a) (s := s) (st := (solveV a s).1.High) (up := false) (by rw [e3])
  rw [e2] at p2
  rw [e3] at p3
  exact ⟨p3, p2⟩
theorem Solved_v (a : SAir) (s : SSetting) (np : a.Mine.Places.n ≤ 64) : Solved a s = some ((solveV a s).1, (solveV a s).2 == 0) := by
  rw [Solved_eq]; unfold Solved_t
  rw [get_bind (ref12_Solve_v a s np)]; rfl
theorem Solved_ex {a : SAir} {s : SSetting} (rt : rightB a s = true) : ∃ b o, Solved a s = some (b, o) ∧ (o = true → b = (solveV a s).1 ∧ (solveV a s).2 = 0 ∧ BdOK a b) := by
  have ok := right_ok rt
  have np := ok.m.np
  exact ⟨_, _, Solved_v a s np, fun h => by
    have z : (solveV a s).2 = 0 := by simpa using h
    exact ⟨rfl, z, solveV_bd z⟩⟩
end Go.Proofs.YtnoeblpanfbpjaaGreat.Ab
