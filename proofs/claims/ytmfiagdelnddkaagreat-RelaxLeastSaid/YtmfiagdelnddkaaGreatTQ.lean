/- Stage 12: what the program's Rise, Fall and Solve answer. -/
import Derived.Test.YtmfiagdelnddkaaGreatTA
import Derived.Test.YtmfiagdelnddkaaGreatTR
import Derived.Test.YtmfiagdelnddkaaGreatXQ
import Derived.Test.YtmfiagdelnddkaaGreatTG
import Derived.Test.YtmfiagdelnddkaaGreatTW
import Derived.Test.YtmfiagdelnddkaaGreatXkq
namespace Go.Proofs.YtmfiagdelnddkaaGreat.Ab
noncomputable section
open Go
theorem ahS (s : Sq Int) : (Sq.mk (0 + s.n) (fun k0 => s.f k0)) = s := by
  obtain ⟨n, f⟩ := s
  show Sq.mk (0 + n) f = Sq.mk n f
  rw [Nat.zero_add]
theorem agx (s : Sq Int) (h0 : 0 < s.n) (h : s.n ≤ 64) : slices_Clone s = some s := by
  rw [Zj]; unfold Gy
  rw [aA (decide_eq_true h0), aA (decide_eq_true ⟨by omega, by omega⟩), ahS]; rfl
theorem aeZ (s : Sq Int) (h : s.n ≤ 64) : zW s = some s := by
  rw [TU]; unfold Bj
  by_cases h0 : 0 < s.n
  · rw [aA (decide_eq_true h0)]
    unfold oo
    rw [aA (decide_eq_true h0), aA (decide_eq_true ⟨by omega, by omega⟩), ahS]; rfl
  · rw [aD (decide_eq_false h0)]; rfl
open Classical in
def cM (a : SAir) : Nat → Nat
  | 0 => 0
  | k + 1 => if Fx a k then cM a k else cM a k + 1
theorem afG {a : SAir} {k : Nat} (h : Fx a k) : cM a (k + 1) = cM a k := if_pos h
theorem acZ {a : SAir} {k : Nat} (h : ¬ Fx a k) : cM a (k + 1) = cM a k + 1 := if_neg h
theorem aij (a : SAir) : ∀ k, cM a k ≤ k := by
  intro k
  induction k with
  | zero => exact Nat.le_refl _
  | succ k ih =>
    by_cases c : Fx a k
    · rw [afG c]; omega
    · rw [acZ c]; omega
theorem ag0 (a : SAir) {j : Nat} : ∀ k, j ≤ k → cM a j ≤ cM a k := by
  intro k
  induction k with
  | zero => intro h; rw [show j = 0 by omega]; exact Nat.le_refl _
  | succ k ih =>
    intro h
    by_cases e : j = k + 1
    · rw [e]; exact Nat.le_refl _
    · have := ih (by omega)
      by_cases c : Fx a k
      · rw [afG c]; exact this
      · rw [acZ c]; omega
theorem ajG (a : SAir) : ∀ n q, q < cM a n → ∃ j, j < n ∧ ¬ Fx a j ∧ cM a j = q := by
  intro n
  induction n with
  | zero => intro q h; exact absurd h (Nat.not_lt_zero _)
  | succ n ih =>
    intro q h
    by_cases c : Fx a n
    · rw [afG c] at h
      obtain ⟨j, h1, h2⟩ := ih q h
      exact ⟨j, by omega, h2⟩
    · rw [acZ c] at h
      by_cases e : q = cM a n
      · exact ⟨n, by omega, c, e.symm⟩
      · obtain ⟨j, h1, h2⟩ := ih q (by omega)
        exact ⟨j, by omega, h2⟩
structure MvOK (a : SAir) (l : Sq Int) : Prop where
  n : l.n = cM a a.Mine.Places.n
  f : ∀ j, j < a.Mine.Places.n → ¬ Fx a j → l.f (cM a j) = (j : Int)
theorem MvOK.lt {a : SAir} {l : Sq Int} (h : MvOK a l) {j : Nat} (hj : j < a.Mine.Places.n) (c : ¬ Fx a j) : cM a j < l.n := by
  rw [h.n]
  have := ag0 a a.Mine.Places.n (show j + 1 ≤ a.Mine.Places.n from hj)
  rw [acZ c] at this
  omega
theorem MvOK.mem {a : SAir} {l : Sq Int} (h : MvOK a l) {i : Nat} (hi : i < a.Mine.Places.n) : In l (i : Int) ↔ ¬ Fx a i := by
  constructor
  · rintro ⟨q, hq, e⟩
    rw [h.n] at hq
    obtain ⟨j, h1, h2, h3⟩ := ajG a _ q hq
    have := h.f j h1 h2
    rw [h3, e] at this
    obtain rfl : i = j := by omega
    exact h2
  · intro c
    exact ⟨cM a i, h.lt hi c, h.f i hi c⟩
theorem Mv {a : SAir} (ok : uV a.Mine) (h12 : a.Mine.Places.n ≤ 12) : ∃ l, kK a.Mine = some l ∧ MvOK a l := by
  obtain ⟨c, ec, cn, hc⟩ := ahu ok h12
  have key := bH (step := fun x : Sq Int × Int => lW a.Mine.Places c x.1 x.2)
    (fun x => ∃ j : Nat, x.2 = j ∧ j ≤ a.Mine.Places.n ∧ x.1.n = cM a j ∧ ∀ i, i < j → ¬ Fx a i → x.1.f (cM a i) = (i : Int)) (fun x => a.Mine.Places.n - x.2.toNat)
    (fun z => ∃ l, z = .inl l ∧ MvOK a l) (fun x hx => by
      obtain ⟨l, k⟩ := x
      obtain ⟨j, hk, hj, hn, hf⟩ := hx
      have hk : k = (j : Int) := hk
      have hn : l.n = cM a j := hn
      subst hk
      have cj := aij a j
      show ∃ x, (lW a.Mine.Places c l (j : Int)).get = some x ∧ _
      unfold lW
      by_cases d : j < a.Mine.Places.n
      · rw [aA (dlt d), aA (dix d), aF, aQ (by omega)]
        have skip : Fx a j → (∃ j' : Nat, ((j + 1 : Nat) : Int) = (j' : Int) ∧ j' ≤ a.Mine.Places.n ∧ l.n = cM a j' ∧ ∀ i, i < j' → ¬ Fx a i → l.f (cM a i) = (i : Int)) := fun fx =>
          ⟨j + 1, rfl, d, by rw [afG fx]; exact hn, fun i hi ci => by
            by_cases e : i = j
            · rw [e] at ci; exact absurd fx ci
            · exact hf i (by omega) ci⟩
        cases hs : (a.Mine.Places.f j).Surface with
        | true =>
          rw [aD (b := !true) rfl]
          exact ⟨_, rfl, skip (.inl hs), by dsimp only; omega⟩
        | false =>
          obtain ⟨z, ez, hz⟩ := ad4 c j cn
          have hz' := hz.trans (hc j (by omega) (by omega))
          rw [aA (b := !false) rfl, get_bind ez]
          cases z with
          | true =>
            rw [aD (b := !true) rfl]
            exact ⟨_, rfl, skip (.inr (hz'.1 rfl)), by dsimp only; omega⟩
          | false =>
            have nf : ¬ Fx a j := fun q => q.elim (fun e => by rw [hs] at e; cases e) fun n => by cases hz'.2 n
            rw [aA (b := !false) rfl, aA (decide_eq_true ⟨by omega, by omega⟩)]
            refine ⟨_, rfl, ⟨j + 1, rfl, d, by rw [acZ nf]; dsimp only; omega, fun i hi ci => ?_⟩, by dsimp only; omega⟩
            show cond (Nat.blt (cM a i) l.n) _ _ = _
            by_cases e : i = j
            · rw [e, Au (by omega)]; rfl
            · have := ag0 a j (show i + 1 ≤ j by omega)
              rw [acZ ci] at this
              rw [yO (by omega)]
              exact hf i (by omega) ci
      · obtain rfl : j = a.Mine.Places.n := by omega
        rw [aD (dge (Nat.le_refl _))]
        exact ⟨_, rfl, l, rfl, hn, hf⟩)
    (Sq.mk 0 (fun _ => (0 : Int)), 0) ⟨0, rfl, Nat.zero_le _, rfl, fun i hi => absurd hi (Nat.not_lt_zero _)⟩
  obtain ⟨z, hz, l, rfl, hl⟩ := key
  refine ⟨l, ?_, hl⟩
  rw [Zc]; unfold Gu
  rw [get_bind ec, aI (by rw [TQ]; exact hz)]; rfl
theorem CR (a : SAir) (s : au) (st : Sq Int) (h12 : a.Mine.Places.n ≤ 12) : Bd a s st = some (dR a s st) := by
  rw [aaA]; unfold J3
  rw [get_bind (L8 a s ⟨st, st⟩ h12)]
  have quick : ∀ e : Int, FY a s ⟨st, st⟩ = e → dR a s st = e → e ≠ 0 → e ≠ 12 → (DT.ite (FY a s ⟨st, st⟩ != (0 : Int)) (.ite (FY a s ⟨st, st⟩ != (12 : Int)) (.leaf (FY a s ⟨st, st⟩)) (.bind (kK a.Mine) fun z2 =>
      .sum (qo st z2 (0 : Int)) (fun _ => .leaf (0 : Int)) (fun _ => .leaf (12 : Int)))) (.bind (kK a.Mine) fun z3 =>
      .sum (qo st z3 (0 : Int)) (fun _ => .leaf (0 : Int)) (fun _ => .leaf (12 : Int))) : DT Int).get = some (dR a s st) := fun e e1 e2 n0 n12 => by
    rw [e1, e2, aA (by simp [n0]), aA (by simp [n12])]; rfl
  by_cases h1 : airE a = 0
  · by_cases h2 : aZ a s = true
    · by_cases h3 : st.n = a.Mine.Places.n
      · by_cases h5 : Rng st
        · have ok := aW h2
          have np := ok.m.np
          obtain ⟨l, el, hl⟩ := Mv ok.m h12
          have ln : l.n ≤ 1000 := by have := hl.n; have := aij a a.Mine.Places.n; omega
          have lp : qo st l 0 = some (sumO (aR (gQ fun i => Fx a i → st.f i = 0) st.n 0)) := by
            rw [VA, ← jV]
            refine aX (step := fun v => nL st l v) (gQ fun i => Fx a i → st.f i = 0) (fun i hi => ?_) ?_ st.n 0 (Nat.zero_add _)
            · have at' := hl.mem (show i < a.Mine.Places.n by omega)
              unfold nL gQ
              rw [aA (dlt hi), aA (dix hi), aF, aQ (by omega)]
              by_cases c2 : st.f i = 0
              · rw [aD (by rw [c2]; rfl), if_pos fun _ => c2]; rfl
              · obtain ⟨z, ez, hz⟩ := ad4 l i ln
                rw [aA (by simp [c2]), get_bind ez]
                cases z with
                | true => rw [aD (b := !true) rfl, if_pos fun q => absurd q (at'.1 (hz.1 rfl))]; rfl
                | false => rw [aA (b := !false) rfl, if_neg fun q => by { have := hz.2 (at'.2 fun fx => c2 (q fx)); cases this }]; rfl
            · unfold nL
              rw [aD (dge (Nat.le_refl _))]; rfl
          have tail : (DT.bind (kK a.Mine) fun z2 => .sum (qo st z2 (0 : Int)) (fun _ => .leaf (0 : Int)) (fun _ => .leaf (12 : Int)) : DT Int).get = some (dR a s st) := by
            rw [get_bind el]
            unfold dR
            rw [if_neg (not_not_intro h1), if_neg (by rw [h2]; simp), if_neg (not_not_intro h3), if_neg (not_not_intro h5)]
            by_cases h7 : ∀ i, i < a.Mine.Places.n → Fx a i → st.f i = 0
            · rw [afc fun i hi => h7 i (by omega)] at lp
              rw [aI lp, if_pos h7]; rfl
            · rw [afd fun q => h7 fun i hi => q i (by omega)] at lp
              rw [aI lp, if_neg h7]; rfl
          have two : FY a s ⟨st, st⟩ = 0 ∨ FY a s ⟨st, st⟩ = 12 := by
            unfold FY
            rw [if_neg (not_not_intro h1), if_neg (by rw [h2]; simp), if_neg (not_not_intro h3), if_neg (not_not_intro h3), if_neg (not_not_intro h5), if_neg (not_not_intro h5)]
            split
            · exact .inl rfl
            · exact .inr rfl
          rcases two with e | e
          · rw [e, aD (show ((0 : Int) != 0) = false from rfl)]; exact tail
          · rw [e, aA (show ((12 : Int) != 0) = true from rfl), aD (show ((12 : Int) != 12) = false from rfl)]; exact tail
        · refine quick 1 ?_ ?_ (by decide) (by decide)
          · unfold FY; rw [if_neg (not_not_intro h1), if_neg (by rw [h2]; simp), if_neg (not_not_intro h3), if_neg (not_not_intro h3), if_pos h5]
          · unfold dR; rw [if_neg (not_not_intro h1), if_neg (by rw [h2]; simp), if_neg (not_not_intro h3), if_pos h5]
      · refine quick 11 ?_ ?_ (by decide) (by decide)
        · unfold FY; rw [if_neg (not_not_intro h1), if_neg (by rw [h2]; simp), if_pos h3]
        · unfold dR; rw [if_neg (not_not_intro h1), if_neg (by rw [h2]; simp), if_pos h3]
    · have h2 : aZ a s = false := by simpa using h2
      refine quick 21 ?_ ?_ (by decide) (by decide)
      · unfold FY; rw [if_neg (not_not_intro h1), if_pos h2]
      · unfold dR; rw [if_neg (not_not_intro h1), if_pos h2]
  · refine quick (airE a) ?_ ?_ h1 (agM a)
    · unfold FY; rw [if_pos h1]
    · unfold dR; rw [if_pos h1]
theorem ahq {a : SAir} {s : au} {l : Sq Int} {k : Nat} (h : PrOK a s l k) : tC (bg.mk (SAir.mk (aL.mk a.Mine.Places a.Mine.Roads) a.Fans a.Doors) (au.mk s.Fans s.Doors) l) (k : Int) = some (iQ a s true l k) := by
  rw [K9]; unfold wK
  obtain ⟨r, er, hr⟩ := Ww h
  rw [aF] at hr
  refine (get_bind er).trans ?_
  rw [Kv.uniq (tL h).2 hr]; rfl
theorem aco {a : SAir} {s : au} (rt : aZ a s = true) {p : Sq Int} (hp : MvOK a p) :
    ∀ m k ch l, k + m = a.Mine.Places.n → bQ a l → (∃ y, bL a s true m k ch l = some y ∧ bQ a y.2 ∧ dW p a.Mine.Places a.Mine.Roads a.Fans a.Doors s.Fans s.Doors l ch (cM a k : Nat) = some (.inl y)) ∨
      (bL a s true m k ch l = none ∧ ∃ y, dW p a.Mine.Places a.Mine.Roads a.Fans a.Doors s.Fans s.Doors l ch (cM a k : Nat) = some (.inr y)) := by
  have ok := aW rt
  have np := ok.m.np
  intro m
  induction m with
  | zero =>
    intro k ch l hk hl
    have ln := hl.n
    refine .inl ⟨(ch, l), rfl, hl, ?_⟩
    rw [iM]
    refine (bI (x := .l (ch, l)) ?_).trans rfl
    dsimp only
    unfold dh
    rw [aD (dge (by rw [hp.n, show k = a.Mine.Places.n by omega]; exact Nat.le_refl _))]; rfl
  | succ m ih =>
    intro k ch l hk hl
    have ln := hl.n
    have ck := aij a k
    have pr : PrOK a s l k := ⟨rt, hl, by omega, by omega⟩
    by_cases c : Fx a k
    · rw [pQ c, ← afG c]
      exact ih (k + 1) ch l (by omega) hl
    · have lt := hp.lt (show k < a.Mine.Places.n by omega) c
      have pk : p.f (cM a k) = (k : Int) := hp.f k (by omega) c
      have nk : wr (((cM a k : Nat) : Int) + 1) = ((cM a (k + 1) : Nat) : Int) := by rw [acZ c]; exact aQ (by omega)
      have gt : ∀ {x}, (DT.bind (tC (bg.mk (SAir.mk (aL.mk a.Mine.Places a.Mine.Roads) a.Fans a.Doors) (au.mk s.Fans s.Doors) l) (k : Int)) fun z0 =>
          .ite (!z0.2) (.leaf (.r l)) (.ite ch (.ite (decide ((0 : Int) ≤ (k : Int) ∧ (k : Int) < ((l.n : Nat) : Int))) (.leaf (.next ((Sq.mk l.n (fun k0 => (cond (Nat.beq k0 k) z0.1 (l.f k0)))), true, ((cM a (k + 1) : Nat) : Int)))) .fail)
            (.ite (decide ((0 : Int) ≤ (k : Int) ∧ (k : Int) < ((l.n : Nat) : Int))) (.ite (decide ((0 : Int) ≤ (k : Int) ∧ (k : Int) < ((l.n : Nat) : Int))) (.leaf (.next ((Sq.mk l.n (fun k1 => (cond (Nat.beq k1 k) z0.1 (l.f k1)))), (z0.1 != (l.f k)), ((cM a (k + 1) : Nat) : Int)))) .fail) .fail)) : DT (LR ((Sq Int) × Bool × Int) (Bool × (Sq Int)) ((Sq Int)))).get = some x →
          (dh p a.Mine.Places a.Mine.Roads a.Fans a.Doors s.Fans s.Doors l ch (cM a k : Nat)).get = some x := fun {x} e => by
        unfold dh
        rw [aA (dlt lt), aA (dix lt), aF, pk, nk, aF]; exact e
      by_cases c2 : (iQ a s true l k).2 = true
      · have nx : dW p a.Mine.Places a.Mine.Roads a.Fans a.Doors s.Fans s.Doors l ch (cM a k : Nat) = dW p a.Mine.Places a.Mine.Roads a.Fans a.Doors s.Fans s.Doors (setS l k (iQ a s true l k).1) (ch || ((iQ a s true l k).1 != l.f k)) (cM a (k + 1) : Nat) := by
          rw [iM, iM]
          refine bI (x := .next (setS l k (iQ a s true l k).1, (ch || ((iQ a s true l k).1 != l.f k)), ((cM a (k + 1) : Nat) : Int))) (gt ?_)
          rw [get_bind (ahq pr), c2, aD (b := !true) rfl]
          cases ch with
          | true => rw [aA rfl, aA (dix (by omega))]; rfl
          | false => rw [aD rfl, aA (dix (by omega)), aA (dix (by omega))]; rfl
        rw [qX c c2, nx]
        have b := FJ pr true c2
        exact ih (k + 1) _ _ (by omega) (hl.set k b.1 b.2)
      · refine .inr ⟨wM c c2, l, ?_⟩
        rw [iM]
        refine (bI (x := .r l) (gt ?_)).trans rfl
        rw [get_bind (ahq pr), aA (by simpa using c2)]; rfl
theorem aaU {a : SAir} {s : au} (rt : aZ a s = true) {p : Sq Int} (hp : MvOK a p) {l : Sq Int} (hl : bQ a l) :
    (∃ y, bL a s true a.Mine.Places.n 0 false l = some y ∧ bQ a y.2 ∧ eG (bg.mk (SAir.mk (aL.mk a.Mine.Places a.Mine.Roads) a.Fans a.Doors) (au.mk s.Fans s.Doors) l) p = some (y.1, true, y.2)) ∨
      (bL a s true a.Mine.Places.n 0 false l = none ∧ ∃ y, eG (bg.mk (SAir.mk (aL.mk a.Mine.Places a.Mine.Roads) a.Fans a.Doors) (au.mk s.Fans s.Doors) l) p = some (false, false, y)) := by
  rw [Gx]; unfold qV
  rcases aco rt hp a.Mine.Places.n 0 false l (Nat.zero_add _) hl with ⟨y, e1, h, e2⟩ | ⟨e1, y, e2⟩
  · exact .inl ⟨y, e1, h, (aI e2).trans rfl⟩
  · exact .inr ⟨e1, y, (aI e2).trans rfl⟩
theorem aaC {a : SAir} {s : au} (rt : aZ a s = true) (st : Sq Int) {p : Sq Int} (hp : MvOK a p) :
    ∀ (r : Nat) (n : Int) (l : Sq Int), n + (r : Int) = 200 → 0 ≤ n → bQ a l → (∃ y, bW a s true r l = some y ∧ bQ a y ∧ ji st p a.Mine.Places a.Mine.Roads a.Fans a.Doors s.Fans s.Doors l n = some (.inr (.inr y))) ∨
      (bW a s true r l = none ∧ ((∃ y, ji st p a.Mine.Places a.Mine.Roads a.Fans a.Doors s.Fans s.Doors l n = some (.inl y)) ∨ ∃ y, ji st p a.Mine.Places a.Mine.Roads a.Fans a.Doors s.Fans s.Doors l n = some (.inr (.inl y)))) := by
  intro r
  induction r with
  | zero =>
    intro n l hn h0 hl
    refine .inr ⟨rfl, .inl ⟨l, ?_⟩⟩
    rw [wL]
    refine (bI (x := .l l) ?_).trans rfl
    dsimp only
    unfold dJ
    rw [aD (decide_eq_false (by omega))]; rfl
  | succ r ih =>
    intro n l hn h0 hl
    have stp : ∀ x, (dJ st p a.Mine.Places a.Mine.Roads a.Fans a.Doors s.Fans s.Doors l n).get = some x → ji st p a.Mine.Places a.Mine.Roads a.Fans a.Doors s.Fans s.Doors l n = LR.elim (fixO fun v : Sq Int × Int => dJ st p a.Mine.Places a.Mine.Roads a.Fans a.Doors s.Fans s.Doors v.1 v.2) (fun a => some (.inl a)) (fun b => some (.inr b)) x := fun x e => by
      rw [wL]
      exact bI e
    have un : ∀ {x y}, eG (bg.mk (SAir.mk (aL.mk a.Mine.Places a.Mine.Roads) a.Fans a.Doors) (au.mk s.Fans s.Doors) l) p = some y → (DT.ite (!y.2.1) (.leaf (.r (Sum.inl (y.2.2)))) (.ite (!y.1) (.leaf (.r (Sum.inr (y.2.2)))) (.leaf (.next (y.2.2, (wr (n + (1 : Int))))))) : DT (LR ((Sq Int) × Int) ((Sq Int)) (((Sq Int)) ⊕ ((Sq Int))))).get = some x → (dJ st p a.Mine.Places a.Mine.Roads a.Fans a.Doors s.Fans s.Doors l n).get = some x := fun {x y} ey e => by
      unfold dJ
      rw [aA (decide_eq_true (by omega)), get_bind ey]; exact e
    rcases aaU rt hp hl with ⟨⟨c, y⟩, e1, pk, e2⟩ | ⟨e1, y, e2⟩
    · cases c with
      | true =>
        have e : bW a s true (r + 1) l = bW a s true r y := by
          show (bL a s true a.Mine.Places.n 0 false l).bind _ = _
          rw [e1]; rfl
        have e' := stp (.next (y, n + 1)) (un e2 (by
          dsimp only
          rw [aD (b := !true) rfl, aD (b := !true) rfl, aO (x := n + 1) (by omega) (by omega)]; rfl))
        have e'' := e'.trans (show _ = ji st p a.Mine.Places a.Mine.Roads a.Fans a.Doors s.Fans s.Doors y (n + 1) from (wL ..).symm)
        rw [e, e'']
        exact ih (n + 1) y (by omega) (by omega) pk
      | false =>
        refine .inl ⟨y, ?_, pk, ?_⟩
        · show (bL a s true a.Mine.Places.n 0 false l).bind _ = _
          rw [e1]; rfl
        · exact (stp (.r (.inr y)) (un e2 rfl)).trans rfl
    · refine .inr ⟨?_, .inr ⟨y, ?_⟩⟩
      · show (bL a s true a.Mine.Places.n 0 false l).bind _ = _
        rw [e1]; rfl
      · exact (stp (.r (.inl y)) (un e2 rfl)).trans rfl
theorem aeV (a : SAir) (s : au) (st : Sq Int) (h12 : a.Mine.Places.n ≤ 12) (h0 : 0 < a.Mine.Places.n) : Ep a s st = some (aS a s st true) := by
  rw [TR]; unfold Bh
  rw [get_bind (CR a s st h12)]
  by_cases c : dR a s st = 0
  · obtain ⟨rt, hl, _⟩ := nT c
    have ok := aW rt
    have np := ok.m.np
    have ln := hl.n
    obtain ⟨p, ep, hp⟩ := Mv ok.m h12
    rw [aD (by rw [c]; rfl), get_bind (agx st (by omega) (by omega)), get_bind ep]
    rcases aaC rt st hp 200 0 st (by omega) (by omega) hl with ⟨y, e1, _, e2⟩ | ⟨e1, ⟨y, e2⟩ | ⟨y, e2⟩⟩
    · rw [aI e2, d9 c e1]; exact (aI rfl).trans rfl
    · rw [aI e2, bX c e1]; rfl
    · rw [aI e2, bX c e1]; exact (aI rfl).trans rfl
  · rw [aA (by simp [c]), uK c]; rfl
theorem VE {a : SAir} {s : au} (rt : aZ a s = true) {p : Sq Int} (hp : MvOK a p) :
    ∀ (r : Nat) (n : Int) (l : Sq Int), n + (r : Int) = 200 → 0 ≤ n → bQ a l → (∃ y, bW a s true r l = some y ∧ bQ a y ∧ fF p a.Mine.Places a.Mine.Roads a.Fans a.Doors s.Fans s.Doors l n = some (.inr (.inr y))) ∨
      (bW a s true r l = none ∧ ((∃ y, fF p a.Mine.Places a.Mine.Roads a.Fans a.Doors s.Fans s.Doors l n = some (.inl y)) ∨ ∃ y, fF p a.Mine.Places a.Mine.Roads a.Fans a.Doors s.Fans s.Doors l n = some (.inr (.inl y)))) := by
  intro r
  induction r with
  | zero =>
    intro n l hn h0 hl
    refine .inr ⟨rfl, .inl ⟨l, ?_⟩⟩
    rw [qW]
    refine (bI (x := .l l) ?_).trans rfl
    dsimp only
    unfold bK
    rw [aD (decide_eq_false (by omega))]; rfl
  | succ r ih =>
    intro n l hn h0 hl
    have stp : ∀ x, (bK p a.Mine.Places a.Mine.Roads a.Fans a.Doors s.Fans s.Doors l n).get = some x → fF p a.Mine.Places a.Mine.Roads a.Fans a.Doors s.Fans s.Doors l n = LR.elim (fixO fun v : Sq Int × Int => bK p a.Mine.Places a.Mine.Roads a.Fans a.Doors s.Fans s.Doors v.1 v.2) (fun a => some (.inl a)) (fun b => some (.inr b)) x := fun x e => by
      rw [qW]
      exact bI e
    have un : ∀ {x y}, eG (bg.mk (SAir.mk (aL.mk a.Mine.Places a.Mine.Roads) a.Fans a.Doors) (au.mk s.Fans s.Doors) l) p = some y → (DT.ite (!y.2.1) (.leaf (.r (Sum.inl (y.2.2)))) (.ite (!y.1) (.leaf (.r (Sum.inr (y.2.2)))) (.leaf (.next (y.2.2, (wr (n + (1 : Int))))))) : DT (LR ((Sq Int) × Int) ((Sq Int)) (((Sq Int)) ⊕ ((Sq Int))))).get = some x → (bK p a.Mine.Places a.Mine.Roads a.Fans a.Doors s.Fans s.Doors l n).get = some x := fun {x y} ey e => by
      unfold bK
      rw [aA (decide_eq_true (by omega)), get_bind ey]; exact e
    rcases aaU rt hp hl with ⟨⟨c, y⟩, e1, pk, e2⟩ | ⟨e1, y, e2⟩
    · cases c with
      | true =>
        have e : bW a s true (r + 1) l = bW a s true r y := by
          show (bL a s true a.Mine.Places.n 0 false l).bind _ = _
          rw [e1]; rfl
        have e' := stp (.next (y, n + 1)) (un e2 (by
          dsimp only
          rw [aD (b := !true) rfl, aD (b := !true) rfl, aO (x := n + 1) (by omega) (by omega)]; rfl))
        have e'' := e'.trans (show _ = fF p a.Mine.Places a.Mine.Roads a.Fans a.Doors s.Fans s.Doors y (n + 1) from (qW ..).symm)
        rw [e, e'']
        exact ih (n + 1) y (by omega) (by omega) pk
      | false =>
        refine .inl ⟨y, ?_, pk, ?_⟩
        · show (bL a s true a.Mine.Places.n 0 false l).bind _ = _
          rw [e1]; rfl
        · exact (stp (.r (.inr y)) (un e2 rfl)).trans rfl
    · refine .inr ⟨?_, .inr ⟨y, ?_⟩⟩
      · show (bL a s true a.Mine.Places.n 0 false l).bind _ = _
        rw [e1]; rfl
      · exact (stp (.r (.inl y)) (un e2 rfl)).trans rfl
theorem aaD (a : SAir) (s : au) (st : Sq Int) (h12 : a.Mine.Places.n ≤ 12) : zV a s st = some (aS a s st true) := by
  rw [ND]; unfold xW
  rw [get_bind (CR a s st h12)]
  by_cases c : dR a s st = 0
  · obtain ⟨rt, hl, _⟩ := nT c
    have ok := aW rt
    have np := ok.m.np
    have ln := hl.n
    obtain ⟨p, ep, hp⟩ := Mv ok.m h12
    rw [aD (by rw [c]; rfl), get_bind (aeZ st (by omega)), get_bind ep]
    rcases VE rt hp 200 0 st (by omega) (by omega) hl with ⟨y, e1, _, e2⟩ | ⟨e1, ⟨y, e2⟩ | ⟨y, e2⟩⟩
    · rw [aI e2, d9 c e1]; exact (aI rfl).trans rfl
    · rw [aI e2, bX c e1]; rfl
    · rw [aI e2, bX c e1]; exact (aI rfl).trans rfl
  · rw [aA (by simp [c]), uK c]; rfl
theorem aaO {a : SAir} {s : au} {l : Sq Int} {k : Nat} (h : PrOK a s l k) : nW (bg.mk (SAir.mk (aL.mk a.Mine.Places a.Mine.Roads) a.Fans a.Doors) (au.mk s.Fans s.Doors) l) (k : Int) = some (iQ a s false l k) := by
  rw [Gv]; unfold qU
  obtain ⟨r, er, hr⟩ := Qp h
  rw [aF] at hr
  refine (get_bind er).trans ?_
  rw [tV.uniq (mI h).2 hr]; rfl
theorem Ze {a : SAir} {s : au} (rt : aZ a s = true) {p : Sq Int} (hp : MvOK a p) :
    ∀ m k ch l, k + m = a.Mine.Places.n → bQ a l → (∃ y, bL a s false m k ch l = some y ∧ bQ a y.2 ∧ cu p a.Mine.Places a.Mine.Roads a.Fans a.Doors s.Fans s.Doors l ch (cM a k : Nat) = some (.inl y)) ∨
      (bL a s false m k ch l = none ∧ ∃ y, cu p a.Mine.Places a.Mine.Roads a.Fans a.Doors s.Fans s.Doors l ch (cM a k : Nat) = some (.inr y)) := by
  have ok := aW rt
  have np := ok.m.np
  intro m
  induction m with
  | zero =>
    intro k ch l hk hl
    have ln := hl.n
    refine .inl ⟨(ch, l), rfl, hl, ?_⟩
    rw [gH]
    refine (bI (x := .l (ch, l)) ?_).trans rfl
    dsimp only
    unfold bR
    rw [aD (dge (by rw [hp.n, show k = a.Mine.Places.n by omega]; exact Nat.le_refl _))]; rfl
  | succ m ih =>
    intro k ch l hk hl
    have ln := hl.n
    have ck := aij a k
    have pr : PrOK a s l k := ⟨rt, hl, by omega, by omega⟩
    by_cases c : Fx a k
    · rw [pQ c, ← afG c]
      exact ih (k + 1) ch l (by omega) hl
    · have lt := hp.lt (show k < a.Mine.Places.n by omega) c
      have pk : p.f (cM a k) = (k : Int) := hp.f k (by omega) c
      have nk : wr (((cM a k : Nat) : Int) + 1) = ((cM a (k + 1) : Nat) : Int) := by rw [acZ c]; exact aQ (by omega)
      have gt : ∀ {x}, (DT.bind (nW (bg.mk (SAir.mk (aL.mk a.Mine.Places a.Mine.Roads) a.Fans a.Doors) (au.mk s.Fans s.Doors) l) (k : Int)) fun z0 =>
          .ite (!z0.2) (.leaf (.r l)) (.ite ch (.ite (decide ((0 : Int) ≤ (k : Int) ∧ (k : Int) < ((l.n : Nat) : Int))) (.leaf (.next ((Sq.mk l.n (fun k0 => (cond (Nat.beq k0 k) z0.1 (l.f k0)))), true, ((cM a (k + 1) : Nat) : Int)))) .fail)
            (.ite (decide ((0 : Int) ≤ (k : Int) ∧ (k : Int) < ((l.n : Nat) : Int))) (.ite (decide ((0 : Int) ≤ (k : Int) ∧ (k : Int) < ((l.n : Nat) : Int))) (.leaf (.next ((Sq.mk l.n (fun k1 => (cond (Nat.beq k1 k) z0.1 (l.f k1)))), (z0.1 != (l.f k)), ((cM a (k + 1) : Nat) : Int)))) .fail) .fail)) : DT (LR ((Sq Int) × Bool × Int) (Bool × (Sq Int)) ((Sq Int)))).get = some x →
          (bR p a.Mine.Places a.Mine.Roads a.Fans a.Doors s.Fans s.Doors l ch (cM a k : Nat)).get = some x := fun {x} e => by
        unfold bR
        rw [aA (dlt lt), aA (dix lt), aF, pk, nk, aF]; exact e
      by_cases c2 : (iQ a s false l k).2 = true
      · have nx : cu p a.Mine.Places a.Mine.Roads a.Fans a.Doors s.Fans s.Doors l ch (cM a k : Nat) = cu p a.Mine.Places a.Mine.Roads a.Fans a.Doors s.Fans s.Doors (setS l k (iQ a s false l k).1) (ch || ((iQ a s false l k).1 != l.f k)) (cM a (k + 1) : Nat) := by
          rw [gH, gH]
          refine bI (x := .next (setS l k (iQ a s false l k).1, (ch || ((iQ a s false l k).1 != l.f k)), ((cM a (k + 1) : Nat) : Int))) (gt ?_)
          rw [get_bind (aaO pr), c2, aD (b := !true) rfl]
          cases ch with
          | true => rw [aA rfl, aA (dix (by omega))]; rfl
          | false => rw [aD rfl, aA (dix (by omega)), aA (dix (by omega))]; rfl
        rw [qX c c2, nx]
        have b := FJ pr false c2
        exact ih (k + 1) _ _ (by omega) (hl.set k b.1 b.2)
      · refine .inr ⟨wM c c2, l, ?_⟩
        rw [gH]
        refine (bI (x := .r l) (gt ?_)).trans rfl
        rw [get_bind (aaO pr), aA (by simpa using c2)]; rfl
theorem Wh {a : SAir} {s : au} (rt : aZ a s = true) {p : Sq Int} (hp : MvOK a p) {l : Sq Int} (hl : bQ a l) :
    (∃ y, bL a s false a.Mine.Places.n 0 false l = some y ∧ bQ a y.2 ∧ bZ (bg.mk (SAir.mk (aL.mk a.Mine.Places a.Mine.Roads) a.Fans a.Doors) (au.mk s.Fans s.Doors) l) p = some (y.1, true, y.2)) ∨
      (bL a s false a.Mine.Places.n 0 false l = none ∧ ∃ y, bZ (bg.mk (SAir.mk (aL.mk a.Mine.Places a.Mine.Roads) a.Fans a.Doors) (au.mk s.Fans s.Doors) l) p = some (false, false, y)) := by
  rw [Eo]; unfold og
  rcases Ze rt hp a.Mine.Places.n 0 false l (Nat.zero_add _) hl with ⟨y, e1, h, e2⟩ | ⟨e1, y, e2⟩
  · exact .inl ⟨y, e1, h, (aI e2).trans rfl⟩
  · exact .inr ⟨e1, y, (aI e2).trans rfl⟩
theorem XC {a : SAir} {s : au} (rt : aZ a s = true) (st : Sq Int) {p : Sq Int} (hp : MvOK a p) :
    ∀ (r : Nat) (n : Int) (l : Sq Int), n + (r : Int) = 200 → 0 ≤ n → bQ a l → (∃ y, bW a s false r l = some y ∧ bQ a y ∧ fV st p a.Mine.Places a.Mine.Roads a.Fans a.Doors s.Fans s.Doors l n = some (.inr (.inr y))) ∨
      (bW a s false r l = none ∧ ((∃ y, fV st p a.Mine.Places a.Mine.Roads a.Fans a.Doors s.Fans s.Doors l n = some (.inl y)) ∨ ∃ y, fV st p a.Mine.Places a.Mine.Roads a.Fans a.Doors s.Fans s.Doors l n = some (.inr (.inl y)))) := by
  intro r
  induction r with
  | zero =>
    intro n l hn h0 hl
    refine .inr ⟨rfl, .inl ⟨l, ?_⟩⟩
    rw [tH]
    refine (bI (x := .l l) ?_).trans rfl
    dsimp only
    unfold bN
    rw [aD (decide_eq_false (by omega))]; rfl
  | succ r ih =>
    intro n l hn h0 hl
    have stp : ∀ x, (bN st p a.Mine.Places a.Mine.Roads a.Fans a.Doors s.Fans s.Doors l n).get = some x → fV st p a.Mine.Places a.Mine.Roads a.Fans a.Doors s.Fans s.Doors l n = LR.elim (fixO fun v : Sq Int × Int => bN st p a.Mine.Places a.Mine.Roads a.Fans a.Doors s.Fans s.Doors v.1 v.2) (fun a => some (.inl a)) (fun b => some (.inr b)) x := fun x e => by
      rw [tH]
      exact bI e
    have un : ∀ {x y}, bZ (bg.mk (SAir.mk (aL.mk a.Mine.Places a.Mine.Roads) a.Fans a.Doors) (au.mk s.Fans s.Doors) l) p = some y → (DT.ite (!y.2.1) (.leaf (.r (Sum.inl (y.2.2)))) (.ite (!y.1) (.leaf (.r (Sum.inr (y.2.2)))) (.leaf (.next (y.2.2, (wr (n + (1 : Int))))))) : DT (LR ((Sq Int) × Int) ((Sq Int)) (((Sq Int)) ⊕ ((Sq Int))))).get = some x → (bN st p a.Mine.Places a.Mine.Roads a.Fans a.Doors s.Fans s.Doors l n).get = some x := fun {x y} ey e => by
      unfold bN
      rw [aA (decide_eq_true (by omega)), get_bind ey]; exact e
    rcases Wh rt hp hl with ⟨⟨c, y⟩, e1, pk, e2⟩ | ⟨e1, y, e2⟩
    · cases c with
      | true =>
        have e : bW a s false (r + 1) l = bW a s false r y := by
          show (bL a s false a.Mine.Places.n 0 false l).bind _ = _
          rw [e1]; rfl
        have e' := stp (.next (y, n + 1)) (un e2 (by
          dsimp only
          rw [aD (b := !true) rfl, aD (b := !true) rfl, aO (x := n + 1) (by omega) (by omega)]; rfl))
        have e'' := e'.trans (show _ = fV st p a.Mine.Places a.Mine.Roads a.Fans a.Doors s.Fans s.Doors y (n + 1) from (tH ..).symm)
        rw [e, e'']
        exact ih (n + 1) y (by omega) (by omega) pk
      | false =>
        refine .inl ⟨y, ?_, pk, ?_⟩
        · show (bL a s false a.Mine.Places.n 0 false l).bind _ = _
          rw [e1]; rfl
        · exact (stp (.r (.inr y)) (un e2 rfl)).trans rfl
    · refine .inr ⟨?_, .inr ⟨y, ?_⟩⟩
      · show (bL a s false a.Mine.Places.n 0 false l).bind _ = _
        rw [e1]; rfl
      · exact (stp (.r (.inl y)) (un e2 rfl)).trans rfl
theorem acs (a : SAir) (s : au) (st : Sq Int) (h12 : a.Mine.Places.n ≤ 12) (h0 : 0 < a.Mine.Places.n) : Bg a s st = some (aS a s st false) := by
  rw [O9]; unfold zh
  rw [get_bind (CR a s st h12)]
  by_cases c : dR a s st = 0
  · obtain ⟨rt, hl, _⟩ := nT c
    have ok := aW rt
    have np := ok.m.np
    have ln := hl.n
    obtain ⟨p, ep, hp⟩ := Mv ok.m h12
    rw [aD (by rw [c]; rfl), get_bind (agx st (by omega) (by omega)), get_bind ep]
    rcases XC rt st hp 200 0 st (by omega) (by omega) hl with ⟨y, e1, _, e2⟩ | ⟨e1, ⟨y, e2⟩ | ⟨y, e2⟩⟩
    · rw [aI e2, d9 c e1]; exact (aI rfl).trans rfl
    · rw [aI e2, bX c e1]; rfl
    · rw [aI e2, bX c e1]; exact (aI rfl).trans rfl
  · rw [aA (by simp [c]), uK c]; rfl
theorem Rq {a : SAir} {s : au} (rt : aZ a s = true) {p : Sq Int} (hp : MvOK a p) :
    ∀ (r : Nat) (n : Int) (l : Sq Int), n + (r : Int) = 200 → 0 ≤ n → bQ a l → (∃ y, bW a s false r l = some y ∧ bQ a y ∧ dH p a.Mine.Places a.Mine.Roads a.Fans a.Doors s.Fans s.Doors l n = some (.inr (.inr y))) ∨
      (bW a s false r l = none ∧ ((∃ y, dH p a.Mine.Places a.Mine.Roads a.Fans a.Doors s.Fans s.Doors l n = some (.inl y)) ∨ ∃ y, dH p a.Mine.Places a.Mine.Roads a.Fans a.Doors s.Fans s.Doors l n = some (.inr (.inl y)))) := by
  intro r
  induction r with
  | zero =>
    intro n l hn h0 hl
    refine .inr ⟨rfl, .inl ⟨l, ?_⟩⟩
    rw [oh]
    refine (bI (x := .l l) ?_).trans rfl
    dsimp only
    unfold bC
    rw [aD (decide_eq_false (by omega))]; rfl
  | succ r ih =>
    intro n l hn h0 hl
    have stp : ∀ x, (bC p a.Mine.Places a.Mine.Roads a.Fans a.Doors s.Fans s.Doors l n).get = some x → dH p a.Mine.Places a.Mine.Roads a.Fans a.Doors s.Fans s.Doors l n = LR.elim (fixO fun v : Sq Int × Int => bC p a.Mine.Places a.Mine.Roads a.Fans a.Doors s.Fans s.Doors v.1 v.2) (fun a => some (.inl a)) (fun b => some (.inr b)) x := fun x e => by
      rw [oh]
      exact bI e
    have un : ∀ {x y}, bZ (bg.mk (SAir.mk (aL.mk a.Mine.Places a.Mine.Roads) a.Fans a.Doors) (au.mk s.Fans s.Doors) l) p = some y → (DT.ite (!y.2.1) (.leaf (.r (Sum.inl (y.2.2)))) (.ite (!y.1) (.leaf (.r (Sum.inr (y.2.2)))) (.leaf (.next (y.2.2, (wr (n + (1 : Int))))))) : DT (LR ((Sq Int) × Int) ((Sq Int)) (((Sq Int)) ⊕ ((Sq Int))))).get = some x → (bC p a.Mine.Places a.Mine.Roads a.Fans a.Doors s.Fans s.Doors l n).get = some x := fun {x y} ey e => by
      unfold bC
      rw [aA (decide_eq_true (by omega)), get_bind ey]; exact e
    rcases Wh rt hp hl with ⟨⟨c, y⟩, e1, pk, e2⟩ | ⟨e1, y, e2⟩
    · cases c with
      | true =>
        have e : bW a s false (r + 1) l = bW a s false r y := by
          show (bL a s false a.Mine.Places.n 0 false l).bind _ = _
          rw [e1]; rfl
        have e' := stp (.next (y, n + 1)) (un e2 (by
          dsimp only
          rw [aD (b := !true) rfl, aD (b := !true) rfl, aO (x := n + 1) (by omega) (by omega)]; rfl))
        have e'' := e'.trans (show _ = dH p a.Mine.Places a.Mine.Roads a.Fans a.Doors s.Fans s.Doors y (n + 1) from (oh ..).symm)
        rw [e, e'']
        exact ih (n + 1) y (by omega) (by omega) pk
      | false =>
        refine .inl ⟨y, ?_, pk, ?_⟩
        · show (bL a s false a.Mine.Places.n 0 false l).bind _ = _
          rw [e1]; rfl
        · exact (stp (.r (.inr y)) (un e2 rfl)).trans rfl
    · refine .inr ⟨?_, .inr ⟨y, ?_⟩⟩
      · show (bL a s false a.Mine.Places.n 0 false l).bind _ = _
        rw [e1]; rfl
      · exact (stp (.r (.inl y)) (un e2 rfl)).trans rfl
theorem XD (a : SAir) (s : au) (st : Sq Int) (h12 : a.Mine.Places.n ≤ 12) : xV a s st = some (aS a s st false) := by
  rw [J6]; unfold uQ
  rw [get_bind (CR a s st h12)]
  by_cases c : dR a s st = 0
  · obtain ⟨rt, hl, _⟩ := nT c
    have ok := aW rt
    have np := ok.m.np
    have ln := hl.n
    obtain ⟨p, ep, hp⟩ := Mv ok.m h12
    rw [aD (by rw [c]; rfl), get_bind (aeZ st (by omega)), get_bind ep]
    rcases Rq rt hp 200 0 st (by omega) (by omega) hl with ⟨y, e1, _, e2⟩ | ⟨e1, ⟨y, e2⟩ | ⟨y, e2⟩⟩
    · rw [aI e2, d9 c e1]; exact (aI rfl).trans rfl
    · rw [aI e2, bX c e1]; rfl
    · rw [aI e2, bX c e1]; exact (aI rfl).trans rfl
  · rw [aA (by simp [c]), uK c]; rfl
theorem ajb (a : SAir) (s : au) (st : Sq Int) (h12 : a.Mine.Places.n ≤ 12) : CQ a s st = some (aS a s st true) := by
  rw [XB]; unfold Em
  rw [get_bind (aaD a s st h12)]; rfl
theorem agB (a : SAir) (s : au) (st : Sq Int) (h12 : a.Mine.Places.n ≤ 12) : zT a s st = some (aS a s st false) := by
  rw [XA]; unfold Ej
  rw [get_bind (XD a s st h12)]; rfl
theorem X8 (a : SAir) (s : au) (st : Sq Int) (h12 : a.Mine.Places.n ≤ 12) (h0 : 0 < a.Mine.Places.n) : Bc a s st = some (aS a s st true) := by
  rw [aci]; unfold Nw
  rw [get_bind (aeV a s st h12 h0)]; rfl
theorem ad7 (a : SAir) (s : au) (st : Sq Int) (h12 : a.Mine.Places.n ≤ 12) (h0 : 0 < a.Mine.Places.n) : H9 a s st = some (aS a s st false) := by
  rw [ach]; unfold Nv
  rw [get_bind (acs a s st h12 h0)]; rfl
theorem X9 (a : SAir) (s : au) (h12 : a.Mine.Places.n ≤ 12) (h0 : 0 < a.Mine.Places.n) : wJ a s = some (gZ a s) := by
  rw [aaz]; unfold J2 gZ
  rw [aA (decide_eq_true ⟨by omega, by omega, by omega, by omega⟩), aF]
  refine (get_bind (ad7 a s (xu a.Mine.Places.n) h12 h0)).trans ?_
  by_cases c1 : (aS a s (xu a.Mine.Places.n) false).2 = 0
  · rw [aD (by rw [c1]; rfl), if_neg (not_not_intro c1), get_bind (X8 a s _ h12 h0)]
    by_cases c2 : (aS a s (aS a s (xu a.Mine.Places.n) false).1 true).2 = 0
    · rw [aD (by rw [c2]; rfl), if_neg (not_not_intro c2), get_bind (ad7 a s _ h12 h0)]
      by_cases c3 : (aS a s (aS a s (aS a s (xu a.Mine.Places.n) false).1 true).1 false).2 = 0
      · rw [aD (by rw [c3]; rfl), if_neg (not_not_intro c3)]; rfl
      · rw [aA (by simp [c3]), if_pos c3]; rfl
    · rw [aA (by simp [c2]), if_pos c2]; rfl
  · rw [aA (by simp [c1]), if_pos c1]; rfl
end
end Go.Proofs.YtmfiagdelnddkaaGreat.Ab
