/- Stage 12: the document's Rise and Fall from a start that comes in. -/
import Derived.Test.YtmfiagdelnddkaaGreatXL
namespace Go.Proofs.YtmfiagdelnddkaaGreat.Ab
open Go
theorem adH {a : SAir} {s : au} (rt : aZ a s = true) (up : Bool) {t : Sq Bool} (tn : t.n = a.Mine.Places.n) (ht : ∀ v : Nat, v < a.Mine.Places.n → (t.f v = true ↔ Fx a v)) (n : Int) :
    ∀ m k ch l, k + m = a.Mine.Places.n → bQ a l → (∃ y, bL a s up m k ch l = some y ∧ bQ a y.2 ∧ jh up a.Mine.Places a.Mine.Roads a.Fans a.Doors s.Fans s.Doors t n l (k : Int) ch = some (.inl y)) ∨
      (bL a s up m k ch l = none ∧ ∃ y, jh up a.Mine.Places a.Mine.Roads a.Fans a.Doors s.Fans s.Doors t n l (k : Int) ch = some (.inr y)) := by
  have ok := aW rt
  have np := ok.m.np
  intro m
  induction m with
  | zero =>
    intro k ch l hk hl
    have ln := hl.n
    refine .inl ⟨(ch, l), rfl, hl, ?_⟩
    rw [pI]
    refine (bI (x := .l (ch, l)) ?_).trans rfl
    dsimp only
    unfold dG
    rw [aD (dge (by omega))]; rfl
  | succ m ih =>
    intro k ch l hk hl
    have ln := hl.n
    have nk : wr ((k : Int) + 1) = ((k + 1 : Nat) : Int) := aQ (by omega)
    have pr : PrOK a s l k := ⟨rt, hl, by omega, by omega⟩
    have nx : ∀ (ch' : Bool) (l' : Sq Int), (dG up a.Mine.Places a.Mine.Roads a.Fans a.Doors s.Fans s.Doors t n l (k : Int) ch).get = some (.next (l', ((k + 1 : Nat) : Int), ch')) →
        jh up a.Mine.Places a.Mine.Roads a.Fans a.Doors s.Fans s.Doors t n l (k : Int) ch = jh up a.Mine.Places a.Mine.Roads a.Fans a.Doors s.Fans s.Doors t n l' ((k + 1 : Nat) : Int) ch' := fun ch' l' e => by
      rw [pI, pI]
      exact bI (x := .next (l', ((k + 1 : Nat) : Int), ch')) e
    have hc : ∀ (r : Int × Bool), r.2 = true → (DT.ite (!r.2) (.leaf (.r (ch, l))) (.ite ch (.ite (decide ((0 : Int) ≤ (k : Int) ∧ (k : Int) < ((l.n : Nat) : Int))) (.leaf (.next ((Sq.mk l.n (fun j => (cond (Nat.beq j k) r.1 (l.f j)))), ((k + 1 : Nat) : Int), true))) .fail)
        (.ite (decide ((0 : Int) ≤ (k : Int) ∧ (k : Int) < ((l.n : Nat) : Int))) (.ite (decide ((0 : Int) ≤ (k : Int) ∧ (k : Int) < ((l.n : Nat) : Int))) (.leaf (.next ((Sq.mk l.n (fun j => (cond (Nat.beq j k) r.1 (l.f j)))), ((k + 1 : Nat) : Int), (r.1 != l.f k)))) .fail) .fail)) : DT (LR (Sq Int × Int × Bool) (Bool × Sq Int) (Bool × Sq Int))).get = some (.next (setS l k r.1, ((k + 1 : Nat) : Int), (ch || (r.1 != l.f k)))) := fun r e => by
      rw [e, aD (b := !true) rfl]
      cases ch with
      | true => rw [aA rfl, aA (dix (by omega))]; rfl
      | false => rw [aD rfl, aA (dix (by omega)), aA (dix (by omega))]; rfl
    have hd : ∀ (r : Int × Bool) (Z : DT (LR (Sq Int × Int × Bool) (Bool × Sq Int) (Bool × Sq Int))), ¬ r.2 = true → (DT.ite (!r.2) (.leaf (.r (ch, l))) Z).get = some (.r (ch, l)) := fun r Z e => by
      rw [aA (by simpa using e)]; rfl
    by_cases c : Fx a k
    · rw [pQ c, nx ch l (by
        unfold dG
        rw [aA (dlt (by omega)), aA (dix (by omega)), aF, aA ((ht k (by omega)).2 c), nk]; rfl)]
      exact ih (k + 1) ch l (by omega) hl
    · have tf : t.f k = false := by
        cases e : t.f k with
        | false => rfl
        | true => exact absurd ((ht k (by omega)).1 e) c
      by_cases c2 : (iQ a s up l k).2 = true
      · rw [qX c c2, nx (ch || ((iQ a s up l k).1 != l.f k)) (setS l k (iQ a s up l k).1) (by
          unfold dG
          rw [aA (dlt (by omega)), aA (dix (by omega)), aF, aD tf, nk]
          cases up with
          | true => rw [aA rfl]; exact (get_bind (tL pr).1).trans (hc _ c2)
          | false => rw [aD rfl]; exact (get_bind (mI pr).1).trans (hc _ c2))]
        have b := FJ pr up c2
        exact ih (k + 1) _ _ (by omega) (hl.set k b.1 b.2)
      · refine .inr ⟨wM c c2, (ch, l), ?_⟩
        rw [pI]
        refine (bI (x := .r (ch, l)) ?_).trans rfl
        dsimp only
        unfold dG
        rw [aA (dlt (by omega)), aA (dix (by omega)), aF, aD tf]
        cases up with
        | true => rw [aA rfl]; exact (get_bind (tL pr).1).trans (hd _ _ c2)
        | false => rw [aD rfl]; exact (get_bind (mI pr).1).trans (hd _ _ c2)
theorem aeQ {a : SAir} {s : au} (rt : aZ a s = true) (up : Bool) {t : Sq Bool} (tn : t.n = a.Mine.Places.n) (ht : ∀ v : Nat, v < a.Mine.Places.n → (t.f v = true ↔ Fx a v)) :
    ∀ (r : Nat) (n : Int) (l : Sq Int), n + (r : Int) = 200 → 0 ≤ n → bQ a l → (∃ y, bW a s up r l = some y ∧ bQ a y ∧ jT up a.Mine.Places a.Mine.Roads a.Fans a.Doors s.Fans s.Doors t l n = some (.inr (.inl y))) ∨
      (bW a s up r l = none ∧ ((∃ y, jT up a.Mine.Places a.Mine.Roads a.Fans a.Doors s.Fans s.Doors t l n = some (.inl y)) ∨ ∃ y, jT up a.Mine.Places a.Mine.Roads a.Fans a.Doors s.Fans s.Doors t l n = some (.inr (.inr y)))) := by
  intro r
  induction r with
  | zero =>
    intro n l hn h0 hl
    refine .inr ⟨rfl, .inl ⟨l, ?_⟩⟩
    rw [xU]
    refine (bI (x := .l l) ?_).trans rfl
    dsimp only
    unfold dZ
    rw [aD (decide_eq_false (by omega))]; rfl
  | succ r ih =>
    intro n l hn h0 hl
    have g := adH rt up tn ht n a.Mine.Places.n 0 false l (by omega) hl
    rw [show ((0 : Nat) : Int) = 0 from rfl] at g
    have stp : ∀ x, (dZ up a.Mine.Places a.Mine.Roads a.Fans a.Doors s.Fans s.Doors t l n).get = some x → jT up a.Mine.Places a.Mine.Roads a.Fans a.Doors s.Fans s.Doors t l n = LR.elim (fixO fun v : Sq Int × Int => dZ up a.Mine.Places a.Mine.Roads a.Fans a.Doors s.Fans s.Doors t v.1 v.2) (fun a => some (.inl a)) (fun b => some (.inr b)) x := fun x e => by
      rw [xU]
      exact bI e
    have un : ∀ {x}, (DT.sum (jh up a.Mine.Places a.Mine.Roads a.Fans a.Doors s.Fans s.Doors t n l (0 : Int) false) (fun y0 => .ite (!y0.1) (.leaf (.r (Sum.inl (y0.2)))) (.leaf (.next (y0.2, (wr (n + (1 : Int))))))) (fun y1 => .leaf (.r (Sum.inr (y1.2)))) : DT (LR ((Sq Int) × Int) ((Sq Int)) (((Sq Int)) ⊕ ((Sq Int))))).get = some x → (dZ up a.Mine.Places a.Mine.Roads a.Fans a.Doors s.Fans s.Doors t l n).get = some x := fun {x} e => by
      unfold dZ
      rw [aA (decide_eq_true (by omega))]; exact e
    rcases g with ⟨⟨c, y⟩, e1, p, e2⟩ | ⟨e1, y, e2⟩
    · cases c with
      | true =>
        have e : bW a s up (r + 1) l = bW a s up r y := by
          show (bL a s up a.Mine.Places.n 0 false l).bind _ = _
          rw [e1]; rfl
        have e' := stp (.next (y, n + 1)) (un (by
          rw [aI e2, aO (x := n + 1) (by omega) (by omega)]; rfl))
        have e'' := e'.trans (show _ = jT up a.Mine.Places a.Mine.Roads a.Fans a.Doors s.Fans s.Doors t y (n + 1) from (xU ..).symm)
        rw [e, e'']
        exact ih (n + 1) y (by omega) (by omega) p
      | false =>
        refine .inl ⟨y, ?_, p, ?_⟩
        · show (bL a s up a.Mine.Places.n 0 false l).bind _ = _
          rw [e1]; rfl
        · exact (stp (.r (.inl y)) (un (by rw [aI e2]; rfl))).trans rfl
    · refine .inr ⟨?_, .inr ⟨y.2, ?_⟩⟩
      · show (bL a s up a.Mine.Places.n 0 false l).bind _ = _
        rw [e1]; rfl
      · exact (stp (.r (.inr y.2)) (un (by rw [aI e2]; rfl))).trans rfl
theorem KO (a : SAir) (s : au) (st : Sq Int) (up : Bool) : Bp a s st up = some (aS a s st up) := by
  rw [Vv]; unfold BU
  rw [get_bind (TJ a s st)]
  by_cases c : dR a s st = 0
  · obtain ⟨rt, hl, _⟩ := nT c
    have ok := aW rt
    have np := ok.m.np
    have ln := hl.n
    obtain ⟨t, et, tn, ht⟩ := abh ok.m
    rw [aD (by rw [c]; rfl), aA (decide_eq_true ⟨by omega, by omega⟩), get_bind et]
    rcases aeQ rt up tn ht 200 0 st (by omega) (by omega) hl with ⟨y, e1, _, e2⟩ | ⟨e1, ⟨y, e2⟩ | ⟨y, e2⟩⟩
    · rw [aI e2, d9 c e1]; rfl
    · rw [aI e2, bX c e1]; rfl
    · rw [aI e2, bX c e1]; rfl
  · rw [aA (by simp [c]), uK c]; rfl
theorem Np (a : SAir) (s : au) (st : Sq Int) : CP a s st = some (aS a s st true) := by
  rw [Xz]; unfold Ef
  rw [get_bind (KO a s st true)]; rfl
theorem Ee (a : SAir) (s : au) (st : Sq Int) : zS a s st = some (aS a s st false) := by
  rw [Xx]; unfold Ec
  rw [get_bind (KO a s st false)]; rfl
end Go.Proofs.YtmfiagdelnddkaaGreat.Ab
