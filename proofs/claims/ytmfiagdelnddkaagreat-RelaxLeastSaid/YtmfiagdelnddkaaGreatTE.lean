/- Stage 12: starts that are drawn, lists that are the same, the sanity check. -/
import Derived.Test.YtmfiagdelnddkaaGreatTD
import Derived.Test.YtmfiagdelnddkaaGreatTQ
import Derived.Test.YtmfiagdelnddkaaGreatXz
import Derived.Test.YtmfiagdelnddkaaGreatXkw
import Derived.Test.YtmfiagdelnddkaaGreatXkv
import Derived.Test.YtmfiagdelnddkaaGreatXu
namespace Go.Proofs.YtmfiagdelnddkaaGreat.Ab
open Go
theorem Lx {k l : Sq Int} (hn : k.n ≤ 1000) (h : k.n = l.n) (hf : ∀ j, j < k.n → k.f j = l.f j) : fJ k l = some true := by
  rw [abY]; unfold MQ
  have e : Jv k l 0 = some (.inl ()) := by
    rw [Xm]
    refine (aX (step := fun v => oQ k l v) (n := k.n) (fun _ => none) (fun i hi => ?_) ?_ k.n 0 (Nat.zero_add _)).trans ?_
    · unfold oQ
      rw [aA (dlt hi), aA (dix hi), aA (dix (by omega)), aF, hf i hi, aD (by simp), aQ (by omega)]; rfl
    · unfold oQ
      rw [aD (dge (Nat.le_refl _))]; rfl
    · rw [dx fun _ _ _ => rfl]
  rw [aD (by rw [h]; simp), aI e]; rfl
theorem Lv {k : Sq Int} (hn : k.n ≤ 1000) : fJ k k = some true := Lx hn rfl fun _ _ => rfl
theorem afr (a : SAir) (s : au) (st : Sq Int) (up : Bool) : (aS a s st up).1.n ≤ 64 := by
  by_cases c : dR a s st = 0
  · rcases zf (s := s) (up := up) c with h | h
    · have p := Vx h
      have := (aW (nT c).1).m.np
      rw [p.n]; exact this
    · rw [h]; show 0 ≤ 64; omega
  · rw [uK c]; show 0 ≤ 64; omega
theorem aiX {a : SAir} {s : au} (rt : aZ a s = true) : (gZ a s).1.Low.n ≤ 64 ∧ (gZ a s).1.High.n ≤ 64 := by
  have np := (aW rt).m.np
  rcases Zm rt with h | h
  · have b := adS h
    rw [b.l.n, b.h.n]; exact ⟨np, np⟩
  · rw [h]; exact ⟨by show 0 ≤ 64; omega, by show 0 ≤ 64; omega⟩
theorem MdD.lens {a : SAir} {s : au} {x : dN} (h : MdD a s x) : x.Pressures.n = a.Mine.Places.n ∧ x.Flows.n = a.Mine.Roads.n := by
  obtain ⟨sh, s0, _, _, _, hp, hq, _⟩ := h.e
  exact ⟨hp.nn, hq.qn⟩
theorem MdD.n1 {a : SAir} {s : au} {x : dN} (h : MdD a s x) : 1 ≤ a.Mine.Places.n := by
  obtain ⟨sh, s0, h1, _, hP, _⟩ := h.e
  have := hP.n
  omega
structure StD (a : SAir) (l : Sq Int) : Prop where
  n : l.n = a.Mine.Places.n
  f : ∀ k, k < a.Mine.Places.n → -10000 ≤ l.f k ∧ l.f k ≤ 10000
  z : ∀ k, k < a.Mine.Places.n → Fx a k → l.f k = 0
theorem StD.prs {a : SAir} {l : Sq Int} (h : StD a l) : bQ a l := ⟨h.n, fun k hk => by have := h.f k (by rw [← h.n]; exact hk); omega⟩
theorem StD.start {a : SAir} {s : au} {l : Sq Int} (h : StD a l) (rt : aZ a s = true) : dR a s l = 0 := wU rt h.prs h.z
theorem acy {c : aJ} (hc : CdOK c) {a : SAir} {s : au} {x : dN} (md : MdD a s x) : ∃ l i, DK c a x = some (l, i) ∧ 0 ≤ i ∧ i ≤ 300 ∧ StD a l := by
  have ok := aW md.right
  have np := ok.m.np
  obtain ⟨pn, _⟩ := md.lens
  have px : ∀ k, k < a.Mine.Places.n → -4000 ≤ x.Pressures.f k ∧ x.Pressures.f k ≤ 4000 := by
    obtain ⟨sh, s0, _, _, _, hp, _⟩ := md.e
    exact hp.f
  obtain ⟨t, et, tn, ht⟩ := aa7 ok.m
  have key := bH (step := fun v : Int × Sq Int × Int => sK a.Mine.Places c.l_ t v.1 v.2.1 v.2.2)
    (fun v => ∃ k : Nat, v.2.2 = k ∧ k ≤ a.Mine.Places.n ∧ 0 ≤ v.1 ∧ v.1 ≤ 300 ∧ v.2.1.n = a.Mine.Places.n ∧ (∀ j, j < a.Mine.Places.n → -10000 ≤ v.2.1.f j ∧ v.2.1.f j ≤ 10000) ∧ (∀ j, j < k → Fx a j → v.2.1.f j = 0) ∧ ∀ j, k ≤ j → v.2.1.f j = x.Pressures.f j) (fun v => a.Mine.Places.n - v.2.2.toNat)
    (fun z => ∃ y, z = .inl y ∧ 0 ≤ y.1 ∧ y.1 ≤ 300 ∧ StD a y.2) (fun v hv => by
      obtain ⟨b, l, i⟩ := v
      obtain ⟨k, h1, hk, h2, h3, h4, h5, h6, h7⟩ := hv
      dsimp only at h1 h2 h3 h4 h5 h6 h7 ⊢
      subst h1
      unfold sK
      rcases Nat.lt_or_ge k a.Mine.Places.n with hi | hi
      · have own := h7 k (Nat.le_refl _)
        have po := px k hi
        have nx : ∀ v : Int, -10000 ≤ v → v ≤ 10000 → (Fx a k → v = 0) → (∀ j, j < a.Mine.Places.n → -10000 ≤ cond (Nat.beq j k) v (l.f j) ∧ cond (Nat.beq j k) v (l.f j) ≤ 10000) ∧ (∀ j, j < k + 1 → Fx a j → cond (Nat.beq j k) v (l.f j) = 0) ∧ ∀ j, k + 1 ≤ j → cond (Nat.beq j k) v (l.f j) = x.Pressures.f j := fun v v0 v1 vz => by
          refine ⟨fun j hj => ?_, fun j hj fj => ?_, fun j hj => ?_⟩
          · by_cases c : j = k
            · rw [Ar c]; exact ⟨v0, v1⟩
            · rw [Aq c]; exact h5 j hj
          · by_cases c : j = k
            · rw [Ar c]; exact vz (c ▸ fj)
            · rw [Aq c]; exact h6 j (by omega) fj
          · rw [Aq (by omega)]; exact h7 j (by omega)
        rw [aA (dlt hi), aA (dix hi), aF, aQ (by omega)]
        cases hs : (a.Mine.Places.f k).Surface with
        | true =>
          rw [aA rfl, aA (dix (by omega))]
          exact ⟨_, rfl, ⟨k + 1, rfl, hi, h2, h3, h4, nx 0 (by omega) (by omega) fun _ => rfl⟩, by dsimp only; omega⟩
        | false =>
          rw [aD rfl, aA (dix (by omega))]
          cases tk : t.f k with
          | false =>
            rw [aA (b := !false) rfl, aA (dix (by omega))]
            exact ⟨_, rfl, ⟨k + 1, rfl, hi, h2, h3, h4, nx 0 (by omega) (by omega) fun _ => rfl⟩, by dsimp only; omega⟩
          | true =>
            have nf : ¬ Fx a k := fun q => q.elim (fun e => by rw [hs] at e; cases e) fun n => n ((ht k hi).1 tk)
            obtain ⟨w, b1, e1, l1, u1, p1, q1⟩ := dU (hc.at h2 h3) (-6000) 6000 (by omega) (by omega) (by omega)
            have ev : wr (l.f k + w) = l.f k + w := aO (by omega) (by omega)
            rw [aD (b := !true) rfl, aA (dix (by omega)), get_bind e1, aA (dix (by omega))]
            dsimp only
            rw [ev]
            exact ⟨_, rfl, ⟨k + 1, rfl, hi, l1, u1, h4, nx _ (by omega) (by omega) fun q => absurd q nf⟩, by dsimp only; omega⟩
      · obtain rfl : k = a.Mine.Places.n := by omega
        rw [aD (dge (by omega))]
        exact ⟨_, rfl, _, rfl, h2, h3, h4, h5, h6⟩)
    (c.at_, x.Pressures, 0) ⟨0, rfl, Nat.zero_le _, hc.a0, hc.a1, pn, fun j hj => by have := px j hj; dsimp only; omega, fun j hj => absurd hj (Nat.not_lt_zero _), fun _ _ => rfl⟩
  obtain ⟨z, hz, y, rfl, g1, g2, g3⟩ := key
  rw [ZW]; unfold Jj
  rw [aA (decide_eq_true ⟨by omega, by omega⟩), get_bind et, aI (by rw [UW]; exact hz)]
  exact ⟨_, _, rfl, g1, g2, g3⟩
theorem jm : fB = some true := by
  have e : wJ A0 S0 = some (⟨L0 100, L0 100⟩, 0) := by rw [X9 _ _ (by decide) (by decide), ah8]
  have es : fJ (L0 100) ⟨2, fun k => cond (Nat.beq k 0) (0 : Int) 100⟩ = some true := Lx (by decide) rfl fun j hj => by
    have hj : j < 2 := hj
    rcases (show j = 0 ∨ j = 1 by omega) with q | q
    · subst q; exact L0_f 100 (by omega)
    · subst q; exact L0_1 100
  rw [ZV]; unfold Ji
  refine (get_bind e).trans ?_
  dsimp only
  rw [aA (show ((0 : Int) == 0) = true from rfl), get_bind es, aA rfl, get_bind es]; rfl
end Go.Proofs.YtmfiagdelnddkaaGreat.Ab
