/- Stage 12: the program's least and greatest pressure of a place. -/
import Derived.Test.YtmfiagdelnddkaaGreatXDu
import Derived.Test.YtmfiagdelnddkaaGreatXkg
namespace Go.Proofs.YtmfiagdelnddkaaGreat.Ab
open Go
theorem akM {i j : Int} (h0 : 0 ≤ i) (h1 : j ≤ 1000000000000000) (h : i < j) : wr ((IntKind.u64.wrap (wr (i + j))) / 2 ^ (Int.toNat (1 : Int))) = (i + j) / 2 := by
  rw [aO (x := i + j) (by omega) (by omega)]
  have e : IntKind.u64.wrap (i + j) = i + j := by rw [IntKind.wrap_u64]; omega
  rw [e]
  show wr ((i + j) / 2) = _
  exact aO (by omega) (by omega)
theorem afv (Q : Int → Prop) (N : Int) (hN : 0 ≤ N) (hN2 : N ≤ 1000000000000000) {step : Int × Int → DT (LR (Int × Int) Int Unit)} (hQ : ∀ x y, 0 ≤ x → x ≤ y → y < N → Q x → Q y)
    (hs : ∀ i j, 0 ≤ i → j ≤ N → i < j → (Q ((i + j) / 2) ∧ (step (j, i)).get = some (.next ((i + j) / 2, i))) ∨ (¬ Q ((i + j) / 2) ∧ (step (j, i)).get = some (.next (j, (i + j) / 2 + 1))))
    (hl : ∀ i, (step (i, i)).get = some (.l i)) : ∃ z, fixO step (N, 0) = some (.inl z) ∧ 0 ≤ z ∧ z ≤ N ∧ (∀ x, 0 ≤ x → x < z → ¬ Q x) ∧ (z < N → Q z) := by
  have key := bH (step := step) (fun v => 0 ≤ v.2 ∧ v.2 ≤ v.1 ∧ v.1 ≤ N ∧ (∀ x, 0 ≤ x → x < v.2 → ¬ Q x) ∧ (v.1 < N → Q v.1)) (fun v => (v.1 - v.2).toNat)
    (fun z => ∃ y, z = .inl y ∧ 0 ≤ y ∧ y ≤ N ∧ (∀ x, 0 ≤ x → x < y → ¬ Q x) ∧ (y < N → Q y)) (fun v hv => by
      obtain ⟨j, i⟩ := v
      obtain ⟨h1, h2, h3, h4, h5⟩ := hv
      dsimp only at h1 h2 h3 h4 h5
      by_cases c : i < j
      · rcases hs i j h1 h3 c with ⟨q, e⟩ | ⟨q, e⟩
        · exact ⟨_, e, ⟨h1, by dsimp only; omega, by dsimp only; omega, h4, fun _ => q⟩, by dsimp only; omega⟩
        · refine ⟨_, e, ⟨by dsimp only; omega, by dsimp only; omega, h3, fun x a b hx => ?_, h5⟩, by dsimp only; omega⟩
          dsimp only at b
          exact q (hQ _ _ a (by omega) (by omega) hx)
      · obtain rfl : i = j := by omega
        exact ⟨_, hl i, i, rfl, h1, h3, h4, h5⟩)
    (N, 0) ⟨Int.le_refl _, hN, Int.le_refl _, fun x a b => by dsimp only at b; omega, fun h => absurd h (Int.lt_irrefl _)⟩
  obtain ⟨z, hz, y, rfl, g⟩ := key
  exact ⟨y, hz, g⟩
theorem acR {a : SAir} {s : au} {P : Sq Int} {pl : Int} {l : Sq Int} {J : aU} (hJ : JnOf a s P pl l J) (ok : RtOK a s) (hP : bQ a P) {own : Int} (o0 : -70368744177664 ≤ own) (o1 : own ≤ 70368744177664) :
    ∃ z, GJ ((70368744177664 - own) + 1) own 1 J = some z ∧ 0 ≤ z ∧ z ≤ (70368744177664 - own) + 1 ∧ (∀ x, 0 ≤ x → x < z → ¬ NL a s P pl ((own + x)) ≥ 0) ∧ (z < (70368744177664 - own) + 1 → NL a s P pl ((own + z)) ≥ 0) := by
  obtain ⟨z, e, h⟩ := afv (fun x => NL a s P pl ((own + x)) ≥ 0) ((70368744177664 - own) + 1) (by omega) (by omega) (step := fun v => jL own 1 J.air_.Mine.Places J.pressures_ J.place_ J.air_.Mine.Roads J.air_.Fans J.air_.Doors J.setting_.Fans J.setting_.Doors v.1 v.2)
    (fun x y h0 hxy hy hx => by
      have := (VU ok P pl (show own + x ≤ own + y by omega)).1
      omega)
    (fun i j h0 h1 hlt => by
      have f1 : xI ((i + j) / 2) own 1 J = some (decide (NL a s P pl ((own + ((i + j) / 2))) ≥ 0)) := by
        rw [IE]; unfold uO
        rw [aO (x := (i + j) / 2 * 1) (by omega) (by omega), show own + (i + j) / 2 * 1 = (own + ((i + j) / 2)) by omega, aO (by omega) (by omega), get_bind (aj1 hJ ok hP (by omega) (by omega)),
          get_bind (by rw [RJ]; unfold Al; rfl)]
        rfl
      dsimp only
      unfold jL
      rw [akM h0 (by omega) hlt, aA (decide_eq_true hlt), get_bind f1]
      by_cases c : NL a s P pl ((own + ((i + j) / 2))) ≥ 0
      · rw [aD (by simp [c])]; exact .inl ⟨c, rfl⟩
      · rw [aA (by simp only [decide_eq_false c, Bool.not_false]), aO (x := (i + j) / 2 + 1) (by omega) (by omega)]; exact .inr ⟨c, rfl⟩)
    (fun i => by
      dsimp only
      unfold jL
      rw [aD (decide_eq_false (Int.lt_irrefl _))]; rfl)
  refine ⟨z, ?_, h⟩
  rw [VL]; unfold Ci
  rw [aI (by rw [Pk]; exact e)]; rfl
theorem Ww {a : SAir} {s : au} {P : Sq Int} {pl : Int} (h : PrOK a s P pl) : ∃ r, Iw a s P pl = some r ∧ Kv (NL a s P pl) (P.f pl.toNat) r := by
  have ok := aW h.rt
  have p0 := h.p0
  have p1 := h.p1
  have b := h.Pp.f pl.toNat (by omega)
  obtain ⟨l, J, eJ, hJ⟩ := Jb h.rt P pl
  obtain ⟨z, ez, z0, z1, z2, z3⟩ := acR hJ ok h.Pp b.1 b.2
  rcases abU a s P pl with ⟨_, e⟩ | ⟨n, _⟩
  · have key : ∃ r, zD a s P pl 1 = some r ∧ Kv (NL a s P pl) (P.f pl.toNat) r := by
      rw [LK]; unfold xJ
      rw [aO (x := 1 * P.f pl.toNat) (by omega) (by omega), show (70368744177664 : Int) - 1 * P.f pl.toNat = (70368744177664 - (P.f pl.toNat)) by omega, aO (x := (70368744177664 - (P.f pl.toNat))) (by omega) (by omega), aO (x := (70368744177664 - (P.f pl.toNat)) + 1) (by omega) (by omega), get_bind e, aD (b := !true) rfl, get_bind eJ, aA (decide_eq_true ⟨p0, p1⟩), get_bind ez]
      by_cases c : z > (70368744177664 - (P.f pl.toNat))
      · rw [aA (decide_eq_true c)]
        refine ⟨_, rfl, .inr ⟨rfl, fun x a1 a2 => ?_⟩⟩
        have := z2 ((x - (P.f pl.toNat))) (by omega) (by omega)
        rw [show ((P.f pl.toNat) + ((x - (P.f pl.toNat)))) = x by omega] at this
        omega
      · rw [aD (decide_eq_false c), aO (x := z * 1) (by omega) (by omega), aO (by omega) (by omega)]
        refine ⟨_, rfl, .inl ⟨rfl, by dsimp only; omega, by dsimp only; omega, ?_, fun x a1 a2 => ?_⟩⟩
        · have := z3 (by omega)
          dsimp only
          rw [show P.f pl.toNat + z * 1 = ((P.f pl.toNat) + z) by omega]
          exact this
        · dsimp only at a2
          have := z2 ((x - (P.f pl.toNat))) (by omega) (by omega)
          rw [show ((P.f pl.toNat) + ((x - (P.f pl.toNat)))) = x by omega] at this
          omega
    obtain ⟨r, er, hr⟩ := key
    rw [Wv]; unfold Di
    rw [get_bind er]
    exact ⟨_, rfl, hr⟩
  · exact absurd h n
theorem acQ {a : SAir} {s : au} {P : Sq Int} {pl : Int} {l : Sq Int} {J : aU} (hJ : JnOf a s P pl l J) (ok : RtOK a s) (hP : bQ a P) {own : Int} (o0 : -70368744177664 ≤ own) (o1 : own ≤ 70368744177664) :
    ∃ z, GI ((own - -70368744177664) + 1) own (-1) J = some z ∧ 0 ≤ z ∧ z ≤ (own - -70368744177664) + 1 ∧ (∀ x, 0 ≤ x → x < z → ¬ NH a s P pl ((own - x)) ≤ 0) ∧ (z < (own - -70368744177664) + 1 → NH a s P pl ((own - z)) ≤ 0) := by
  obtain ⟨z, e, h⟩ := afv (fun x => NH a s P pl ((own - x)) ≤ 0) ((own - -70368744177664) + 1) (by omega) (by omega) (step := fun v => jK own (-1) J.air_.Mine.Places J.pressures_ J.place_ J.air_.Mine.Roads J.air_.Fans J.air_.Doors J.setting_.Fans J.setting_.Doors v.1 v.2)
    (fun x y h0 hxy hy hx => by
      have := (VU ok P pl (show own - y ≤ own - x by omega)).2
      omega)
    (fun i j h0 h1 hlt => by
      have f1 : Am ((i + j) / 2) own (-1) J = some (decide (NH a s P pl ((own - ((i + j) / 2))) ≤ 0)) := by
        rw [Oy]; unfold yN
        rw [aO (x := (i + j) / 2 * (-1)) (by omega) (by omega), show own + (i + j) / 2 * (-1) = (own - ((i + j) / 2)) by omega, aO (by omega) (by omega), get_bind (aj1 hJ ok hP (by omega) (by omega)),
          get_bind (by rw [LB]; unfold xE; rfl)]
        rfl
      dsimp only
      unfold jK
      rw [akM h0 (by omega) hlt, aA (decide_eq_true hlt), get_bind f1]
      by_cases c : NH a s P pl ((own - ((i + j) / 2))) ≤ 0
      · rw [aD (by simp [c])]; exact .inl ⟨c, rfl⟩
      · rw [aA (by simp only [decide_eq_false c, Bool.not_false]), aO (x := (i + j) / 2 + 1) (by omega) (by omega)]; exact .inr ⟨c, rfl⟩)
    (fun i => by
      dsimp only
      unfold jK
      rw [aD (decide_eq_false (Int.lt_irrefl _))]; rfl)
  refine ⟨z, ?_, h⟩
  rw [VK]; unfold Ch
  rw [aI (by rw [Ph]; exact e)]; rfl
theorem Qp {a : SAir} {s : au} {P : Sq Int} {pl : Int} (h : PrOK a s P pl) : ∃ r, BF a s P pl = some r ∧ tV (NH a s P pl) (P.f pl.toNat) r := by
  have ok := aW h.rt
  have p0 := h.p0
  have p1 := h.p1
  have b := h.Pp.f pl.toNat (by omega)
  obtain ⟨l, J, eJ, hJ⟩ := Jb h.rt P pl
  obtain ⟨z, ez, z0, z1, z2, z3⟩ := acQ hJ ok h.Pp b.1 b.2
  rcases abU a s P pl with ⟨_, e⟩ | ⟨n, _⟩
  · have key : ∃ r, Dm a s P pl (-1) = some r ∧ tV (NH a s P pl) (P.f pl.toNat) r := by
      rw [RL]; unfold Ao
      rw [aO (x := (-1) * P.f pl.toNat) (by omega) (by omega), show (70368744177664 : Int) - (-1) * P.f pl.toNat = ((P.f pl.toNat) - -70368744177664) by omega, aO (x := ((P.f pl.toNat) - -70368744177664)) (by omega) (by omega), aO (x := ((P.f pl.toNat) - -70368744177664) + 1) (by omega) (by omega), get_bind e, aD (b := !true) rfl, get_bind eJ, aA (decide_eq_true ⟨p0, p1⟩), get_bind ez]
      by_cases c : z > ((P.f pl.toNat) - -70368744177664)
      · rw [aA (decide_eq_true c)]
        refine ⟨_, rfl, .inr ⟨rfl, fun x a1 a2 => ?_⟩⟩
        have := z2 (((P.f pl.toNat) - x)) (by omega) (by omega)
        rw [show ((P.f pl.toNat) - (((P.f pl.toNat) - x))) = x by omega] at this
        omega
      · rw [aD (decide_eq_false c), aO (x := z * (-1)) (by omega) (by omega), aO (by omega) (by omega)]
        refine ⟨_, rfl, .inl ⟨rfl, by dsimp only; omega, by dsimp only; omega, ?_, fun x a1 a2 => ?_⟩⟩
        · have := z3 (by omega)
          dsimp only
          rw [show P.f pl.toNat + z * (-1) = ((P.f pl.toNat) - z) by omega]
          exact this
        · dsimp only at a2
          have := z2 (((P.f pl.toNat) - x)) (by omega) (by omega)
          rw [show ((P.f pl.toNat) - (((P.f pl.toNat) - x))) = x by omega] at this
          omega
    obtain ⟨r, er, hr⟩ := key
    rw [Qo]; unfold zC
    rw [get_bind er]
    exact ⟨_, rfl, hr⟩
  · exact absurd h n
end Go.Proofs.YtmfiagdelnddkaaGreat.Ab
