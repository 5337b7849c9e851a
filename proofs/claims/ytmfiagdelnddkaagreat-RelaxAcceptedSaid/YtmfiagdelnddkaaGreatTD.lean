/- Stage 12: what Solve finds in the mine of the sanity check. -/
import Derived.Test.YtmfiagdelnddkaaGreatTA
import Derived.Test.YtmfiagdelnddkaaGreatXY
namespace Go.Proofs.YtmfiagdelnddkaaGreat.Ab
open Go
theorem tV.own {f : Int → Int} {own : Int} {r : Int × Bool} (h : tV f own r) (o : -70368744177664 ≤ own) (z : f own ≤ 0) : r = (own, true) :=
  h.uniq (.inl ⟨rfl, Int.le_refl _, o, z, fun x a1 a2 => by dsimp only at a2; omega⟩)
theorem akp : Fx A0 0 := .inl rfl
theorem akq : ¬ Fx A0 1 := fun q => q.elim (fun e => by cases e) fun n => n ah7
def L0 (z : Int) : Sq Int := setS (xu 2) 1 z
theorem L0_f (z : Int) {k : Nat} (h : k ≠ 1) : (L0 z).f k = 0 := om _ _ h
theorem L0_1 (z : Int) : (L0 z).f 1 = z := CU _ _ _
theorem L0_n (z : Int) : (L0 z).n = 2 := rfl
theorem aja (z : Int) (h0 : -1000 ≤ z) (h1 : z ≤ 1000) : bQ A0 (L0 z) := ⟨rfl, fun k _ => by
  by_cases c : k = 1
  · rw [c, L0_1]; omega
  · rw [L0_f z c]; omega⟩
theorem ajs (z : Int) (h0 : -1000 ≤ z) (h1 : z ≤ 1000) : PrOK A0 S0 (L0 z) ((1 : Nat) : Int) := ⟨Cu, aja z h0 h1, by decide, by rw [L0_n]; omega⟩
theorem L0_N (z p : Int) : NL A0 S0 (L0 z) ((1 : Nat) : Int) p = flL A0 S0 0 p ∧ NH A0 S0 (L0 z) ((1 : Nat) : Int) p = flH A0 S0 0 p := by
  have e := ajx (aW Cu) (P := L0 z) (P' := H0 0) ((1 : Nat) : Int) p fun k hk => by
    rw [L0_f z (by omega)]
    show (0 : Int) = cond (Nat.beq k 0) 0 0
    cases Nat.beq k 0 <;> rfl
  exact ⟨e.1.trans (ajm 0 p), e.2.trans (ako 0 p)⟩
theorem ak7 : flH A0 S0 0 0 = -10 := ai8 (by omega) (by omega) (by rw [Lg]; decide) (by rw [Lg]; decide)
theorem agD {z : Int} (h0 : -1000 ≤ z) (h1 : z ≤ 1000) (h : flH A0 S0 0 z ≤ 0) : iQ A0 S0 false (L0 z) 1 = ((L0 z).f 1, true) := by
  have c := (mI (ajs z h0 h1)).2
  refine c.own (by rw [L0_1]; omega) ?_
  rw [(L0_N z _).2, L0_1]; exact h
theorem ajt : iQ A0 S0 true (L0 100) 1 = ((L0 100).f 1, true) := by
  have c := (tL (ajs 100 (by omega) (by omega))).2
  refine c.own (by rw [L0_1]; omega) ?_
  rw [(L0_N 100 _).1, L0_1, aa3]; omega
theorem aku : iQ A0 S0 true (L0 0) 1 = (100, true) := by
  have c := (tL (ajs 0 (by omega) (by omega))).2
  refine c.uniq (.inl ⟨rfl, by rw [L0_1]; decide, by decide, ?_, fun x a1 a2 => ?_⟩)
  · show NL A0 S0 (L0 0) ((1 : Nat) : Int) 100 ≥ 0
    rw [(L0_N 0 100).1, aa3]; decide
  · rw [(L0_N 0 x).1]
    have m := (YE (aW Cu) (i := 0) (by decide) (p := x) (p' := 99) (by dsimp only at a2; omega)).1
    rw [ai7] at m
    omega
theorem agE : xu 2 = L0 0 := by
  have := TT (xu 2) 1
  exact this.symm
theorem aa5 {up : Bool} {z : Int} (h : iQ A0 S0 up (L0 z) 1 = ((L0 z).f 1, true)) (r : Nat) : bW A0 S0 up (r + 1) (L0 z) = some (L0 z) := by
  refine Wd r fun j hj nf => ?_
  have hj : j < 2 := hj
  rcases (show j = 0 ∨ j = 1 by omega) with q | q
  · subst q; exact absurd akp nf
  · subst q; exact h
theorem aa4 (z : Int) (h0 : -1000 ≤ z) (h1 : z ≤ 1000) : dR A0 S0 (L0 z) = 0 := wU Cu (aja z h0 h1) fun i hi fi => by
  have hi : i < 2 := hi
  by_cases c : i = 1
  · subst c; exact absurd fi akq
  · exact L0_f z c
theorem ak8 : aS A0 S0 (L0 0) false = (L0 0, 0) :=
  d9 (aa4 0 (by omega) (by omega)) (show bW A0 S0 false (199 + 1) (L0 0) = _ from aa5 (agD (by omega) (by omega) (by rw [ak7]; omega)) 199)
theorem ala : aS A0 S0 (L0 100) false = (L0 100, 0) :=
  d9 (aa4 100 (by omega) (by omega)) (show bW A0 S0 false (199 + 1) (L0 100) = _ from aa5 (agD (by omega) (by omega) (by rw [ad3]; omega)) 199)
theorem A0_r : bL A0 S0 true 2 0 false (L0 0) = some (true, L0 100) := by
  rw [pQ akp, qX akq (by rw [aku]), aku]
  dsimp only
  rw [L0_1]
  have : setS (L0 0) 1 100 = L0 100 := by
    rw [← agE]; rfl
  rw [this]; rfl
theorem ahH {a : SAir} {s : au} {up : Bool} {r : Nat} {l l' : Sq Int} (e : bL a s up a.Mine.Places.n 0 false l = some (true, l')) : bW a s up (r + 1) l = bW a s up r l' := by
  show (bL a s up a.Mine.Places.n 0 false l).bind _ = _
  rw [e]; rfl
theorem ak9 : aS A0 S0 (L0 0) true = (L0 100, 0) :=
  d9 (aa4 0 (by omega) (by omega)) (show bW A0 S0 true (199 + 1) (L0 0) = _ from (ahH A0_r).trans (show bW A0 S0 true (198 + 1) (L0 100) = _ from aa5 ajt 198))
theorem A0_z : aS A0 S0 (xu A0.Mine.Places.n) false = (L0 0, 0) := by
  have h : xu A0.Mine.Places.n = L0 0 := agE
  rw [h]; exact ak8
theorem ah8 : gZ A0 S0 = (⟨L0 100, L0 100⟩, 0) := by
  have z : ¬ ((0 : Int) ≠ 0) := fun q => q rfl
  unfold gZ
  simp only [A0_z, ak9, ala, if_neg z]
end Go.Proofs.YtmfiagdelnddkaaGreat.Ab
