/- Stage 11: the sanity check. -/
import Derived.Test.YtmfiagdelnddkaaGreatXJ
import Derived.Test.YtmfiagdelnddkaaGreatXC
namespace Go.Proofs.YtmfiagdelnddkaaGreat.Ab
open Go
def S0 : au := ⟨⟨0, fun _ => 0⟩, ⟨0, fun _ => 0⟩⟩
def F0 : Sq SFan := ⟨0, fun _ => ⟨0, false, false, ⟨0, fun _ => ⟨0, 0⟩⟩⟩⟩
def D0 : Sq aC := ⟨0, fun _ => ⟨0, 0, ⟨0, fun _ => 0⟩⟩⟩
def A0 : SAir := ⟨⟨⟨2, fun k => ⟨cond (Nat.beq k 0) 0 0, cond (Nat.beq k 0) true false⟩⟩, ⟨1, fun _ => ⟨1, 0, 1, 1, false, false, ⟨1, 1⟩, ⟨-100, -100⟩⟩⟩⟩, F0, D0⟩
theorem ajn : uV A0.Mine := by
  refine ⟨by show 2 ≤ 64; omega, by show 1 ≤ 128; omega, fun i _ => ?_, fun i _ => ?_⟩
  · show -10000 ≤ cond (Nat.beq i 0) (0 : Int) 0 ∧ cond (Nat.beq i 0) (0 : Int) 0 ≤ 10000
    cases Nat.beq i 0 <;> exact ⟨by decide, by decide⟩
  · show Et ⟨1, 0, 1, 1, false, false, ⟨1, 1⟩, ⟨-100, -100⟩⟩ ((2 : Nat) : Int) = 0
    decide
theorem Cu : aZ A0 S0 = true := by
  unfold aZ
  rw [if_pos]
  refine ⟨?_, rfl, rfl, rfl, rfl⟩
  unfold airE
  rw [(Jl _).2 ajn, if_neg (by omega)]
  have e1 : Mi A0.Fans A0.Mine.Roads.n = 0 := rfl
  have e2 : zM A0.Doors = 0 := rfl
  have e3 : zN A0.Doors A0.Mine.Roads.n = 0 := by
    unfold zN
    rw [e2, if_neg (by omega)]; rfl
  rw [e1, if_neg (by omega), e3]
theorem Lg (x : Int) : cK A0 S0 0 x = ((sqS 1 1 x).1 - (-100), (sqS 1 1 x).2 - (-100)) := rfl
def H0 (z : Int) : Sq Int := ⟨2, fun k => cond (Nat.beq k 0) 0 z⟩
theorem ae0 (z : Int) (h0 : -1000 ≤ z) (h1 : z ≤ 1000) : Rng (H0 z) := by
  intro k _
  show _ ≤ cond (Nat.beq k 0) 0 z ∧ cond (Nat.beq k 0) 0 z ≤ _
  cases Nat.beq k 0 <;> constructor <;> (try dsimp only [cond]) <;> omega
theorem ai9 {p z : Int} (z0 : -1000 ≤ z) (z1 : z ≤ 1000) (h : (cK A0 S0 0 z).2 ≤ p) (h' : p < (cK A0 S0 0 (z + 1)).2) : flL A0 S0 0 p = z := by
  have ok := aW Cu
  have hi : 0 < A0.Mine.Roads.n := by decide
  have lt := fun {x y : Int} (hx : -1048577 ≤ x) (h : x < y) (hy : y ≤ 1048577) => (CF ok hi hx h hy).2
  have c : Cut (fun x => (cK A0 S0 0 x).2 > p) (z + 1) := ⟨by omega, by omega, fun x h0 h1 => by
      rcases Int.lt_or_le x z with c | c
      · have := lt (x := x) (y := z) (by omega) c (by omega); omega
      · obtain rfl : x = z := by omega
        omega, fun x h0 h1 => by
      rcases Int.lt_or_le (z + 1) x with c | c
      · have := lt (x := z + 1) (y := x) (by omega) c (by omega); omega
      · obtain rfl : x = z + 1 := by omega
        omega⟩
  have := (Sz ok hi p).2.eq c
  omega
theorem ai8 {p z : Int} (z0 : -1000 ≤ z) (z1 : z ≤ 1000) (h : (cK A0 S0 0 (z - 1)).1 < p) (h' : p ≤ (cK A0 S0 0 z).1) : flH A0 S0 0 p = z := by
  have ok := aW Cu
  have hi : 0 < A0.Mine.Roads.n := by decide
  have lt := fun {x y : Int} (hx : -1048577 ≤ x) (h : x < y) (hy : y ≤ 1048577) => (CF ok hi hx h hy).1
  have c : Cut (fun x => (cK A0 S0 0 x).1 ≥ p) z := ⟨by omega, by omega, fun x h0 h1 => by
      rcases Int.lt_or_le x (z - 1) with c | c
      · have := lt (x := x) (y := z - 1) (by omega) c (by omega); omega
      · obtain rfl : x = z - 1 := by omega
        omega, fun x h0 h1 => by
      rcases Int.lt_or_le z x with c | c
      · have := lt (x := z) (y := x) (by omega) c (by omega); omega
      · obtain rfl : x = z := by omega
        omega⟩
  exact (Sy ok hi p).2.eq c
theorem aa3 : flL A0 S0 0 100 = 0 := ai9 (by omega) (by omega) (by rw [Lg]; decide) (by rw [Lg]; decide)
theorem ad3 : flH A0 S0 0 100 = 0 := ai8 (by omega) (by omega) (by rw [Lg]; decide) (by rw [Lg]; decide)
theorem ai7 : flL A0 S0 0 99 = -1 := ai9 (by omega) (by omega) (by rw [Lg]; decide) (by rw [Lg]; decide)
theorem ah7 : Aw A0.Mine (1 : Int) := ⟨0, by omega, by decide, (Conn.refl _ _).edg ⟨0, by decide, rfl, .inl ⟨rfl, rfl⟩⟩, rfl⟩
theorem ajm (z p : Int) : NL A0 S0 (H0 z) 1 p = flL A0 S0 0 p := by
  have e : NL A0 S0 (H0 z) 1 p = 0 + flL A0 S0 0 (p - 0) := rfl
  rw [e, Int.sub_zero, Int.zero_add]
theorem ako (z p : Int) : NH A0 S0 (H0 z) 1 p = flH A0 S0 0 p := by
  have e : NH A0 S0 (H0 z) 1 p = 0 + flH A0 S0 0 (p - 0) := rfl
  rw [e, Int.sub_zero, Int.zero_add]
theorem alc : FY A0 S0 ⟨H0 100, H0 100⟩ = 0 := by
  refine ae6 Cu rfl rfl (ae0 100 (by omega) (by omega)) (ae0 100 (by omega) (by omega)) fun i hi => ?_
  have hi : i < 2 := hi
  rcases (show i = 0 ∨ i = 1 by omega) with q | q
  · subst q
    exact ⟨fun _ => ⟨rfl, rfl⟩, fun n => absurd (.inl rfl) n⟩
  · subst q
    refine ⟨fun n => ?_, fun _ => ?_⟩
    · rcases n with n | n
      · cases n
      · exact absurd ah7 n
    · show 0 ≤ NL A0 S0 (H0 100) 1 100 ∧ NH A0 S0 (H0 100) 1 100 ≤ 0
      rw [ajm, ako, aa3, ad3]
      exact ⟨Int.le_refl _, Int.le_refl _⟩
theorem alq : FY A0 S0 ⟨H0 100, H0 99⟩ = 12 := by
  unfold FY
  rw [if_neg (not_not_intro (Da Cu)), if_neg (by rw [Cu]; simp), if_neg (show ¬ ((⟨H0 100, H0 99⟩ : bM).Low.n ≠ A0.Mine.Places.n) from not_not_intro rfl), if_neg (show ¬ ((⟨H0 100, H0 99⟩ : bM).High.n ≠ A0.Mine.Places.n) from not_not_intro rfl), if_neg (not_not_intro (show Rng (⟨H0 100, H0 99⟩ : bM).Low from ae0 100 (by omega) (by omega))), if_neg (not_not_intro (show Rng (⟨H0 100, H0 99⟩ : bM).High from ae0 99 (by omega) (by omega))), if_neg]
  intro h
  have q := ((h 1 (by decide)).2 fun n => n.elim (fun e => by cases e) fun n => n ah7).1
  have q : 0 ≤ NL A0 S0 (H0 99) 1 99 := q
  rw [ajm, ai7] at q
  omega
theorem alb : akH A0 S0 ⟨H0 100, H0 100⟩ 0 = ⟨0, 0⟩ := by
  unfold akH
  rw [if_neg (by decide), if_pos (show Aw A0.Mine (A0.Mine.Roads.f 0).From from ah7)]
  show aK.mk (flL A0 S0 0 (100 - 0)) (flH A0 S0 0 (100 - 0)) = _
  rw [Int.sub_zero, aa3, ad3]
end Go.Proofs.YtmfiagdelnddkaaGreat.Ab
