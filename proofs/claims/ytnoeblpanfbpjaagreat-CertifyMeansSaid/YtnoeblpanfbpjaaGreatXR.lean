/- Stage 11: bounds that are found in a mine that is made stay small. -/
import Derived.Test.YtnoeblpanfbpjaaGreatXP
import Derived.Test.YtnoeblpanfbpjaaGreatXG
namespace Go.Proofs.YtnoeblpanfbpjaaGreat.Ab
open Go

/-- At no flow each road's difference of pressure is small. -/
def Dr0 (a : SAir) (s : SSetting) : Prop := ∀ j, j < a.Mine.Roads.n → -10000010000 ≤ (dropP a s j 0).1 ∧ (dropP a s j 0).2 ≤ 10000010000
theorem stS_wide {f : SFan} {nr : Nat} (h : FnD f nr) {st : Int} (x : Int) : -3000 ≤ (stS f st x).Low ∧ (stS f st x).High ≤ 3000 := by
  have ok := h.c.ok h.n
  have hM : ∀ i, i < f.Curve.n → (f.Curve.f i).Pressure ≤ 3000 := fun i hi => (h.c.f i hi).2.2.2
  have b1 := blow_small ok hM f.Back x
  have b2 := blow_small ok hM (!f.Back) x
  unfold stS
  split
  · dsimp only; omega
  · split
    · omega
    · split
      · omega
      · unfold minI maxI
        dsimp only
        constructor
        · split <;> split <;> omega
        · split <;> split <;> omega
theorem fsum_wide {F : Sq SFan} {s : Sq Int} {nr : Nat} (h : ∀ i, i < F.n → FnD (F.f i) nr) (road x : Int) (b : Int × Int) : ∀ k, k ≤ F.n → b.1 - 3000 * (k : Int) ≤ (fsum F s road x b k).1 ∧ (fsum F s road x b k).2 ≤ b.2 + 3000 * (k : Int) := by
  intro k
  induction k with
  | zero => intro _; show b.1 - _ ≤ b.1 ∧ b.2 ≤ _; omega
  | succ k ih =>
    intro hk
    obtain ⟨i1, i2⟩ := ih (by omega)
    have := stS_wide (h k (by omega)) (st := s.f k) x
    unfold fsum
    split
    · dsimp only; omega
    · omega
theorem MdD.dr0 {a : SAir} {s : SSetting} {x : SState} (h : MdD a s x) : Dr0 a s := by
  obtain ⟨sh, s0, _, _, _, _, _, hE, _, _, hL⟩ := h.e
  have hfn := hE.fn
  intro j hj
  have l := hL j hj
  have l0 := l.l0
  have l1 := l.l1
  have l2 := l.l2
  have q : ∀ lo hi : Int, sqS lo hi 0 = (0, 0) := fun lo hi => by
    unfold sqS
    rw [if_neg (by omega)]
    simp
  unfold dropP
  dsimp only
  rw [q]
  have := fsum_wide (s := s.Fans) (fun i hi => (hE.f.f i hi).1) j 0 (0 - (a.Mine.Roads.f j).Lift.High, 0 - (a.Mine.Roads.f j).Lift.Low) a.Fans.n (Nat.le_refl _)
  dsimp only at this ⊢
  omega
theorem flL_nn {a : SAir} {s : SSetting} (ok : RtOK a s) {i : Nat} (hi : i < a.Mine.Roads.n) {p : Int} (h : (dropP a s i 0).2 ≤ p) : 0 ≤ flL a s i p := by
  have c := (flL_c ok hi p).2
  rcases Int.lt_or_le (flL a s i p) 0 with n | n
  · have := c.t 0 (by omega) (by omega); omega
  · exact n
theorem flH_np {a : SAir} {s : SSetting} (ok : RtOK a s) {i : Nat} (hi : i < a.Mine.Roads.n) {p : Int} (h : p ≤ (dropP a s i 0).1) : flH a s i p ≤ 0 := by
  have c := (flH_c ok hi p).2
  rcases Int.lt_or_le 0 (flH a s i p) with n | n
  · exact absurd h (c.f 0 (by omega) n)
  · exact n
theorem flH_nn {a : SAir} {s : SSetting} (ok : RtOK a s) {i : Nat} (hi : i < a.Mine.Roads.n) {p : Int} (h : (dropP a s i 0).2 ≤ p) : 0 ≤ flH a s i p := Int.le_trans (flL_nn ok hi h) (fl_in ok hi p).2.1
/-- Far above its neighbours surely no air comes to a place. -/
theorem NL_far {a : SAir} {s : SSetting} (ok : RtOK a s) (d : Dr0 a s) {P : Sq Int} (pn : P.n = a.Mine.Places.n) {hi : Int} (h : ∀ k, k < P.n → P.f k ≤ hi) (pl : Int) {p : Int} (hp : hi + 10000010000 ≤ p) : 0 ≤ NL a s P pl p := by
  refine sumN_nonneg fun j hj => ?_
  have re := road_ends ok.m hj
  have dj := d j hj
  have hF := h (a.Mine.Roads.f j).From.toNat (by omega)
  have hT := h (a.Mine.Roads.f j).To.toNat (by omega)
  unfold coL
  split
  · exact Int.le_refl _
  · split
    · exact flL_nn ok hj (by omega)
    · split
      · have := flH_np ok hj (p := P.f (a.Mine.Roads.f j).From.toNat - p) (by omega); omega
      · exact Int.le_refl _
theorem NH_far {a : SAir} {s : SSetting} (ok : RtOK a s) (d : Dr0 a s) {P : Sq Int} (pn : P.n = a.Mine.Places.n) {lo : Int} (h : ∀ k, k < P.n → lo ≤ P.f k) (pl : Int) {p : Int} (hp : p ≤ lo - 10000010000) : NH a s P pl p ≤ 0 := by
  refine sumN_nonpos fun j hj => ?_
  have re := road_ends ok.m hj
  have dj := d j hj
  have hF := h (a.Mine.Roads.f j).From.toNat (by omega)
  have hT := h (a.Mine.Roads.f j).To.toNat (by omega)
  unfold coH
  split
  · exact Int.le_refl _
  · split
    · exact flH_np ok hj (by omega)
    · split
      · have := flL_nn ok hj (p := P.f (a.Mine.Roads.f j).From.toNat - p) (by omega); omega
      · exact Int.le_refl _
def Btw (l : Sq Int) (lo hi : Int) : Prop := ∀ k, k < l.n → lo ≤ l.f k ∧ l.f k ≤ hi
theorem Btw.set {l : Sq Int} {lo hi lo' hi' : Int} (h : Btw l lo hi) (h0 : lo' ≤ lo) (h1 : hi ≤ hi') (k : Nat) {v : Int} (v0 : lo' ≤ v) (v1 : v ≤ hi') : Btw (setS l k v) lo' hi' := fun j hj => by
  by_cases c : j = k
  · rw [c, setS_own]; exact ⟨v0, v1⟩
  · rw [setS_other l v c]; have := h j hj; omega
theorem round_up {a : SAir} {s : SSetting} (rt : rightB a s = true) (d : Dr0 a s) {l : Sq Int} (hl : PrsOK a l) {lo hi : Int} (b : Btw l lo hi) {y : Bool × Sq Int} (e : roundO a s true a.Mine.Places.n 0 false l = some y) : Btw y.2 lo (hi + 10000010000 * (a.Mine.Places.n : Int)) := by
  refine (roundO_keeps rt (fun k _ l => Btw l lo (hi + 10000010000 * (k : Int))) (fun k ch l hk hl hb => ⟨fun _ j hj => by have := hb j hj; omega, fun _ e => ?_⟩) a.Mine.Places.n 0 false l (by omega) hl (fun j hj => by have := b j hj; omega) y e).2
  have pr : PrOK a s l k := ⟨rt, hl, by omega, by have := hl.n; omega⟩
  have own := hb k (by have := hl.n; omega)
  rcases (stepO_up pr).2 with ⟨_, a1, a2, _, a4⟩ | ⟨a1, _⟩
  · have far := NL_far (right_ok rt) d hl.n (hi := hi + 10000010000 * (k : Int)) (fun j hj => (hb j hj).2) k (p := hi + 10000010000 * (k : Int) + 10000010000) (Int.le_refl _)
    have top : (stepO a s true l k).1 ≤ hi + 10000010000 * (k : Int) + 10000010000 := by
      rcases Int.lt_or_le (hi + 10000010000 * (k : Int) + 10000010000) (stepO a s true l k).1 with n | n
      · have := a4 (hi + 10000010000 * (k : Int) + 10000010000) (by omega) n; omega
      · exact n
    exact hb.set (Int.le_refl _) (by omega) k (by omega) (by omega)
  · rw [a1] at e; cases e
theorem round_down {a : SAir} {s : SSetting} (rt : rightB a s = true) (d : Dr0 a s) {l : Sq Int} (hl : PrsOK a l) {lo hi : Int} (b : Btw l lo hi) {y : Bool × Sq Int} (e : roundO a s false a.Mine.Places.n 0 false l = some y) : Btw y.2 (lo - 10000010000 * (a.Mine.Places.n : Int)) hi := by
  refine (roundO_keeps rt (fun k _ l => Btw l (lo - 10000010000 * (k : Int)) hi) (fun k ch l hk hl hb => ⟨fun _ j hj => by have := hb j hj; omega, fun _ e => ?_⟩) a.Mine.Places.n 0 false l (by omega) hl (fun j hj => by have := b j hj; omega) y e).2
  have pr : PrOK a s l k := ⟨rt, hl, by omega, by have := hl.n; omega⟩
  have own := hb k (by have := hl.n; omega)
  rcases (stepO_down pr).2 with ⟨_, a1, a2, _, a4⟩ | ⟨a1, _⟩
  · have far := NH_far (right_ok rt) d hl.n (lo := lo - 10000010000 * (k : Int)) (fun j hj => (hb j hj).1) k (p := lo - 10000010000 * (k : Int) - 10000010000) (Int.le_refl _)
    have top : lo - 10000010000 * (k : Int) - 10000010000 ≤ (stepO a s false l k).1 := by
      rcases Int.lt_or_le (stepO a s false l k).1 (lo - 10000010000 * (k : Int) - 10000010000) with n | n
      · have := a4 (lo - 10000010000 * (k : Int) - 10000010000) (by omega) n; omega
      · exact n
    exact hb.set (by omega) (Int.le_refl _) k (by omega) (by omega)
  · rw [a1] at e; cases e
theorem relaxV_up {a : SAir} {s : SSetting} {st l : Sq Int} (np : a.Mine.Places.n ≤ 6) (d : Dr0 a s) {lo hi : Int} (b : Btw st lo hi) (e : relaxV a s st true = (l, 0)) : Btw l lo (hi + 12000012000000) := by
  obtain ⟨h1, h2⟩ := relaxV_ok (a := a) (s := s) (st := st) (up := true) (by rw [e])
  obtain ⟨rt, hl, _⟩ := startE_ok h1
  rw [e] at h2
  obtain ⟨_, r, hr, j, _⟩ := relaxO_keeps (a := a) (s := s) (up := true) (fun r l => r ≤ 200 ∧ Btw l lo (hi + 60000060000 * (200 - (r : Int)))) (fun r l hl hj y e => by
    have q := round_up rt d hl hj.2 e
    refine ⟨(roundO_keeps rt (fun _ _ _ => True) (fun _ _ _ _ _ _ => ⟨fun _ => trivial, fun _ _ => trivial⟩) a.Mine.Places.n 0 false l (by omega) hl trivial y e).1, by omega, fun j hj => ?_⟩
    have := q j hj
    omega) 200 st hl ⟨Nat.le_refl _, fun j hj => by have := b j hj; omega⟩ _ h2
  exact fun k hk => by have := j.2 k hk; dsimp only at this ⊢; omega
theorem relaxV_down {a : SAir} {s : SSetting} {st l : Sq Int} (np : a.Mine.Places.n ≤ 6) (d : Dr0 a s) {lo hi : Int} (b : Btw st lo hi) (e : relaxV a s st false = (l, 0)) : Btw l (lo - 12000012000000) hi := by
  obtain ⟨h1, h2⟩ := relaxV_ok (a := a) (s := s) (st := st) (up := false) (by rw [e])
  obtain ⟨rt, hl, _⟩ := startE_ok h1
  rw [e] at h2
  obtain ⟨_, r, hr, j, _⟩ := relaxO_keeps (a := a) (s := s) (up := false) (fun r l => r ≤ 200 ∧ Btw l (lo - 60000060000 * (200 - (r : Int))) hi) (fun r l hl hj y e => by
    have q := round_down rt d hl hj.2 e
    refine ⟨(roundO_keeps rt (fun _ _ _ => True) (fun _ _ _ _ _ _ => ⟨fun _ => trivial, fun _ _ => trivial⟩) a.Mine.Places.n 0 false l (by omega) hl trivial y e).1, by omega, fun j hj => ?_⟩
    have := q j hj
    omega) 200 st hl ⟨Nat.le_refl _, fun j hj => by have := b j hj; omega⟩ _ h2
  exact fun k hk => by have := j.2 k hk; dsimp only at this ⊢; omega
theorem solveV_small {a : SAir} {s : SSetting} (np : a.Mine.Places.n ≤ 6) (d : Dr0 a s) (h : (solveV a s).2 = 0) : Sm (solveV a s).1.Low 50000000000000 ∧ Sm (solveV a s).1.High 50000000000000 := by
  obtain ⟨below, e1, e2, e3⟩ := solveV_ok h
  have b1 := relaxV_down np d (st := zeroS a.Mine.Places.n) (lo := 0) (hi := 0) (fun k _ => ⟨Int.le_refl _, Int.le_refl _⟩) e1
  have b2 := relaxV_up np d b1 e2
  have b3 := relaxV_down np d b2 e3
  exact ⟨fun k hk => by have := b3 k hk; omega, fun k hk => by have := b2 k hk; omega⟩
end Go.Proofs.YtnoeblpanfbpjaaGreat.Ab
