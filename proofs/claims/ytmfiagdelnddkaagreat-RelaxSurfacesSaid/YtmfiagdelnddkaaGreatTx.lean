/- Stage 12: Surfaces. -/
import Derived.Test.YtmfiagdelnddkaaGreatTE
import Derived.Test.YtmfiagdelnddkaaGreatTC
import Derived.Test.YtmfiagdelnddkaaGreatTV
import Derived.Test.YtmfiagdelnddkaaGreatXkx
namespace Go.Proofs.YtmfiagdelnddkaaGreat.Ab
open Go
def WX (m : aL) (R L : Int) : aL := ⟨⟨m.Places.n + 1, fun k => ⟨cond (Nat.blt k m.Places.n) (m.Places.f k).Height 0, cond (Nat.blt k m.Places.n) (m.Places.f k).Surface true⟩⟩,
  ⟨m.Roads.n + 1, fun k => ⟨cond (Nat.blt k m.Roads.n) (m.Roads.f k).From 0, cond (Nat.blt k m.Roads.n) (m.Roads.f k).To m.Places.n, cond (Nat.blt k m.Roads.n) (m.Roads.f k).Length 1, cond (Nat.blt k m.Roads.n) (m.Roads.f k).Area 1, cond (Nat.blt k m.Roads.n) (m.Roads.f k).Walk false, cond (Nat.blt k m.Roads.n) (m.Roads.f k).Closed false,
    ⟨cond (Nat.blt k m.Roads.n) (m.Roads.f k).Rest.Low R, cond (Nat.blt k m.Roads.n) (m.Roads.f k).Rest.High R⟩, ⟨cond (Nat.blt k m.Roads.n) (m.Roads.f k).Lift.Low (-L), cond (Nat.blt k m.Roads.n) (m.Roads.f k).Lift.High L⟩⟩⟩⟩
theorem adr (m : aL) (R L : Int) {k : Nat} (h : k < m.Roads.n) : (WX m R L).Roads.f k = m.Roads.f k := by
  unfold WX
  dsimp only
  rw [yO h]; rfl
theorem adq (m : aL) (R L : Int) : (WX m R L).Roads.f m.Roads.n = ⟨0, m.Places.n, 1, 1, false, false, ⟨R, R⟩, ⟨-L, L⟩⟩ := by
  unfold WX
  dsimp only
  rw [Au (by omega)]; rfl
theorem af9 {r : aB} {n : Int} (h : Et r n = 0) : Et r (n + 1) = 0 := by
  unfold Et at h ⊢
  repeat' (split at h; · omega)
  repeat' (split; · omega)
  rfl
theorem afq (codes : Sq Int) (hb : ∀ k, 0 ≤ codes.f k ∧ codes.f k ≤ 255) (rest lift : Int) (r0 : 0 ≤ rest ∧ rest ≤ 65535) (l0 : 0 ≤ lift ∧ lift ≤ 65535) : (oN codes rest lift).get = some true := by
  obtain ⟨c, e0, hc⟩ := X7 codes hb
  obtain ⟨a, s, x, b, e1, b0, b1, md⟩ := rQ hc
  have np := md.np
  have nr := md.nr
  have n1 := md.n1
  have rt := md.right
  have ok := aW rt
  have e3 : Hu a.Mine = some a.Mine := by
    rw [Td]; unfold Fw
    rw [aA (decide_eq_true ⟨by omega, by omega⟩), aA (decide_eq_true ⟨by omega, by omega⟩)]; rfl
  have mb : uV (WX a.Mine (1 + rest) lift) := ⟨by show a.Mine.Places.n + 1 ≤ 64; omega, by show a.Mine.Roads.n + 1 ≤ 128; omega, fun i hi => by
      have hi : i < a.Mine.Places.n + 1 := hi
      show _ ≤ cond _ _ _ ∧ cond _ _ _ ≤ _
      by_cases c : i < a.Mine.Places.n
      · rw [yO c]; exact ok.m.h i c
      · rw [Au (by omega)]; exact ⟨by show (-10000 : Int) ≤ 0; omega, by show (0 : Int) ≤ 10000; omega⟩, fun i hi => by
      have hi : i < a.Mine.Roads.n + 1 := hi
      show Et _ (((a.Mine.Places.n + 1 : Nat)) : Int) = 0
      rw [Int.natCast_add]
      by_cases c : i < a.Mine.Roads.n
      · rw [adr _ _ _ c]; exact af9 (ok.m.r i c)
      · rw [show i = a.Mine.Roads.n by omega, adq]
        unfold Et
        dsimp only
        rw [if_neg (by omega), if_neg (by omega), if_neg (by omega), if_neg (by omega), if_neg (by omega), if_neg (by omega), if_neg (by omega)]⟩
  have s0 : (a.Mine.Places.f 0).Surface = true := by
    obtain ⟨sh, _, h1, _, hP, _⟩ := md.e
    rw [(hP.f 0 (by omega)).1]
    exact Nat.ble_eq_true_of_le (by omega)
  have rb : aZ ⟨WX a.Mine (1 + rest) lift, a.Fans, a.Doors⟩ s = true := md.right2 (b := ⟨WX a.Mine (1 + rest) lift, a.Fans, a.Doors⟩) mb (by show a.Mine.Roads.n ≤ a.Mine.Roads.n + 1; omega) rfl (fun _ _ => ⟨rfl, rfl⟩) rfl
  have t : Ext a ⟨WX a.Mine (1 + rest) lift, a.Fans, a.Doors⟩ s := ⟨rt, rb, n1, s0, rfl, fun j hj => by
      show cond _ _ _ = _
      rw [yO hj]; rfl, by
      show cond (Nat.blt a.Mine.Places.n a.Mine.Places.n) _ _ = _
      rw [Au (by omega)]; rfl, rfl, fun j hj => adr _ _ _ hj, by
      show ((WX a.Mine (1 + rest) lift).Roads.f a.Mine.Roads.n).From = 0 ∧ ((WX a.Mine (1 + rest) lift).Roads.f a.Mine.Roads.n).To = _
      rw [adq]; exact ⟨rfl, rfl⟩, rfl, rfl⟩
  have k1 := X9 a s (by omega) (by omega)
  have k2 := X9 ⟨WX a.Mine (1 + rest) lift, a.Fans, a.Doors⟩ s (by show a.Mine.Places.n + 1 ≤ 12; omega) (by show 0 < a.Mine.Places.n + 1; omega)
  unfold oN
  rw [get_bind e0, get_bind e1]
  dsimp only
  rw [get_bind e3, aA (decide_eq_true ⟨by omega, by omega⟩), aA (decide_eq_true ⟨by omega, by omega⟩), get_bind k1, aO (x := (((a.Mine.Places.n + 1) : Nat) : Int) - 1) (by omega) (by omega), aO (x := rest) (by omega) (by omega), aO (x := lift) (by omega) (by omega), aO (x := 1 + rest) (by omega) (by omega), aO (x := 0 - lift) (by omega) (by omega), show (((a.Mine.Places.n + 1) : Nat) : Int) - 1 = a.Mine.Places.n by omega, Int.zero_sub]
  refine (get_bind k2).trans ?_
  rcases agk t with ⟨g, g'⟩ | ⟨g, g', h1, h2⟩
  · rw [g, g']
    dsimp only
    rw [aD (show ((2 : Int) != 2) = false from rfl), aA (show ((2 : Int) != 0) = true from rfl), get_bind jm]; rfl
  · generalize gZ a s = u at g h1 h2
    generalize gZ ⟨WX a.Mine (1 + rest) lift, a.Fans, a.Doors⟩ s = v at g' h1 h2
    have i1 : fJ u.1.Low ⟨a.Mine.Places.n, v.1.Low.f⟩ = some true := Lx (by rw [h1.n]; omega) h1.n fun j hj => (h1.f j (by rw [← h1.n]; exact hj)).symm
    have i2 : fJ u.1.High ⟨a.Mine.Places.n, v.1.High.f⟩ = some true := Lx (by rw [h2.n]; omega) h2.n fun j hj => (h2.f j (by rw [← h2.n]; exact hj)).symm
    have m1 := h1.n'
    have m2 := h2.n'
    rw [g, g', aD (show ((0 : Int) != 0) = false from rfl), aD (show ((0 : Int) != 0) = false from rfl), aQ (by omega), aA (by rw [m1]; simp), aA (by rw [m2]; simp), aA (decide_eq_true ⟨by omega, by omega⟩), aF, get_bind i1, aA rfl, aA (decide_eq_true ⟨by omega, by omega⟩), get_bind i2, aA rfl, aA (decide_eq_true ⟨by omega, by omega⟩), h1.z, aA (show ((0 : Int) == 0) = true from rfl), aA (decide_eq_true ⟨by omega, by omega⟩), h2.z, aA (show ((0 : Int) == 0) = true from rfl), get_bind jm]; rfl
end Go.Proofs.YtmfiagdelnddkaaGreat.Ab
