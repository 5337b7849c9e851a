/- Stage 9, what is drawn: a whole air, with a state that fits. -/
import Derived.Test.YtmfiagdelnddkaaGreatXs
namespace Go.Proofs.YtmfiagdelnddkaaGreat.Ab
open Go
structure MdD (a : SAir) (s : au) (x : dN) : Prop where
  nr : a.Mine.Roads.n ≤ 10
  np : a.Mine.Places.n ≤ 6
  e : ∃ (sh : Nat) (s0 : au), 1 ≤ sh ∧ sh ≤ 2 ∧ PlD a.Mine.Places sh ∧ PrD x.Pressures a.Mine.Places.n sh ∧ FlD a.Mine.Roads x.Flows sh a.Mine.Places.n ∧ EqD a s0 ∧ DbD s0.Fans s.Fans ∧ DbD s0.Doors s.Doors ∧
    ∀ j, j < a.Mine.Roads.n → LfD a s0 x j (a.Mine.Roads.f j).Lift
  dn : a.Doors.n ≤ 2
theorem RoD.lift {r r' : aB} {q : Int} {n : Nat} (h : RoD r q n) (e : r' = { r with Lift := r'.Lift }) : RoD r' q n := by
  have e1 : r'.From = r.From := by rw [e]
  have e2 : r'.To = r.To := by rw [e]
  have e3 : r'.Length = r.Length := by rw [e]
  have e4 : r'.Area = r.Area := by rw [e]
  have e5 : r'.Closed = r.Closed := by rw [e]
  have e6 : r'.Rest = r.Rest := by rw [e]
  obtain ⟨a1, a2, a3, a4, a5, ⟨b1, b2, b3, b4, b5, b6, b7⟩, a7, a8, a9⟩ := h
  exact ⟨by omega, by omega, by omega, by omega, by omega, ⟨by omega, by omega, by omega, by omega, by rw [e6]; exact b5, by rw [e6]; exact b6, by rw [e6]; exact b7⟩, a7, a8, fun h => a9 (by rw [← e5]; exact h)⟩
theorem acO {c : aJ} (hc : CdOK c) {sh : Nat} (h1 : 1 ≤ sh) (h2 : sh ≤ 2) {P : Sq ay} (hP : PlD P sh) (hPn : P.n ≤ 6) {p : Sq Int} (hp : PrD p P.n sh) {R : Sq aB} {q : Sq Int} (hq : FlD R q sh P.n) (hR : R.n ≤ 10)
    (nf : Sq SFan) (nd : Sq aC) (hnf : nf.n = 0) (hnd : nd.n = 0) :
    ∃ a s x b, DT.get (.bind (jW c (SAir.mk (aL.mk P R) nf nd)) fun z => .bind (zB (aJ.mk c.l_ z.2.1) (SAir.mk (aL.mk P R) z.2.2.1 z.2.2.2) z.1 (dN.mk p q)) fun y => .bind (oD (aJ.mk c.l_ y.1) z.1) fun w => .leaf ((SAir.mk (aL.mk P y.2) z.2.2.1 z.2.2.2), w.1, (dN.mk p q), w.2)) = some (a, s, x, b) ∧ 0 ≤ b ∧ b ≤ 300 ∧ MdD a s x := by
  obtain ⟨s0, b0, F, D, e0, l0, u0, hF, hD, nF, nD⟩ := Uh hc (SAir.mk (aL.mk P R) nf nd) hnf hnd (by dsimp only; omega)
  dsimp only at hF hD
  have hE : EqD (SAir.mk (aL.mk P R) F D) s0 := ⟨nF, by dsimp only; omega, hF, hD⟩
  obtain ⟨b1, R1, e1, l1, u1, n1, hR1⟩ := acL (hc.at l0 u0) (x := dN.mk p q) hE (by dsimp only; omega) hq.qn hp.nn hp.f hq.r
  dsimp only at n1 hR1
  have sfn := hF.n
  have sdn := hD.n
  obtain ⟨t, b2, e2, l2, u2, dF, dD⟩ := XZ (hc.at l1 u1) s0 (by omega) (by omega)
  rw [get_bind e0]
  dsimp only
  rw [get_bind e1]
  dsimp only
  rw [get_bind e2]
  have eFr : ∀ j, j < R.n → (R1.f j).From = (R.f j).From := fun j hj => by rw [(hR1 j hj).1]
  have eTo : ∀ j, j < R.n → (R1.f j).To = (R.f j).To := fun j hj => by rw [(hR1 j hj).1]
  have eRe : ∀ j, j < R.n → (R1.f j).Rest = (R.f j).Rest := fun j hj => by rw [(hR1 j hj).1]
  refine ⟨_, _, _, _, rfl, l2, u2, by dsimp only; omega, hPn, ⟨sh, s0, h1, h2, hP, hp, ⟨by rw [n1]; exact hq.qn, fun k k1 k2 => ?_, fun j hj => ?_⟩, ⟨nF, by dsimp only; omega, by dsimp only; rw [n1]; exact hF, by dsimp only; rw [n1]; exact hD⟩, dF, dD, fun j hj => ?_⟩, nD⟩
  · dsimp only
    rw [n1, ads (R' := R) (q' := q) R.n fun j hj => ⟨eFr j hj, eTo j hj, rfl⟩]
    exact hq.e k k1 k2
  · dsimp only at hj ⊢
    rw [n1] at hj
    exact (hq.r j hj).lift (hR1 j hj).1
  · dsimp only at hj
    rw [n1] at hj
    obtain ⟨⟨re, u, v, g⟩, g0, g1, g2⟩ := (hR1 j hj).2
    dsimp only at g
    refine ⟨⟨re, u, v, ?_⟩, g0, g1, g2⟩
    dsimp only
    rw [eFr j hj, eTo j hj, eRe j hj]
    exact g
theorem NtD.nil (R : Sq aB) (q : Sq Int) (n : Nat) (h1 : R.n = 0) (h2 : q.n = 0) : NtD R q ⟨n, fun _ => 0⟩ n :=
  ⟨by omega, rfl, fun k _ => by dsimp only; omega, fun k _ => by dsimp only; rw [h1]; rfl, fun j hj => by omega⟩
theorem ae1 {c : aJ} (hc : CdOK c) {sh : Nat} (h1 : 1 ≤ sh) (h2 : sh ≤ 2) {P : Sq ay} (hP : PlD P sh) (hPn : P.n ≤ 6) (R0 : Sq aB) (q0 : Sq Int) (nf : Sq SFan) (nd : Sq aC) (hR0 : R0.n = 0) (hq0 : q0.n = 0) (hnf : nf.n = 0) (hnd : nd.n = 0) :
    ∃ a s x b, DT.get (.ite (decide ((0 : Int) ≤ ((P.n : Nat) : Int) ∧ ((P.n : Nat) : Int) ≤ ((P.n : Nat) : Int) ∧ ((P.n : Nat) : Int) * ((8 : Nat) : Int) ≤ 140737488355328 ∧ ((P.n : Nat) : Int) ≤ 1099511627776)) (
      .sum (x9 c.l_ P sh c.at_ (Sq.mk (Int.toNat ((P.n : Nat) : Int)) (fun _ => (0 : Int))) sh) (fun y => 
      .ite (decide ((0 : Int) ≤ ((P.n : Nat) : Int) ∧ ((P.n : Nat) : Int) ≤ ((P.n : Nat) : Int) ∧ ((P.n : Nat) : Int) * ((8 : Nat) : Int) ≤ 140737488355328 ∧ ((P.n : Nat) : Int) ≤ 1099511627776)) (
      .ite (decide (((P.n : Nat) : Int) > (1 : Int))) (
      .bind (bq (aJ.mk c.l_ y.1) (6 : Int)) fun z => 
      .sum (yc c.l_ P y.2 sh z.1 z.2 R0 q0 (Sq.mk (Int.toNat ((P.n : Nat) : Int)) (fun _ => (0 : Int)))) (fun w => 
      .sum (mo c.l_ P y.2 w.2.2.2 sh w.1 w.2.1 w.2.2.1 sh) (fun u =>
      .bind (jW (aJ.mk c.l_ u.1) (SAir.mk (aL.mk P u.2.1) nf nd)) fun z1 => .bind (zB (aJ.mk c.l_ z1.2.1) (SAir.mk (aL.mk P u.2.1) z1.2.2.1 z1.2.2.2) z1.1 (dN.mk y.2 u.2.2)) fun z2 => .bind (oD (aJ.mk c.l_ z2.1) z1.1) fun z3 => .leaf ((SAir.mk (aL.mk P z2.2) z1.2.2.1 z1.2.2.2), z3.1, (dN.mk y.2 u.2.2), z3.2)) (fun _ => .fail)) (fun _ => .fail)) (
      .sum (mo c.l_ P y.2 (Sq.mk (Int.toNat ((P.n : Nat) : Int)) (fun _ => (0 : Int))) sh y.1 R0 q0 sh) (fun u =>
      .bind (jW (aJ.mk c.l_ u.1) (SAir.mk (aL.mk P u.2.1) nf nd)) fun z1 => .bind (zB (aJ.mk c.l_ z1.2.1) (SAir.mk (aL.mk P u.2.1) z1.2.2.1 z1.2.2.2) z1.1 (dN.mk y.2 u.2.2)) fun z2 => .bind (oD (aJ.mk c.l_ z2.1) z1.1) fun z3 => .leaf ((SAir.mk (aL.mk P z2.2) z1.2.2.1 z1.2.2.2), z3.1, (dN.mk y.2 u.2.2), z3.2)) (fun _ => .fail))) .fail) (fun _ => .fail)) .fail) = some (a, s, x, b) ∧ 0 ≤ b ∧ b ≤ 300 ∧ MdD a s x := by
  have hn := hP.n
  obtain ⟨y, ey, y0, y1, hp⟩ := ad9 hc sh sh P hn hPn
  have hg : decide ((0 : Int) ≤ ((P.n : Nat) : Int) ∧ ((P.n : Nat) : Int) ≤ ((P.n : Nat) : Int) ∧ ((P.n : Nat) : Int) * ((8 : Nat) : Int) ≤ 140737488355328 ∧ ((P.n : Nat) : Int) ≤ 1099511627776) = true := decide_eq_true ⟨by omega, by omega, by omega, by omega⟩
  rw [aA hg, aF, aI ey]
  dsimp only [Sum.elim]
  rw [aA hg]
  by_cases hb : ((P.n : Nat) : Int) > 1
  · obtain ⟨w1, b1, f1, m1, o1, p1, q1, _⟩ := aV (hc.at y0 y1) 6 (by omega)
    have q1 := q1 (by omega)
    obtain ⟨w, ew, w0, w2, hw, nw⟩ := aea (hc.at m1 o1) sh P y.2 hPn (by omega) w1 p1 (by omega) R0 q0 hR0 hq0
    obtain ⟨u, eu, u0, u1, hu, nu⟩ := X6 (hc.at w0 w2) sh h1 P y.2 hPn hn w.2.2.2 w.2.1 w.2.2.1 hw nw
    rw [aA (decide_eq_true hb), get_bind f1]
    dsimp only
    rw [aI ew]
    dsimp only [Sum.elim]
    rw [aI eu]
    exact acO (hc.at u0 u1) h1 h2 hP hPn hp hu nu nf nd hnf hnd
  · obtain ⟨u, eu, u0, u1, hu, nu⟩ := X6 (hc.at y0 y1) sh h1 P y.2 hPn hn ⟨P.n, fun _ => 0⟩ R0 q0 (NtD.nil R0 q0 P.n hR0 hq0) (by omega)
    rw [aD (decide_eq_false hb), aI eu]
    exact acO (hc.at u0 u1) h1 h2 hP hPn hp hu nu nf nd hnf hnd
theorem rQ {c : aJ} (hc : CdOK c) : ∃ a s x b, wW c = some (a, s, x, b) ∧ 0 ≤ b ∧ b ≤ 300 ∧ MdD a s x := by
  rw [abd]; unfold Lj
  obtain ⟨o, b0, e0, l0, u0⟩ := vK hc 3 (by omega)
  obtain ⟨w, b1, e1, l1, u1, p1, q1, _⟩ := aV (hc.at l0 u0) 5 (by omega)
  have q1 := q1 (by omega)
  rw [get_bind e0]
  dsimp only
  cases o with
  | true =>
    rw [aA rfl, get_bind e1]
    dsimp only
    obtain ⟨y, ey, y0, y1, hy, ny⟩ := aaJ (hc.at l1 u1) 2 2 w p1 (by omega) ⟨2, fun k => ⟨cond (Nat.blt k 1) 0 10, cond (Nat.blt k 1) true true⟩⟩ ⟨Nat.le_refl _, fun k hk => by
      dsimp only at hk ⊢
      obtain rfl | rfl : k = 0 ∨ k = 1 := by omega
      · exact ⟨rfl, by show (-100 : Int) ≤ 0; omega, by show (0 : Int) ≤ 10; omega⟩
      · exact ⟨rfl, by show (-100 : Int) ≤ 10; omega, by show (10 : Int) ≤ 10; omega⟩⟩ (Nat.le_refl _)
    rw [aI ey]
    exact ae1 (hc.at y0 y1) (sh := 2) (by omega) (by omega) hy ny _ _ _ _ rfl rfl rfl rfl
  | false =>
    rw [aD rfl, get_bind e1]
    dsimp only
    obtain ⟨y, ey, y0, y1, hy, ny⟩ := aaJ (hc.at l1 u1) 1 1 w p1 (by omega) ⟨1, fun _ => ⟨0, true⟩⟩ ⟨Nat.le_refl _, fun k hk => by
      dsimp only at hk ⊢
      obtain rfl : k = 0 := by omega
      exact ⟨rfl, by omega, by omega⟩⟩ (by dsimp only; omega)
    rw [aI ey]
    exact ae1 (hc.at y0 y1) (sh := 1) (by omega) (by omega) hy ny _ _ _ _ rfl rfl rfl rfl
end Go.Proofs.YtmfiagdelnddkaaGreat.Ab
