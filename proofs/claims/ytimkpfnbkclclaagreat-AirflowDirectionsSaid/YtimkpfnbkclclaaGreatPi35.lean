/- A part of the proof, what is needed of it. -/
import Derived.Test.YtimkpfnbkclclaaGreatPi07
import Derived.Test.YtimkpfnbkclclaaGreatPi17
import Derived.Test.YtimkpfnbkclclaaGreatPi24
import Derived.Test.YtimkpfnbkclclaaGreatPi33
import Derived.Test.YtimkpfnbkclclaaGreatPi34
namespace Go.Proofs.YtimkpfnbkclclaaGreat.Ab
noncomputable section
open Go
attribute [local irreducible] arun
def aa0 (c : qF) (a : SAir) (l : Sq qB) : DT (Bool × Int) :=
 .bind (UN c a) fun z0 =>
 .bind (Jb l z0.1) fun z1 =>
 .bind (abu l z0.1) fun z2 =>
 .bind (Gc z1 z2) fun z3 =>
 .leaf (z3, z0.2)
def Ah : FnM := nfM (qF × SAir × (Sq qB)) (Bool × Int) (fun p => ([.ptr 0 0, .agg (SAir.enc p.2.1), sqA 2 qB.enc p.2.2], [.var (qF.enc p.1)])) (fun p => aa0 p.1 p.2.1 p.2.2) (fun r => .bool r.1) (fun ins r => [.var [ql ins 0 0, .int .i64 r.2]])
def adb : Env := envM [(29, x9.c), (20, vv.c), (21, CY.c), (19, wI.c)] [] [] [(2, [.freeze 257])] [] 1
theorem aa1 : aI Tryz.prog 22 Ah.c := Ah.tells Tryz.func22 (show ∀ p, arun adb Tryz.f22 (Ah.enc p).1 (Ah.enc p).2 = _ from fun p => by kernel_rfl) p8 (.cons Ls (.cons Dj (.cons Rm (.cons Ej .nil))))
def adX (c : qF) (a : SAir) (l : Sq qB) : Option (Bool × Int) := Ah.val (c, a, l)
theorem aiy (c : qF) (a : SAir) (l : Sq qB) : adX c a l = (aa0 c a l).get := Ah.val_eq (fun x => (qF.dec (varL (dB x.2 0)), SAir.dec (aggL (gd x.1 1)), sqD qB.dec (gd x.1 2))) (fun p => by kernel_rfl) (c, a, l)
def zl (_u4_0 : Sq Int) (u4_1 : Sq qB) (_u4_2 : Sq rW) (u4_4 : Int) : DT (LR (Int) (Unit) (Unit)) :=
 .ite (decide (u4_4 < ((u4_1.n : Nat) : Int))) (
 .ite (decide ((0 : Int) ≤ u4_4 ∧ u4_4 < ((u4_1.n : Nat) : Int))) (
 .bind (Di (u4_1.f (Int.toNat u4_4))) fun z0 =>
 .bind (Rk (u4_1.f (Int.toNat u4_4))) fun z1 =>
 .ite (z0 != z1) (
 .leaf (.r ())) (
 .leaf (.next (wr (u4_4 + (1 : Int)))))) (
 .fail)) (
 .leaf (.l ()))
def sj : LpM := ⟨(Sq Int) × (Sq qB) × (Sq rW), Int, Unit, Unit, fun p => ⟨[(0, sqA 1 (eI .u8) p.1.1), (1, sqA 2 qB.enc p.1.2.1), (2, sqA 2 rW.enc p.1.2.2), (25, sqA 2 qB.enc p.1.2.1), (26, .int .i64 ((p.1.2.1.n : Nat) : Int)), (27, .int .i64 p.2)], [], 896⟩, fun f v => zl f.1 f.2.1 f.2.2 v, false, (.exit 0), (fun x _ => ⟨[(0, aget x.tm 0), (1, aget x.tm 1), (2, aget x.tm 2), (6, .undef)], [], 896⟩), .ret, (fun x _ => ⟨[(0, aget x.tm 0), (1, aget x.tm 1), (2, aget x.tm 2), (6, .bool false)], [], 896⟩), c1, c1k⟩
def Dq (u4_0 : Sq Int) (u4_1 : Sq qB) (u4_2 : Sq rW) (u4_4 : Int) : Option ((Unit) ⊕ (Unit)) := sj.val ((u4_0, u4_1, u4_2), u4_4)
theorem ZV (u4_0 : Sq Int) (u4_1 : Sq qB) (u4_2 : Sq rW) (u4_4 : Int) : Dq u4_0 u4_1 u4_2 u4_4 = fixO (fun v : Int => zl u4_0 u4_1 u4_2 v) u4_4 := sj.val_eq (fun x => ((sqD dI (aget x.tm 0), sqD qB.dec (aget x.tm 1), sqD rW.dec (aget x.tm 2)), intA (aget x.tm 27))) (fun p => by kernel_rfl) ((u4_0, u4_1, u4_2), u4_4)
def yX (_u10_0 : Sq Int) (_u10_1 : Sq qB) (u10_2 : Sq rW) (u10_4 : Int) : DT (LR (Int) (Unit) (Bool)) :=
 .ite (decide (u10_4 < ((u10_2.n : Nat) : Int))) (
 .ite (decide ((0 : Int) ≤ u10_4 ∧ u10_4 < ((u10_2.n : Nat) : Int))) (
 .ite (decide ((u10_2.f (Int.toNat u10_4)).Need < (-1099511627776 : Int))) (
 .bind (rD) fun z2 =>
 .leaf (.r z2)) (
 .ite (decide ((u10_2.f (Int.toNat u10_4)).Need > (1099511627776 : Int))) (
 .bind (rD) fun z3 =>
 .leaf (.r z3)) (
 .leaf (.next (wr (u10_4 + (1 : Int))))))) (
 .fail)) (
 .leaf (.l ()))
def rO : LpM := ⟨(Sq Int) × (Sq qB) × (Sq rW), Int, Unit, Bool, fun p => ⟨[(0, sqA 1 (eI .u8) p.1.1), (1, sqA 2 qB.enc p.1.2.1), (2, sqA 2 rW.enc p.1.2.2), (37, sqA 2 rW.enc p.1.2.2), (38, .int .i64 ((p.1.2.2.n : Nat) : Int)), (39, .int .i64 p.2)], [], 1088⟩, fun f v => yX f.1 f.2.1 f.2.2 v, false, (.exit 2), (fun x _ => ⟨[(0, aget x.tm 0), (1, aget x.tm 1), (2, aget x.tm 2), (6, .undef)], [], 1088⟩), .ret, (fun x a => ⟨[(0, aget x.tm 0), (1, aget x.tm 1), (2, aget x.tm 2), (6, .bool a)], [], 1088⟩), c1, c1k⟩
def Cn (u10_0 : Sq Int) (u10_1 : Sq qB) (u10_2 : Sq rW) (u10_4 : Int) : Option ((Unit) ⊕ (Bool)) := rO.val ((u10_0, u10_1, u10_2), u10_4)
theorem Y2 (u10_0 : Sq Int) (u10_1 : Sq qB) (u10_2 : Sq rW) (u10_4 : Int) : Cn u10_0 u10_1 u10_2 u10_4 = fixO (fun v : Int => yX u10_0 u10_1 u10_2 v) u10_4 := rO.val_eq (fun x => ((sqD dI (aget x.tm 0), sqD qB.dec (aget x.tm 1), sqD rW.dec (aget x.tm 2)), intA (aget x.tm 39))) (fun p => by kernel_rfl) ((u10_0, u10_1, u10_2), u10_4)
def DY (codes : Sq Int) (raw : Sq qB) (faces : Sq rW) : DT (Bool) :=
 .ite (decide (((raw.n : Nat) : Int) > (30 : Int))) (
 .bind (rD) fun z4 =>
 .leaf z4) (
 .ite (decide (((faces.n : Nat) : Int) > (30 : Int))) (
 .bind (rD) fun z5 =>
 .leaf z5) (
 .sum (Dq codes raw faces (0 : Int)) (fun _ =>
 .sum (Cn codes raw faces (0 : Int)) (fun _ =>
 .bind (New codes) fun z6 =>
 .bind (F7 z6) fun z7 =>
 .bind (M8 (qF.mk z6.l_ z7.2.2.2) z7.2.2.1.Flows) fun z8 =>
 .bind (Jb raw faces) fun z9 =>
 .bind (abu raw faces) fun z10 =>
 .bind (Gc z9 z10) fun z11 =>
 .ite z11 (
 .bind (adX (qF.mk z6.l_ z8.2) z7.1 z8.1) fun z12 =>
 .ite z12.1 (
 .bind (rD) fun z13 =>
 .leaf z13) (
 .leaf false)) (
 .leaf false)) (fun y0 => .leaf y0)) (fun _ => .leaf false)))
def qP : FnM := flM ((Sq Int) × (Sq qB) × (Sq rW)) (Bool) (fun p => ([sqA 1 (eI .u8) p.1, sqA 2 qB.enc p.2.1, sqA 2 rW.enc p.2.2], [])) (fun p => DY p.1 p.2.1 p.2.2) (fun r => .bool r) (fun _ => rfl)
def Cm : Env := envM [(15, su.c), (16, rJ.c), (17, vk.c), (9, ZK.c), (10, uT.c), (18, wC.c), (20, vv.c), (21, CY.c), (19, wI.c), (22, Ah.c)] [(4, [0, 1, 2, 25, 26, 27], [0, 1, 2, 6]), (10, [0, 1, 2, 37, 38, 39], [0, 1, 2, 6])] [(4, sj.c), (10, rO.c)] [(18, [.freeze 1344, .freeze 1345, .freeze 1346, .freeze 1347, .freeze 2240])] [(4, []), (10, [])] 0
def DX : Env := { Cm with nt := 81 }
theorem FB : aQ DX (qd 4 Tryz.f4) sj.c := sj.tells 896 (fun _ => by kernel_rfl) (fun _ _ _ _ => by kernel_rfl) (fun _ _ _ _ => by kernel_rfl) fun R f v N K => by kernel_rfl
theorem E5 : aQ DX (qd 10 Tryz.f4) rO.c := rO.tells 1088 (fun _ => by kernel_rfl) (fun _ _ _ _ => by kernel_rfl) (fun _ _ _ _ => by kernel_rfl) fun R f v N K => by kernel_rfl
theorem ZW : aI Tryz.prog 4 qP.c := qP.tells Tryz.func4 (show ∀ p, arun Cm Tryz.f4 (qP.enc p).1 (qP.enc p).2 = _ from fun p => by kernel_rfl) (qg [qd 4 Tryz.f4, qd 10 Tryz.f4] (by kernel_rfl) ⟨lpT (by kernel_rfl) FB, ⟨lpT (by kernel_rfl) E5, trivial⟩⟩) (.cons wN (.cons zY (.cons Rl (.cons LC (.cons xZ (.cons F8 (.cons Dj (.cons Rm (.cons Ej (.cons aa1 .nil))))))))))
theorem aaW : ∀ a b, qP.enc a = qP.enc b → a = b := linj (fun x => (sqD dI (gd x.1 0), sqD qB.dec (gd x.1 1), sqD rW.dec (gd x.1 2))) (fun p => by kernel_rfl)
end
end Go.Proofs.YtimkpfnbkclclaaGreat.Ab
namespace Go.Proofs.YtimkpfnbkclclaaGreat.Ab
open Go
theorem aoH {r : Sq Int} (ok : akl r) {s0 s : Int} (h0 : 0 ≤ s0) (h1 : s0 < r.n) (h : s = s0 ∨ s = -1) : (rsS r s).Low ≤ (rsS r s0).Low ∧ (rsS r s0).Low ≤ (rsS r s).High := by
  have e : rsS r s0 = ⟨r.f s0.toNat, r.f s0.toNat⟩ := if_pos h0
  rcases h with rfl | rfl
  · rw [e]; exact ⟨Int.le_refl _, Int.le_refl _⟩
  · have e1 : rsS r (-1) = ⟨r.f (r.n - 1), r.f 0⟩ := if_neg (by omega)
    have n0 := ok.n0
    have a := ok.dec (r.n - 1 - s0.toNat) s0.toNat (by omega)
    have b := ok.dec s0.toNat 0 (by omega)
    rw [show s0.toNat + (r.n - 1 - s0.toNat) = r.n - 1 by omega] at a
    rw [Nat.zero_add] at b
    rw [e, e1]
    exact ⟨a, b⟩
theorem aoL {f : SFan} (ok : okC f.Curve) {s0 s : Int} (h0 : 0 ≤ s0) (h1 : s0 ≤ 2) (h : s = s0 ∨ s = -1) (x : Int) : (stS f s x).Low ≤ (stS f s0 x).Low ∧ (stS f s0 x).Low ≤ (stS f s x).High := by
  have a := akK ok f.Back x
  have b := akK ok (!f.Back) x
  rcases h with rfl | rfl
  · refine ⟨Int.le_refl _, ?_⟩
    unfold stS
    split
    · exact Int.le_refl _
    · rw [show (if s = 1 then ai3 f.Curve f.Back x else if s = 2 then ai3 f.Curve (!f.Back) x else _) = if s = 1 then ai3 f.Curve f.Back x else ai3 f.Curve (!f.Back) x from by
        split
        · rfl
        · rw [if_pos (by omega)]]
      split <;> omega
  · have e : stS f (-1) x = ⟨minI (minI 0 (ai3 f.Curve f.Back x).Low) (ai3 f.Curve (!f.Back) x).Low, maxI (maxI 0 (ai3 f.Curve f.Back x).High) (ai3 f.Curve (!f.Back) x).High⟩ := by
      unfold stS
      rw [if_neg (by omega), if_neg (by omega), if_neg (by omega)]
    rw [e]
    have l : (stS f s0 x).Low = 0 ∨ (stS f s0 x).Low = (ai3 f.Curve f.Back x).Low ∨ (stS f s0 x).Low = (ai3 f.Curve (!f.Back) x).Low := by
      unfold stS
      by_cases c0 : s0 = 0
      · rw [if_pos c0]; exact .inl rfl
      · rw [if_neg c0]
        by_cases c1 : s0 = 1
        · rw [if_pos c1]; exact .inr (.inl rfl)
        · rw [if_neg c1, if_pos (by omega)]; exact .inr (.inr rfl)
    dsimp only
    unfold minI maxI
    constructor
    all_goals (repeat' split)
    all_goals omega
theorem anJ {D : Sq qD} {s0 s : Sq Int} {nr : Nat} (h : DsD D s0 nr) (hd : DbD s0 s) (road : Int) {b : Int × Int} {c : Int} (h1 : b.1 ≤ c) (h2 : c ≤ b.2) : ∀ k, k ≤ D.n → (rsum D s road b k).1 ≤ (rsum D s0 road (c, 0) k).1 ∧ (rsum D s0 road (c, 0) k).1 ≤ (rsum D s road b k).2 := by
  have hn := h.n
  intro k
  induction k with
  | zero => intro _; exact ⟨h1, h2⟩
  | succ k ih =>
    intro hk
    have i := ih (by omega)
    obtain ⟨d1, d2, d3⟩ := h.f k (by omega)
    have q := aoH (d1.c.ok d1.n0 d1.n1) d2 d3 (hd.f k (by omega))
    unfold rsum
    split
    · dsimp only; omega
    · exact i
theorem anx {F : Sq SFan} {s0 s : Sq Int} {nr : Nat} (h : FsD F s0 nr) (hd : DbD s0 s) (road x : Int) (b b' : Int × Int) : ∀ k, k ≤ F.n → (fsum F s road x b k).1 - b.1 ≤ (fsum F s0 road x b' k).2 - b'.2 ∧ (fsum F s0 road x b' k).2 - b'.2 ≤ (fsum F s road x b k).2 - b.2 := by
  have hn := h.n
  intro k
  induction k with
  | zero => intro _; show b.1 - b.1 ≤ b'.2 - b'.2 ∧ b'.2 - b'.2 ≤ b.2 - b.2; omega
  | succ k ih =>
    intro hk
    have i := ih (by omega)
    obtain ⟨d1, d2, d3⟩ := h.f k (by omega)
    have q := aoL (d1.c.ok d1.n) d2 d3 (hd.f k (by omega)) x
    unfold fsum
    split
    · dsimp only; omega
    · exact i
theorem apV {lo hi B x : Int} (h1 : lo ≤ B) (h2 : B ≤ hi) : (sqS lo hi x).1 ≤ sgn B x ∧ sgn B x ≤ (sqS lo hi x).2 := by
  have hx : 0 ≤ x * x := by
    rcases Int.le_total 0 x with h | h
    · exact Int.mul_nonneg h h
    · exact Int.mul_nonneg_of_nonpos_of_nonpos h h
  have a := Int.mul_le_mul_of_nonneg_right h1 hx
  have b := Int.mul_le_mul_of_nonneg_right h2 hx
  unfold sqS sgn
  split
  · dsimp only; omega
  · dsimp only; omega
theorem MdD.fits {a : SAir} {s : qz} {x : yV} (h : MdD a s x) {j : Nat} (hj : j < a.Mine.Roads.n) :
    (aiS a s j (x.Flows.f j)).1 ≤ x.Pressures.f (a.Mine.Roads.f j).From.toNat - x.Pressures.f (a.Mine.Roads.f j).To.toNat ∧ x.Pressures.f (a.Mine.Roads.f j).From.toNat - x.Pressures.f (a.Mine.Roads.f j).To.toNat ≤ (aiS a s j (x.Flows.f j)).2 := by
  obtain ⟨sh, s0, _, _, _, _, _, hE, dF, dD, hL⟩ := h.e
  obtain ⟨re, u, v, r0, r1, u0, _, v0, _, e⟩ := (hL j hj).e
  have m1 := anJ hE.d dD j (b := ((a.Mine.Roads.f j).Rest.Low, (a.Mine.Roads.f j).Rest.High)) (c := re) r0 r1 a.Doors.n (Nat.le_refl _)
  have m2 := apV (x := x.Flows.f j) m1.1 m1.2
  unfold aiS
  dsimp only
  rw [e]
  dsimp only
  generalize rsum a.Doors s.Doors j ((a.Mine.Roads.f j).Rest.Low, (a.Mine.Roads.f j).Rest.High) a.Doors.n = b at m2 ⊢
  generalize sgn (rsum a.Doors s0.Doors j (re, 0) a.Doors.n).1 (x.Flows.f j) = g at m2 ⊢
  generalize x.Pressures.f (a.Mine.Roads.f j).From.toNat - x.Pressures.f (a.Mine.Roads.f j).To.toNat = d
  have m3 := anx hE.f dF j (x.Flows.f j) ((sqS b.1 b.2 (x.Flows.f j)).1 - ((fsum a.Fans s0.Fans j (x.Flows.f j) (0, g - d) a.Fans.n).2 + v), (sqS b.1 b.2 (x.Flows.f j)).2 - ((fsum a.Fans s0.Fans j (x.Flows.f j) (0, g - d) a.Fans.n).2 - u)) (0, g - d) a.Fans.n (Nat.le_refl _)
  dsimp only at m3
  omega
end Go.Proofs.YtimkpfnbkclclaaGreat.Ab
namespace Go.Proofs.YtimkpfnbkclclaaGreat.Ab
noncomputable section
open Go
def gW (l : Sq Int) (m : Int) (i : Nat) : Option Unit := if -m ≤ l.f i ∧ l.f i ≤ m then none else some ()
def aqb (P : Sq qA) (p : Sq Int) (i : Nat) : Prop := (P.f i).Surface = true → p.f i = 0
def sumP (P : Sq qA) (R : Sq qC) (q : Sq Int) (i : Nat) : Prop := (P.f i).Surface = false → net R q i R.n = 0
def aqf (a : SAir) (s : qz) (x : yV) (j : Nat) : Prop := ((a.Mine.Roads.f j).Closed = true → x.Flows.f j = 0) ∧ ((a.Mine.Roads.f j).Closed = false →
  (aiS a s j (x.Flows.f j)).1 ≤ x.Pressures.f (a.Mine.Roads.f j).From.toNat - x.Pressures.f (a.Mine.Roads.f j).To.toNat ∧ x.Pressures.f (a.Mine.Roads.f j).From.toNat - x.Pressures.f (a.Mine.Roads.f j).To.toNat ≤ (aiS a s j (x.Flows.f j)).2)
open Classical in
def apj (a : SAir) (s : qz) (x : yV) : Int :=
  if airE a ≠ 0 then airE a else if aiR a s = false then 21 else if x.Pressures.n ≠ a.Mine.Places.n then 11 else if x.Flows.n ≠ a.Mine.Roads.n then 11
  else if bn (gW x.Pressures 70368744177664) x.Pressures.n 0 ≠ none then 1 else if bn (gW x.Flows 1048576) x.Flows.n 0 ≠ none then 1
  else if (∀ i, i < a.Mine.Places.n → aqb a.Mine.Places x.Pressures i) ∧ (∀ j, j < a.Mine.Roads.n → aqf a s x j) ∧ ∀ i, i < a.Mine.Places.n → sumP a.Mine.Places a.Mine.Roads x.Flows i then 0 else 10
theorem apl {l : Sq Int} {m : Int} (h : bn (gW l m) l.n 0 = none) : ∀ i, i < l.n → -m ≤ l.f i ∧ l.f i ≤ m := by
  intro i hi
  have := oh h i (Nat.zero_le _) (by omega)
  unfold gW at this
  split at this
  · assumption
  · cases this
theorem MdD.zero {a : SAir} {s : qz} {x : yV} (h : MdD a s x) : apj a s x = 0 := by
  obtain ⟨sh, s0, _, _, hP, hp, hq, hE, _⟩ := h.e
  have hqn := hq.qn
  have hpn := hp.nn
  unfold apj
  rw [if_neg (not_not_intro (hE.air h.mine)), if_neg (by rw [h.right]; simp), if_neg (not_not_intro hpn), if_neg (not_not_intro hqn), oL fun i _ hi => ?_, if_neg (not_not_intro rfl), oL fun i _ hi => ?_, if_neg (not_not_intro rfl), if_pos]
  · refine ⟨fun i hi c => ?_, fun j hj => ⟨fun c => ?_, fun _ => h.fits hj⟩, fun i hi c => ?_⟩
    · rw [(hP.f i hi).1] at c
      exact hp.z i (Nat.le_of_ble_eq_true c)
    · exact (hq.r j hj).z c
    · rw [(hP.f i hi).1] at c
      refine hq.e i ?_ hi
      by_cases d : i < sh
      · rw [ajf d] at c; cases c
      · omega
  · unfold gW
    have := (hq.r i (by omega)).q0
    have := (hq.r i (by omega)).q1
    rw [if_pos (by omega)]
  · unfold gW
    have := hp.f i (by omega)
    rw [if_pos (by omega)]
theorem MdD.fit {a : SAir} {s : qz} {x : yV} (h : MdD a s x) : aot a s x.Pressures x.Flows := by
  have z := h.zero
  unfold apj at z
  split at z
  · rename_i c; exact absurd z c
  · split at z
    · cases z
    · split at z
      · cases z
      · split at z
        · cases z
        · rename_i h4
          split at z
          · cases z
          · split at z
            · cases z
            · rename_i h6
              have qb := apl (Classical.not_not.1 h6)
              split at z
              · rename_i q
                exact ⟨fun i hi e => q.1 i hi e, fun j hj e => (q.2.1 j hj).2 e, fun j hj e => (q.2.1 j hj).1 e, fun j hj => qb j (by omega), fun i hi e => q.2.2 i hi e⟩
              · cases z
end
end Go.Proofs.YtimkpfnbkclclaaGreat.Ab
namespace Go.Proofs.YtimkpfnbkclclaaGreat.Ab
open Go
theorem asc (f : qB) : Rk f = some (dirV f) := by
  rw [afg]; unfold MK dirV
  by_cases c1 : f.Low > f.High
  · rw [qo (decide_eq_true c1), if_pos c1]; rfl
  rw [qm (decide_eq_false c1), if_neg c1]
  by_cases c2 : f.Low > 0
  · rw [qo (decide_eq_true c2), if_pos c2]; rfl
  rw [qm (decide_eq_false c2), if_neg c2]
  by_cases c3 : f.High < 0
  · rw [qo (decide_eq_true c3), if_pos c3]; rfl
  · rw [qm (decide_eq_false c3), if_neg c3]; rfl
theorem asi (F : Sq qB) {l : Sq rW} (ln : l.n ≤ 1000) (h : ∀ j, j < l.n → NdOK (l.f j)) : ∃ r, abu F l = some r ∧ r.n = l.n ∧ ∀ j, j < l.n → r.f j = fedV F (l.f j) := by
  obtain ⟨z, hz, y, rfl, yn, yf⟩ := pY (step := fun v : Sq Int × Int => ML F l v.1 v.2)
    (fun v => ∃ k : Nat, v.2 = k ∧ k ≤ l.n ∧ v.1.n = k ∧ ∀ j, j < k → v.1.f j = fedV F (l.f j)) (fun v => l.n - v.2.toNat)
    (fun z => ∃ y, z = .inl y ∧ y.n = l.n ∧ ∀ j, j < l.n → y.f j = fedV F (l.f j)) (fun v hv => by
      obtain ⟨o, x⟩ := v
      obtain ⟨k, h1, hk, hl, hf⟩ := hv
      dsimp only at h1 hl hf ⊢
      subst h1
      unfold ML
      rcases Nat.lt_or_ge k l.n with hi | hi
      · obtain ⟨n0, n1⟩ := h k hi
        have w : wr (0 - (l.f k).Need) = -(l.f k).Need := by rw [pJ (by omega) (by omega)]; omega
        have ms : l.n - (wr ((k : Int) + 1)).toNat < l.n - (k : Int).toNat := by rw [qc (by omega)]; omega
        have room : decide ((o.n + 1) * 8 ≤ 140737488355328 ∧ (o.n + 1) ≤ 1099511627776) = true := decide_eq_true ⟨by omega, by omega⟩
        have nx : ∀ S : Int, fedV F (l.f k) = S → ∃ k2 : Nat, wr ((k : Int) + 1) = k2 ∧ k2 ≤ l.n ∧ o.n + 1 = k2 ∧ ∀ j, j < k2 → cond (Nat.blt j o.n) (o.f j) S = fedV F (l.f j) := fun S hS => by
          refine ⟨k + 1, qc (by omega), hi, by omega, fun j hj => ?_⟩
          by_cases c : j < o.n
          · rw [ajf c]; exact hf j (by omega)
          · rw [ajl (by omega), show j = k by omega, hS]; rfl
        rw [qo (dlt hi), qo (dix hi), pI]
        by_cases c1 : (l.f k).Road ≥ 0
        case neg =>
          rw [qm (decide_eq_false c1), qo room]
          exact ⟨_, rfl, nx 0 (by unfold fedV; rw [if_pos (by omega)]), ms⟩
        rw [qo (decide_eq_true c1)]
        by_cases c2 : (l.f k).Road < F.n
        case neg =>
          rw [qm (decide_eq_false c2), qo room]
          exact ⟨_, rfl, nx 0 (by unfold fedV; rw [if_pos (by omega)]), ms⟩
        have ix : decide ((0 : Int) ≤ (l.f k).Road ∧ (l.f k).Road < ((F.n : Nat) : Int)) = true := decide_eq_true ⟨c1, c2⟩
        have q0 : ¬ ¬ (0 ≤ (l.f k).Road ∧ (l.f k).Road < F.n) := by omega
        rw [qo (decide_eq_true c2), qo ix, qo ix]
        by_cases c3 : (F.f (l.f k).Road.toNat).Low ≤ (F.f (l.f k).Road.toNat).High
        case neg =>
          rw [qm (decide_eq_false c3), qo room]
          exact ⟨_, rfl, nx 0 (by unfold fedV; rw [if_neg q0, if_pos (by omega)]), ms⟩
        have q1 : ¬ (F.f (l.f k).Road.toNat).Low > (F.f (l.f k).Road.toNat).High := by omega
        rw [qo (decide_eq_true c3), qo ix]
        by_cases c4 : (l.f k).Need ≤ 0
        · rw [qo (decide_eq_true c4), qo room]
          exact ⟨_, rfl, nx 1 (by unfold fedV; rw [if_neg q0, if_neg q1, if_pos (.inl c4)]), ms⟩
        rw [qm (decide_eq_false c4)]
        by_cases c5 : (F.f (l.f k).Road.toNat).Low ≥ (l.f k).Need
        · rw [qo (decide_eq_true c5), qo room]
          exact ⟨_, rfl, nx 1 (by unfold fedV; rw [if_neg q0, if_neg q1, if_pos (.inr (.inl c5))]), ms⟩
        rw [qm (decide_eq_false c5), w]
        by_cases c6 : (F.f (l.f k).Road.toNat).High ≤ -(l.f k).Need
        · rw [qo (decide_eq_true c6), qo room]
          exact ⟨_, rfl, nx 1 (by unfold fedV; rw [if_neg q0, if_neg q1, if_pos (.inr (.inr c6))]), ms⟩
        have q2 : ¬ ((l.f k).Need ≤ 0 ∨ (F.f (l.f k).Road.toNat).Low ≥ (l.f k).Need ∨ (F.f (l.f k).Road.toNat).High ≤ -(l.f k).Need) := by omega
        rw [qm (decide_eq_false c6)]
        by_cases c7 : (F.f (l.f k).Road.toNat).Low > -(l.f k).Need
        · rw [qo (decide_eq_true c7)]
          by_cases c8 : (F.f (l.f k).Road.toNat).High < (l.f k).Need
          · rw [qo (decide_eq_true c8), qo room]
            exact ⟨_, rfl, nx (-1) (by unfold fedV; rw [if_neg q0, if_neg q1, if_neg q2, if_pos ⟨c7, c8⟩]), ms⟩
          · rw [qm (decide_eq_false c8), qo room]
            exact ⟨_, rfl, nx 0 (by unfold fedV; rw [if_neg q0, if_neg q1, if_neg q2, if_neg fun q => c8 q.2]), ms⟩
        · rw [qm (decide_eq_false c7), qo room]
          exact ⟨_, rfl, nx 0 (by unfold fedV; rw [if_neg q0, if_neg q1, if_neg q2, if_neg fun q => c7 q.1]), ms⟩
      · obtain rfl : k = l.n := by omega
        rw [qm (dge (by omega))]
        exact ⟨_, rfl, _, rfl, hl, hf⟩)
    (⟨0, fun _ => 0⟩, 0) ⟨0, rfl, Nat.zero_le _, rfl, fun j hj => absurd hj (Nat.not_lt_zero _)⟩
  rw [aiA]; unfold abw
  rw [pV (by rw [ag6]; exact hz)]
  exact ⟨y, rfl, yn, yf⟩
theorem asj (F : Sq qB) {l : Sq rW} (ln : l.n ≤ 1000) (h : ∀ j, j < l.n → NdOK (l.f j)) : ∃ x y, Jb F l = some x ∧ abu F l = some y ∧ Gc x y = some true := by
  obtain ⟨x, ex, xn, xf⟩ := aqN F ln h
  obtain ⟨y, ey, yn, yf⟩ := asi F ln h
  exact ⟨x, y, ex, ey, aqE (by omega) (by omega) fun j hj => by rw [xf j (by omega), yf j (by omega)]⟩
theorem asr (codes : Sq Int) (raw : Sq qB) {l : Sq rW} (hm : l.n ≤ 30) : Cn codes raw l 0 = some (.inr true) ∨ (Cn codes raw l 0 = some (.inl ()) ∧ ∀ i, i < l.n → NdOK (l.f i)) := by
  obtain ⟨z, hz, g⟩ := pY (step := fun v : Int => yX codes raw l v)
    (fun v => ∃ k : Nat, v = k ∧ k ≤ l.n ∧ ∀ j, j < k → NdOK (l.f j)) (fun v => l.n - v.toNat)
    (fun z => z = .inr true ∨ (z = .inl () ∧ ∀ i, i < l.n → NdOK (l.f i))) (fun v hv => by
      obtain ⟨k, rfl, hk, hf⟩ := hv
      unfold yX
      rcases Nat.lt_or_ge k l.n with hi | hi
      · rw [qo (dlt hi), qo (dix hi), pI]
        by_cases c1 : (l.f k).Need < -1099511627776
        · rw [qo (decide_eq_true c1), get_bind arF]; exact ⟨_, rfl, .inl rfl⟩
        rw [qm (decide_eq_false c1)]
        by_cases c2 : (l.f k).Need > 1099511627776
        · rw [qo (decide_eq_true c2), get_bind arF]; exact ⟨_, rfl, .inl rfl⟩
        rw [qm (decide_eq_false c2)]
        refine ⟨_, rfl, ⟨k + 1, qc (by omega), hi, fun j hj => ?_⟩, by rw [qc (by omega)]; omega⟩
        rcases Nat.lt_or_ge j k with c | c
        · exact hf j c
        · rw [show j = k by omega]; unfold NdOK; omega
      · obtain rfl : k = l.n := by omega
        rw [qm (dge (by omega))]
        exact ⟨_, rfl, .inr ⟨rfl, hf⟩⟩)
    0 ⟨0, rfl, Nat.zero_le _, fun j hj => absurd hj (Nat.not_lt_zero _)⟩
  rw [Y2]
  rcases g with rfl | ⟨rfl, g⟩
  · exact .inl hz
  · exact .inr ⟨hz, g⟩
theorem ar1 (codes : Sq Int) (hb : ∀ k, 0 ≤ codes.f k ∧ codes.f k ≤ 255) (raw : Sq qB) (faces : Sq rW) : (DY codes raw faces).get = some true := by
  unfold DY
  by_cases c1 : ((raw.n : Nat) : Int) > 30
  · rw [qo (decide_eq_true c1), get_bind arF]; rfl
  rw [qm (decide_eq_false c1)]
  by_cases c2 : ((faces.n : Nat) : Int) > 30
  · rw [qo (decide_eq_true c2), get_bind arF]; rfl
  rw [qm (decide_eq_false c2)]
  have k1 : Dq codes raw faces 0 = some (.inl ()) := by
    rw [ZV]
    refine (oM (step := fun v => zl codes raw faces v) (n := raw.n) (fun _ => none) (fun i hi => ?_) ?_ raw.n 0 (Nat.zero_add _)).trans ?_
    · unfold zl
      rw [qo (dlt hi), qo (dix hi), get_bind (aqs _), get_bind (asc _), qm (by simp), qc (by omega)]; rfl
    · unfold zl
      rw [qm (dge (Nat.le_refl _))]; rfl
    · rw [oL fun _ _ _ => rfl]
  rw [pV k1]
  dsimp only [Sum.elim]
  rcases asr codes raw (l := faces) (by omega) with e | ⟨e, nd⟩
  · rw [pV e]; rfl
  rw [pV e]
  dsimp only [Sum.elim]
  obtain ⟨c, e0, hc⟩ := aqk codes hb
  obtain ⟨a, s, x, b, e1, b0, b1, md⟩ := aos hc
  have nr := md.nr
  obtain ⟨_, qn⟩ := md.lens
  obtain ⟨F, b2, e2, p0, p1, Fn, _⟩ := arl (hc.at b0 b1) (q := x.Flows) (by omega) fun j hj => md.fit.qb j (by omega)
  obtain ⟨fs, b3, e3, q0, q1, fn, ff⟩ := ark (hc.at p0 p1) a (by omega)
  obtain ⟨u, v, f1, f2, f3⟩ := asj raw (l := faces) (by omega) nd
  obtain ⟨u', v', g1, g2, g3⟩ := asj F (l := fs) (by omega) fun j hj => by have := ff j hj; unfold NdOK; omega
  have ef : adX ⟨c.l_, b2⟩ a F = some (true, b3) := by
    rw [aiy]; unfold aa0
    rw [get_bind e3, get_bind g1, get_bind g2, get_bind g3]; rfl
  rw [get_bind e0, get_bind e1]
  dsimp only
  rw [get_bind e2, get_bind f1, get_bind f2, get_bind f3, qo rfl]
  dsimp only
  rw [get_bind ef, qo rfl, get_bind arF]; rfl
end Go.Proofs.YtimkpfnbkclclaaGreat.Ab
