/- A part of the proof, what is needed of it. -/
import Derived.Test.YtimkpfnbkclclaaGreatPk16
import Derived.Test.YtimkpfnbkclclaaGreatPk19
import Derived.Test.YtimkpfnbkclclaaGreatPk22
import Derived.Test.YtimkpfnbkclclaaGreatPk23
import Derived.Test.YtimkpfnbkclclaaGreatPk24
import Derived.Test.YtimkpfnbkclclaaGreatPk27
import Derived.Test.YtimkpfnbkclclaaGreatPk30
import Derived.Test.YtimkpfnbkclclaaGreatPk31
namespace Go.Proofs.YtimkpfnbkclclaaGreat.Ab
noncomputable section
open Go
attribute [local irreducible] arun
def Tt (a : SAir) (s : qz) (b : qL) (road : Int) : DT (qB) :=
 .ite (decide ((0 : Int) ≤ road ∧ road < ((a.Mine.Roads.n : Nat) : Int))) (
 .ite (decide ((0 : Int) ≤ (a.Mine.Roads.f (Int.toNat road)).From ∧ (a.Mine.Roads.f (Int.toNat road)).From < ((b.Low.n : Nat) : Int))) (
 .ite (decide ((0 : Int) ≤ (a.Mine.Roads.f (Int.toNat road)).To ∧ (a.Mine.Roads.f (Int.toNat road)).To < ((b.High.n : Nat) : Int))) (
 .bind (Jj a s road (wr ((b.Low.f (Int.toNat (a.Mine.Roads.f (Int.toNat road)).From)) - (b.High.f (Int.toNat (a.Mine.Roads.f (Int.toNat road)).To))))) fun z0 =>
 .ite (decide ((0 : Int) ≤ (a.Mine.Roads.f (Int.toNat road)).From ∧ (a.Mine.Roads.f (Int.toNat road)).From < ((b.High.n : Nat) : Int))) (
 .ite (decide ((0 : Int) ≤ (a.Mine.Roads.f (Int.toNat road)).To ∧ (a.Mine.Roads.f (Int.toNat road)).To < ((b.Low.n : Nat) : Int))) (
 .bind (Jj a s road (wr ((b.High.f (Int.toNat (a.Mine.Roads.f (Int.toNat road)).From)) - (b.Low.f (Int.toNat (a.Mine.Roads.f (Int.toNat road)).To))))) fun z1 =>
 .leaf (qB.mk z0.Low z1.High)) (
 .fail)) (
 .fail)) (
 .fail)) (
 .fail)) (
 .fail)
def yP : FnM := flM (SAir × qz × qL × Int) (qB) (fun p => ([.agg (SAir.enc p.1), .agg (qz.enc p.2.1), .agg (qL.enc p.2.2.1), .int .i64 p.2.2.2], [])) (fun p => Tt p.1 p.2.1 p.2.2.1 p.2.2.2) (fun r => .agg (qB.enc r)) (fun _ => rfl)
def ZQ : Env := envM [(111, yu.c)] [] [] [] [] 0
theorem Wn : aI Tryz.prog 74 yP.c := yP.tells Tryz.func74 (show ∀ p, arun ZQ Tryz.f74 (yP.enc p).1 (yP.enc p).2 = _ from fun p => by kernel_rfl) p8 (.cons LZ .nil)
def YW (a : SAir) (s : qz) (b : qL) (road : Int) : Option (qB) := yP.val (a, s, b, road)
theorem agT (a : SAir) (s : qz) (b : qL) (road : Int) : YW a s b road = (Tt a s b road).get := yP.val_eq (fun x => (SAir.dec (aggL (gd x.1 0)), qz.dec (aggL (gd x.1 1)), qL.dec (aggL (gd x.1 2)), intA (gd x.1 3))) (fun p => by kernel_rfl) (a, s, b, road)
def GI (u6_0 : Sq qC) (u6_2 : Sq qA) (u6_3 : Sq SFan) (u6_4 : Sq qD) (u6_5 u6_6 u6_7 u6_8 u6_9 : Sq Int) (u6_10 : Sq qB) (u6_11 : Int) : DT (LR ((Sq qB) × Int) ((Sq qB)) (Unit)) :=
 .ite (decide (u6_11 < ((u6_0.n : Nat) : Int))) (
 .ite (decide ((0 : Int) ≤ u6_11 ∧ u6_11 < ((u6_0.n : Nat) : Int))) (
 .ite (u6_0.f (Int.toNat u6_11)).Closed (
 .ite (decide ((0 : Int) ≤ u6_11 ∧ u6_11 < ((u6_10.n : Nat) : Int))) (
 .leaf (.next ((Sq.mk u6_10.n (fun k0 => (qB.mk (cond (Nat.beq k0 (Int.toNat u6_11)) (0 : Int) (u6_10.f k0).Low) (cond (Nat.beq k0 (Int.toNat u6_11)) (0 : Int) (u6_10.f k0).High)))), (wr (u6_11 + (1 : Int)))))) (
 .fail)) (
 .bind (slices_Contains u6_9 (u6_0.f (Int.toNat u6_11)).From) fun z0 =>
 .ite z0 (
 .ite (decide ((0 : Int) ≤ u6_11 ∧ u6_11 < ((u6_10.n : Nat) : Int))) (
 .leaf (.next ((Sq.mk u6_10.n (fun k1 => (qB.mk (cond (Nat.beq k1 (Int.toNat u6_11)) (-1125899906842624 : Int) (u6_10.f k1).Low) (cond (Nat.beq k1 (Int.toNat u6_11)) (1125899906842624 : Int) (u6_10.f k1).High)))), (wr (u6_11 + (1 : Int)))))) (
 .fail)) (
 .bind (YW (SAir.mk (qI.mk u6_2 u6_0) u6_3 u6_4) (qz.mk u6_5 u6_6) (qL.mk u6_7 u6_8) u6_11) fun z1 =>
 .ite (decide ((0 : Int) ≤ u6_11 ∧ u6_11 < ((u6_10.n : Nat) : Int))) (
 .leaf (.next ((Sq.mk u6_10.n (fun k2 => (qB.mk (cond (Nat.beq k2 (Int.toNat u6_11)) z1.Low (u6_10.f k2).Low) (cond (Nat.beq k2 (Int.toNat u6_11)) z1.High (u6_10.f k2).High)))), (wr (u6_11 + (1 : Int)))))) (
 .fail)))) (
 .fail)) (
 .leaf (.l u6_10))
def yw : LpM := ⟨(Sq qC) × (Sq qA) × (Sq SFan) × (Sq qD) × (Sq Int) × (Sq Int) × (Sq Int) × (Sq Int) × (Sq Int), (Sq qB) × Int, (Sq qB), Unit, fun p => ⟨[(3, .ptr 0 0), (4, .ptr 64 0), (5, .ptr 128 0), (7, .own 768 0), (8, .own 1152 0), (26, sqA 10 qC.enc p.1.1), (27, .int .i64 ((p.1.1.n : Nat) : Int)), (28, .int .i64 p.2.2)], [(0, .var [sqA 2 qA.enc p.1.2.1, sqA 10 qC.enc p.1.1, sqA 4 SFan.enc p.1.2.2.1, sqA 3 qD.enc p.1.2.2.2.1]), (64, .var [sqA 1 (eI .i64) p.1.2.2.2.2.1, sqA 1 (eI .i64) p.1.2.2.2.2.2.1]), (128, .var [sqA 1 (eI .i64) p.1.2.2.2.2.2.2.1, sqA 1 (eI .i64) p.1.2.2.2.2.2.2.2.1]), (768, rowA 0 1 3 (eI .i64) p.1.2.2.2.2.2.2.2.2), (1152, rowA 0 2 51 qB.enc p.2.1)], 1600⟩, fun f v => GI f.1 f.2.1 f.2.2.1 f.2.2.2.1 f.2.2.2.2.1 f.2.2.2.2.2.1 f.2.2.2.2.2.2.1 f.2.2.2.2.2.2.2.1 f.2.2.2.2.2.2.2.2 v.1 v.2, true, (.exit 0), (fun x a => ⟨[(8, .own 1152 0)], [(0, blkS x 0), (64, blkS x 64), (128, blkS x 128), (768, blkS x 768), (1152, rowA 0 2 51 qB.enc a)], 1600⟩), .ret, (fun _ _ => ⟨[], [], 0⟩), c1, c1k⟩
def Oh (u6_0 : Sq qC) (u6_2 : Sq qA) (u6_3 : Sq SFan) (u6_4 : Sq qD) (u6_5 u6_6 u6_7 u6_8 u6_9 : Sq Int) (u6_10 : Sq qB) (u6_11 : Int) : Option (((Sq qB)) ⊕ (Unit)) := yw.val ((u6_0, u6_2, u6_3, u6_4, u6_5, u6_6, u6_7, u6_8, u6_9), (u6_10, u6_11))
theorem aeF (u6_0 : Sq qC) (u6_2 : Sq qA) (u6_3 : Sq SFan) (u6_4 : Sq qD) (u6_5 u6_6 u6_7 u6_8 u6_9 : Sq Int) (u6_10 : Sq qB) (u6_11 : Int) : Oh u6_0 u6_2 u6_3 u6_4 u6_5 u6_6 u6_7 u6_8 u6_9 u6_10 u6_11 = fixO (fun v : (Sq qB) × Int => GI u6_0 u6_2 u6_3 u6_4 u6_5 u6_6 u6_7 u6_8 u6_9 v.1 v.2) (u6_10, u6_11) := yw.val_eq (fun x => ((sqD qC.dec (aget x.tm 26), sqD qA.dec (cellS x 0 0), sqD SFan.dec (cellS x 0 2), sqD qD.dec (cellS x 0 3), sqD dI (cellS x 64 0), sqD dI (cellS x 64 1), sqD dI (cellS x 128 0), sqD dI (cellS x 128 1), sqB dI (blkS x 768)), (sqB qB.dec (blkS x 1152), intA (aget x.tm 28)))) (fun p => by kernel_rfl) ((u6_0, u6_2, u6_3, u6_4, u6_5, u6_6, u6_7, u6_8, u6_9), (u6_10, u6_11))
def Qc (a : SAir) (s : qz) (b : qL) : DT ((Sq qB)) :=
 .bind (Nk a s b) fun z2 =>
 .ite (z2 != (0 : Int)) (
 .leaf (Sq.mk 0 (fun _ => (qB.mk (0 : Int) (0 : Int))))) (
 .bind (Nu a.Mine) fun z3 =>
 .ite (decide ((0 : Int) ≤ ((a.Mine.Roads.n : Nat) : Int) ∧ ((a.Mine.Roads.n : Nat) : Int) ≤ ((a.Mine.Roads.n : Nat) : Int) ∧ ((a.Mine.Roads.n : Nat) : Int) * ((16 : Nat) : Int) ≤ 140737488355328 ∧ ((a.Mine.Roads.n : Nat) : Int) ≤ 1099511627776)) (
 .sum (Oh a.Mine.Roads a.Mine.Places a.Fans a.Doors s.Fans s.Doors b.Low b.High z3 (Sq.mk (Int.toNat ((a.Mine.Roads.n : Nat) : Int)) (fun _ => (qB.mk (0 : Int) (0 : Int)))) (0 : Int)) (fun y0 =>
 .leaf y0) (fun _ => .fail)) (
 .fail))
def wX : FnM := nfM (SAir × qz × qL) ((Sq qB)) (fun p => ([.agg (SAir.enc p.1), .agg (qz.enc p.2.1), .agg (qL.enc p.2.2)], [])) (fun p => Qc p.1 p.2.1 p.2.2) (fun _ => .own 0 0) (fun _ r => [rowA 0 2 51 qB.enc r])
def Mh : Env := envM [(71, vJ.c), (72, wD.c), (73, rT.c), (74, yP.c)] [(6, [3, 4, 5, 7, 8, 26, 27, 28], [8])] [(6, yw.c)] [(2000000, [.asrow 576 51 2 (fun _ => qB.enc (qB.mk (0 : Int) (0 : Int)))])] [(6, [0, 64, 128, 768, 1152])] 0
def aaE : Env := { Mh with nt := 59 }
theorem O7 : aQ aaE (qd 6 Tryz.f41) yw.c := yw.tells 1600 (fun _ => by kernel_rfl) (fun _ _ _ _ => by kernel_rfl) (fun _ _ _ _ => by kernel_rfl) fun R f v N K => by kernel_rfl
theorem U8 : aI Tryz.prog 41 wX.c := wX.tells Tryz.func41 (show ∀ p, arun Mh Tryz.f41 (wX.enc p).1 (wX.enc p).2 = _ from fun p => by kernel_rfl) (qg [qd 6 Tryz.f41] (by kernel_rfl) ⟨lpT (by kernel_rfl) O7, trivial⟩) (.cons Jr (.cons Ga (.cons yJ (.cons Wn .nil))))
def Wm (a : SAir) (s : qz) (b : qL) : Option ((Sq qB)) := wX.val (a, s, b)
theorem agj (a : SAir) (s : qz) (b : qL) : Wm a s b = (Qc a s b).get := wX.val_eq (fun x => (SAir.dec (aggL (gd x.1 0)), qz.dec (aggL (gd x.1 1)), qL.dec (aggL (gd x.1 2)))) (fun p => by kernel_rfl) (a, s, b)
end
end Go.Proofs.YtimkpfnbkclclaaGreat.Ab
namespace Go.Proofs.YtimkpfnbkclclaaGreat.Ab
open Go
theorem amo {a : SAir} {s : qz} (rt : aiR a s = true) {j : Nat} (hj : j < a.Mine.Roads.n) (hc : (a.Mine.Roads.f j).Closed = false) (p : Int) : ∃ S, Jj a s (j : Int) p = some S ∧ S.Low = flL a s j p ∧ S.High = flH a s j p := by
  have ok := aiU rt
  rcases akb a s (j : Int) p with ⟨_, S, eS, hS⟩ | ⟨n, _⟩
  · rw [pI] at hS
    refine ⟨S, eS, ?_, (ak4 ok hj p).2.eq hS.h ▸ rfl⟩
    have := (ak5 ok hj p).2.eq hS.l
    omega
  · exact absurd ⟨rt, by omega, by omega, by rw [pI]; exact hc⟩ n
theorem ak2 (a : SAir) (s : qz) (b : qL) (h12 : a.Mine.Places.n ≤ 12) : ∃ l, Wm a s b = some l ∧ (aje a s b ≠ 0 → l.n = 0) ∧ (aje a s b = 0 → l.n = a.Mine.Roads.n ∧ ∀ j, j < a.Mine.Roads.n → l.f j = ajN a s b j) := by
  rw [agj]; unfold Qc
  rw [get_bind (ajP a s b h12)]
  by_cases c : aje a s b = 0
  · obtain ⟨rt, h⟩ := al0 c
    have ok := h.r
    have nr := ok.m.nr
    have np := ok.m.np
    have ln := h.ln
    have hn := h.hn
    obtain ⟨lo, elo, cn, hlo⟩ := amV ok.m h12
    have key := pY (step := fun v : Sq qB × Int => GI a.Mine.Roads a.Mine.Places a.Fans a.Doors s.Fans s.Doors b.Low b.High lo v.1 v.2)
      (fun v => ∃ k : Nat, v.2 = k ∧ k ≤ a.Mine.Roads.n ∧ v.1.n = a.Mine.Roads.n ∧ ∀ j, j < k → v.1.f j = ajN a s b j) (fun v => a.Mine.Roads.n - v.2.toNat)
      (fun z => ∃ y, z = .inl y ∧ y.n = a.Mine.Roads.n ∧ ∀ j, j < a.Mine.Roads.n → y.f j = ajN a s b j) (fun v hv => by
        obtain ⟨l, x⟩ := v
        obtain ⟨k, h1, hk, hl, hf⟩ := hv
        dsimp only at h1 hl hf ⊢
        subst h1
        unfold GI
        rcases Nat.lt_or_ge k a.Mine.Roads.n with hi | hi
        · have re := ai2 ok.m hi
          have ms : a.Mine.Roads.n - (wr ((k : Int) + 1)).toNat < a.Mine.Roads.n - (k : Int).toNat := by rw [qc (by omega)]; omega
          have nx : ∀ S : qB, S = ajN a s b k → ∃ k2 : Nat, wr ((k : Int) + 1) = k2 ∧ k2 ≤ a.Mine.Roads.n ∧ l.n = a.Mine.Roads.n ∧ ∀ j, j < k2 → qB.mk (cond (Nat.beq j k) S.Low (l.f j).Low) (cond (Nat.beq j k) S.High (l.f j).High) = ajN a s b j := fun S hS => by
            refine ⟨k + 1, qc (by omega), hi, hl, fun j hj => ?_⟩
            by_cases q : j = k
            · rw [ajw q, q, ← hS]; rfl
            · rw [ajM q]; exact hf j (by omega)
          rw [qo (dlt hi), qo (dix hi), pI]
          cases ec : (a.Mine.Roads.f k).Closed with
          | true =>
            rw [qo rfl, qo (dix (by omega))]
            exact ⟨_, rfl, nx ⟨0, 0⟩ (by unfold ajN; rw [if_pos ec]), ms⟩
          | false =>
            have bF := h.lr (a.Mine.Roads.f k).From.toNat (by omega)
            have bT := h.lr (a.Mine.Roads.f k).To.toNat (by omega)
            have cF := h.hr (a.Mine.Roads.f k).From.toNat (by omega)
            have cT := h.hr (a.Mine.Roads.f k).To.toNat (by omega)
            obtain ⟨z, ez, hz⟩ := alX lo (a.Mine.Roads.f k).From cn
            have hz' := hz.trans (hlo _ re.1 re.2.1)
            have nc : ¬ (a.Mine.Roads.f k).Closed = true := by rw [ec]; simp
            rw [qm rfl, get_bind ez]
            cases z with
            | true =>
              rw [qo rfl, qo (dix (by omega))]
              exact ⟨_, rfl, nx ⟨-1125899906842624, 1125899906842624⟩ (by unfold ajN; rw [if_neg nc, if_neg (hz'.1 rfl)]), ms⟩
            | false =>
              have aw : Aw a.Mine (a.Mine.Roads.f k).From := Classical.byContradiction fun n => by cases hz'.2 n
              have ef : ∃ S, YW a s b (k : Int) = some S ∧ S.Low = flL a s k (b.Low.f (a.Mine.Roads.f k).From.toNat - b.High.f (a.Mine.Roads.f k).To.toNat) ∧ S.High = flH a s k (b.High.f (a.Mine.Roads.f k).From.toNat - b.Low.f (a.Mine.Roads.f k).To.toNat) := by
                rw [agT]; unfold Tt
                rw [qo (dix hi), pI, qo (decide_eq_true ⟨re.1, by omega⟩), qo (decide_eq_true ⟨re.2.2.1, by omega⟩), pJ (x := b.Low.f (a.Mine.Roads.f k).From.toNat - b.High.f (a.Mine.Roads.f k).To.toNat) (by omega) (by omega)]
                obtain ⟨S1, e1, l1, h1⟩ := amo rt hi ec (b.Low.f (a.Mine.Roads.f k).From.toNat - b.High.f (a.Mine.Roads.f k).To.toNat)
                obtain ⟨S2, e2, l2, h2⟩ := amo rt hi ec (b.High.f (a.Mine.Roads.f k).From.toNat - b.Low.f (a.Mine.Roads.f k).To.toNat)
                rw [get_bind e1, qo (decide_eq_true ⟨re.1, by omega⟩), qo (decide_eq_true ⟨re.2.2.1, by omega⟩), pJ (x := b.High.f (a.Mine.Roads.f k).From.toNat - b.Low.f (a.Mine.Roads.f k).To.toNat) (by omega) (by omega), get_bind e2]
                exact ⟨_, rfl, l1, h2⟩
              obtain ⟨S, eS, Sl, Sh⟩ := ef
              rw [qm rfl]
              refine amS (x := S) eS ?_
              rw [qo (dix (by omega))]
              refine ⟨_, rfl, nx S ?_, ms⟩
              unfold ajN
              rw [if_neg nc, if_pos aw, ← Sl, ← Sh]
        · obtain rfl : k = a.Mine.Roads.n := by omega
          rw [qm (dge (by omega))]
          exact ⟨_, rfl, _, rfl, hl, hf⟩)
      (⟨a.Mine.Roads.n, fun _ => ⟨0, 0⟩⟩, 0) ⟨0, rfl, Nat.zero_le _, rfl, fun j hj => absurd hj (Nat.not_lt_zero _)⟩
    obtain ⟨z, hz, y, rfl, yn, yf⟩ := key
    rw [c, qm (show ((0 : Int) != 0) = false from rfl), get_bind elo, qo (decide_eq_true ⟨by omega, by omega, by omega, by omega⟩), pI, pV (by rw [aeF]; exact hz)]
    exact ⟨y, rfl, fun n => absurd rfl n, fun _ => ⟨yn, yf⟩⟩
  · rw [qo (by simp [c])]
    exact ⟨_, rfl, fun _ => rfl, fun n => absurd n c⟩
theorem alH {k l : Sq qB} (hn : k.n ≤ 1000) (h : k.n = l.n) (hf : ∀ j, j < k.n → k.f j = l.f j) : Gd k l = some true := by
  rw [ahu]; unfold WZ
  have e : TW k l 0 = some (.inl ()) := by
    rw [afI]
    refine (oM (step := fun v => JC k l v) (n := k.n) (fun _ => none) (fun i hi => ?_) ?_ k.n 0 (Nat.zero_add _)).trans ?_
    · unfold JC
      rw [qo (dlt hi), qo (dix hi), qo (dix (by omega)), pI, hf i hi, qm (by simp), qc (by omega)]; rfl
    · unfold JC
      rw [qm (dge (Nat.le_refl _))]; rfl
    · rw [oL fun _ _ _ => rfl]
  rw [qm (by rw [h]; simp), pV e]; rfl
end Go.Proofs.YtimkpfnbkclclaaGreat.Ab
namespace Go.Proofs.YtimkpfnbkclclaaGreat.Ab
noncomputable section
open Go
attribute [local irreducible] arun
def LD (a : SAir) (s : qz) : DT ((Sq qB) × Int) :=
 .bind (KC a) fun z0 =>
 .ite (z0 != (0 : Int)) (
 .leaf ((Sq.mk 0 (fun _ => (qB.mk (0 : Int) (0 : Int)))), z0)) (
 .bind (GA a s) fun z1 =>
 .ite (!z1) (
 .leaf ((Sq.mk 0 (fun _ => (qB.mk (0 : Int) (0 : Int)))), (21 : Int))) (
 .bind (aby a s) fun z2 =>
 .ite (z2.2 == (2 : Int)) (
 .bind (N7 a.Mine.Roads) fun z3 =>
 .leaf (z3, (0 : Int))) (
 .bind (Wm a s z2.1) fun z4 =>
 .leaf (z4, (0 : Int)))))
def rQ : FnM := nfM (SAir × qz) ((Sq qB) × Int) (fun p => ([.agg (SAir.enc p.1), .agg (qz.enc p.2)], [])) (fun p => LD p.1 p.2) (fun r => .tup [.own 0 0, .int .i64 r.2]) (fun _ r => [rowA 0 2 51 qB.enc r.1])
def UW : Env := envM [(37, vw.c), (38, uD.c), (39, AA.c), (40, uF.c), (41, wX.c)] [] [] [(9, [.freeze 1280, .freeze 1281]), (2000000, [.asrow 640 51 2 (fun _ => qB.enc (qB.mk (0 : Int) (0 : Int))), .asrow 1024 51 2 (fun _ => qB.enc (qB.mk (0 : Int) (0 : Int)))])] [] 0
theorem yj : aI Tryz.prog 12 rQ.c := rQ.tells Tryz.func12 (show ∀ p, arun UW Tryz.f12 (rQ.enc p).1 (rQ.enc p).2 = _ from fun p => by kernel_rfl) p8 (.cons ET (.cons BN (.cons YI (.cons O0 (.cons U8 .nil)))))
def Cc (a : SAir) (s : qz) : Option ((Sq qB) × Int) := rQ.val (a, s)
theorem aeR (a : SAir) (s : qz) : Cc a s = (LD a s).get := rQ.val_eq (fun x => (SAir.dec (aggL (gd x.1 0)), qz.dec (aggL (gd x.1 1)))) (fun p => by kernel_rfl) (a, s)
end
end Go.Proofs.YtimkpfnbkclclaaGreat.Ab
namespace Go.Proofs.YtimkpfnbkclclaaGreat.Ab
noncomputable section
open Go
open Classical in
def anaF (a : SAir) (s : qz) (j : Nat) : qB := if (ai6 a s).2 = 0 then ajN a s (ai6 a s).1 j else if (a.Mine.Roads.f j).Closed = true then ⟨0, 0⟩ else noS
structure Ana (a : SAir) (s : qz) (l : Sq qB) : Prop where
  nn : l.n = a.Mine.Roads.n
  e : ∀ j, j < a.Mine.Roads.n → l.f j = anaF a s j
theorem aqt {R : Sq qC} (nr : R.n ≤ 1000) : ∃ l, N7 R = some l ∧ l.n = R.n ∧ ∀ j, j < R.n → l.f j = if (R.f j).Closed = true then ⟨0, 0⟩ else noS := by
  obtain ⟨z, hz, y, rfl, yn, yf⟩ := pY (step := fun v : Sq qB × Int => Ev R v.1 v.2)
    (fun v => ∃ k : Nat, v.2 = k ∧ k ≤ R.n ∧ v.1.n = R.n ∧ (∀ j, j < k → v.1.f j = if (R.f j).Closed = true then ⟨0, 0⟩ else noS) ∧ ∀ j, k ≤ j → v.1.f j = ⟨0, 0⟩) (fun v => R.n - v.2.toNat)
    (fun z => ∃ y, z = .inl y ∧ y.n = R.n ∧ ∀ j, j < R.n → y.f j = if (R.f j).Closed = true then ⟨0, 0⟩ else noS) (fun v hv => by
      obtain ⟨l, x⟩ := v
      obtain ⟨k, h1, hk, hl, hf, hz⟩ := hv
      dsimp only at h1 hl hf hz ⊢
      subst h1
      unfold Ev
      rcases Nat.lt_or_ge k R.n with hi | hi
      · have ms : R.n - (wr ((k : Int) + 1)).toNat < R.n - (k : Int).toNat := by rw [qc (by omega)]; omega
        rw [qo (dlt hi), qo (dix hi), pI]
        cases ec : (R.f k).Closed with
        | true =>
          rw [qm (b := !true) rfl]
          refine ⟨_, rfl, ⟨k + 1, qc (by omega), hi, hl, fun j hj => ?_, fun j hj => hz j (by omega)⟩, ms⟩
          by_cases q : j = k
          · rw [q, hz k (Nat.le_refl _), if_pos ec]
          · exact hf j (by omega)
        | false =>
          rw [qo (b := !false) rfl, get_bind aql, qo (dix (by omega))]
          refine ⟨_, rfl, ⟨k + 1, qc (by omega), hi, hl, fun j hj => ?_, fun j hj => ?_⟩, ms⟩
          · dsimp only
            by_cases q : j = k
            · rw [ajw q, q, if_neg (by rw [ec]; simp)]; rfl
            · rw [ajM q]; exact hf j (by omega)
          · dsimp only
            rw [ajM (by omega)]; exact hz j (by omega)
      · obtain rfl : k = R.n := by omega
        rw [qm (dge (by omega))]
        exact ⟨_, rfl, _, rfl, hl, hf⟩)
    (⟨R.n, fun _ => ⟨0, 0⟩⟩, 0) ⟨0, rfl, Nat.zero_le _, rfl, fun j hj => absurd hj (Nat.not_lt_zero _), fun _ _ => rfl⟩
  rw [aeC]; unfold Kv
  rw [qo (decide_eq_true ⟨by omega, by omega, by omega, by omega⟩), pI, pV (by rw [adx]; exact hz)]
  exact ⟨y, rfl, yn, yf⟩
theorem aqv {a : SAir} {s : qz} (rt : aiR a s = true) (h12 : a.Mine.Places.n ≤ 12) (h0 : 0 < a.Mine.Places.n) : ∃ l, Cc a s = some (l, 0) ∧ Ana a s l := by
  have ok := aiU rt
  have nr := ok.m.nr
  rw [aeR]; unfold LD
  rw [get_bind (aj9 a), aj7 rt, qm (show ((0 : Int) != 0) = false from rfl), get_bind (ajy a s), rt, qm (b := !true) rfl, get_bind (aqa a s h12 h0)]
  rcases apx rt with c | c
  · obtain ⟨z, _⟩ := aoj c
    obtain ⟨l, el, _, l1⟩ := ak2 a s (ai6 a s).1 h12
    obtain ⟨ln, lf⟩ := l1 z
    rw [qm (by rw [c]; rfl), get_bind el]
    exact ⟨l, rfl, ln, fun j hj => by rw [lf j hj]; unfold anaF; rw [if_pos c]⟩
  · have c2 : (ai6 a s).2 = 2 := by rw [c]
    obtain ⟨y, ey, yn, yf⟩ := aqt (R := a.Mine.Roads) (by omega)
    rw [qo (by rw [c2]; rfl), get_bind ey]
    exact ⟨y, rfl, yn, fun j hj => by rw [yf j hj]; unfold anaF; rw [if_neg (show ¬ (ai6 a s).2 = 0 by rw [c2]; decide)]⟩
theorem arZ {a : SAir} {s : qz} {P Q : Sq Int} (fit : aot a s P Q) {j : Nat} (hj : j < a.Mine.Roads.n) : (anaF a s j).Low ≤ Q.f j ∧ Q.f j ≤ (anaF a s j).High := by
  unfold anaF
  by_cases c : (ai6 a s).2 = 0
  · obtain ⟨_, acc⟩ := al0 (aoj c).1
    rw [if_pos c]; unfold ajN
    split
    · rename_i cl
      have := fit.cl j hj cl
      dsimp only
      omega
    · rename_i cl
      split
      · rename_i aw
        exact acc.flow fit hj (by simpa using cl) aw
      · have := fit.qb j hj
        dsimp only
        omega
  · rw [if_neg c]
    split
    · rename_i cl
      have := fit.cl j hj cl
      dsimp only
      omega
    · have := fit.qb j hj
      unfold noS
      dsimp only
      omega
end
end Go.Proofs.YtimkpfnbkclclaaGreat.Ab
namespace Go.Proofs.YtimkpfnbkclclaaGreat.Ab
open Go
def S0 : qz := ⟨⟨0, fun _ => 0⟩, ⟨0, fun _ => 0⟩⟩
def F0 : Sq SFan := ⟨0, fun _ => ⟨0, false, false, ⟨0, fun _ => ⟨0, 0⟩⟩⟩⟩
def D0 : Sq qD := ⟨0, fun _ => ⟨0, 0, ⟨0, fun _ => 0⟩⟩⟩
def H0 (z : Int) : Sq Int := ⟨2, fun k => cond (Nat.beq k 0) 0 z⟩
end Go.Proofs.YtimkpfnbkclclaaGreat.Ab
namespace Go.Proofs.YtimkpfnbkclclaaGreat.Ab
open Go
theorem arM {a : SAir} {s : qz} (rt : aiR a s = true) {i : Nat} (hi : i < a.Mine.Roads.n) {p z : Int} (z0 : -1000 ≤ z) (z1 : z ≤ 1000) (h : (aiS a s i z).2 ≤ p) (h' : p < (aiS a s i (z + 1)).2) : flL a s i p = z := by
  have ok := aiU rt
  have lt := fun {x y : Int} (hx : -1048577 ≤ x) (h : x < y) (hy : y ≤ 1048577) => (ajo ok hi hx h hy).2
  have c : Cut (fun x => (aiS a s i x).2 > p) (z + 1) := ⟨by omega, by omega, fun x h0 h1 => by
      rcases Int.lt_or_le x z with c | c
      · have := lt (x := x) (y := z) (by omega) c (by omega); omega
      · obtain rfl : x = z := by omega
        omega, fun x h0 h1 => by
      rcases Int.lt_or_le (z + 1) x with c | c
      · have := lt (x := z + 1) (y := x) (by omega) c (by omega); omega
      · obtain rfl : x = z + 1 := by omega
        omega⟩
  have := (ak5 ok hi p).2.eq c
  omega
theorem arL {a : SAir} {s : qz} (rt : aiR a s = true) {i : Nat} (hi : i < a.Mine.Roads.n) {p z : Int} (z0 : -1000 ≤ z) (z1 : z ≤ 1000) (h : (aiS a s i (z - 1)).1 < p) (h' : p ≤ (aiS a s i z).1) : flH a s i p = z := by
  have ok := aiU rt
  have lt := fun {x y : Int} (hx : -1048577 ≤ x) (h : x < y) (hy : y ≤ 1048577) => (ajo ok hi hx h hy).1
  have c : Cut (fun x => (aiS a s i x).1 ≥ p) z := ⟨by omega, by omega, fun x h0 h1 => by
      rcases Int.lt_or_le x (z - 1) with c | c
      · have := lt (x := x) (y := z - 1) (by omega) c (by omega); omega
      · obtain rfl : x = z - 1 := by omega
        omega, fun x h0 h1 => by
      rcases Int.lt_or_le z x with c | c
      · have := lt (x := z) (y := x) (by omega) c (by omega); omega
      · obtain rfl : x = z := by omega
        omega⟩
  exact (ak4 ok hi p).2.eq c
def A1 : SAir := ⟨⟨⟨2, fun k => ⟨cond (Nat.beq k 0) 0 0, cond (Nat.beq k 0) true true⟩⟩, ⟨1, fun _ => ⟨0, 1, 1, 1, false, false, ⟨1, 1⟩, ⟨900, 900⟩⟩⟩⟩, F0, D0⟩
theorem arB : aja A1.Mine := by
  refine ⟨by show 2 ≤ 64; omega, by show 1 ≤ 128; omega, fun i _ => ?_, fun i _ => ?_⟩
  · show -10000 ≤ cond (Nat.beq i 0) (0 : Int) 0 ∧ cond (Nat.beq i 0) (0 : Int) 0 ≤ 10000
    cases Nat.beq i 0 <;> exact ⟨by decide, by decide⟩
  · show akQ ⟨0, 1, 1, 1, false, false, ⟨1, 1⟩, ⟨900, 900⟩⟩ ((2 : Nat) : Int) = 0
    decide
theorem aqC : aiR A1 S0 = true := by
  unfold aiR
  rw [if_pos]
  refine ⟨?_, rfl, rfl, rfl, rfl⟩
  unfold airE
  rw [(ajH _).2 arB, if_neg (by omega)]
  have e1 : ajR A1.Fans A1.Mine.Roads.n = 0 := rfl
  have e2 : ajh A1.Doors = 0 := rfl
  have e3 : aji A1.Doors A1.Mine.Roads.n = 0 := by
    unfold aji
    rw [e2, if_neg (by omega)]; rfl
  rw [e1, if_neg (by omega), e3]
theorem aqS (x : Int) : aiS A1 S0 0 x = ((sqS 1 1 x).1 - 900, (sqS 1 1 x).2 - 900) := rfl
theorem arX (i : Nat) : (A1.Mine.Places.f i).Surface = true := by
  show cond (Nat.beq i 0) true true = true
  cases Nat.beq i 0 <;> rfl
theorem arW (i : Nat) : Fx A1 i := .inl (arX i)
theorem arK : Rng (ajb 2) := fun _ _ => ⟨by show (_ : Int) ≤ 0; omega, by show (0 : Int) ≤ _; omega⟩
theorem aro : aiY A1 S0 (ajb 2) = 0 := ajX aqC ⟨rfl, arK⟩ fun _ _ _ => rfl
theorem A1_v (up : Bool) : aiP A1 S0 (ajb 2) up = (ajb 2, 0) :=
  ai4 aro (show ai1 A1 S0 up (199 + 1) (ajb 2) = _ from akY 199 fun j _ nf => absurd (arW j) nf)
theorem A1_z (up : Bool) : aiP A1 S0 (ajb A1.Mine.Places.n) up = (ajb 2, 0) := A1_v up
theorem arn : ai6 A1 S0 = (⟨ajb 2, ajb 2⟩, 0) := by
  have z : ¬ ((0 : Int) ≠ 0) := fun q => q rfl
  unfold ai6
  simp only [A1_z, A1_v, if_neg z]
theorem arV : Aw A1.Mine (0 : Int) := ⟨0, by omega, by decide, Conn.refl _ _, rfl⟩
theorem arA : ajN A1 S0 ⟨ajb 2, ajb 2⟩ 0 = ⟨30, 30⟩ := by
  unfold ajN
  rw [if_neg (by decide), if_pos (show Aw A1.Mine (A1.Mine.Roads.f 0).From from arV)]
  show qB.mk (flL A1 S0 0 (0 - 0)) (flH A1 S0 0 (0 - 0)) = _
  rw [Int.sub_zero, arM aqC (by decide) (z := 30) (by omega) (by omega) (by rw [aqS]; decide) (by rw [aqS]; decide), arL aqC (by decide) (z := 30) (by omega) (by omega) (by rw [aqS]; decide) (by rw [aqS]; decide)]
end Go.Proofs.YtimkpfnbkclclaaGreat.Ab
namespace Go.Proofs.YtimkpfnbkclclaaGreat.Ab
open Go
theorem aqE {k l : Sq Int} (hn : k.n ≤ 1000) (h : k.n = l.n) (hf : ∀ j, j < k.n → k.f j = l.f j) : Gc k l = some true := by
  rw [ah8]; unfold Zh
  have e : WY k l 0 = some (.inl ()) := by
    rw [agw]
    refine (oM (step := fun v => KS k l v) (n := k.n) (fun _ => none) (fun i hi => ?_) ?_ k.n 0 (Nat.zero_add _)).trans ?_
    · unfold KS
      rw [qo (dlt hi), qo (dix hi), qo (dix (by omega)), pI, hf i hi, qm (by simp), qc (by omega)]; rfl
    · unfold KS
      rw [qm (dge (Nat.le_refl _))]; rfl
    · rw [oL fun _ _ _ => rfl]
  rw [qm (by rw [h]; simp), pV e]; rfl
theorem MdD.lens {a : SAir} {s : qz} {x : yV} (h : MdD a s x) : x.Pressures.n = a.Mine.Places.n ∧ x.Flows.n = a.Mine.Roads.n := by
  obtain ⟨sh, s0, _, _, _, hp, hq, _⟩ := h.e
  exact ⟨hp.nn, hq.qn⟩
theorem MdD.n1 {a : SAir} {s : qz} {x : yV} (h : MdD a s x) : 1 ≤ a.Mine.Places.n := by
  obtain ⟨sh, s0, h1, _, hP, _⟩ := h.e
  have := hP.n
  omega
end Go.Proofs.YtimkpfnbkclclaaGreat.Ab
namespace Go.Proofs.YtimkpfnbkclclaaGreat.Ab
noncomputable section
open Go
attribute [local irreducible] arun
def WB : DT (Bool) :=
 .bind (Cc (SAir.mk (qI.mk (Sq.mk 2 (fun k0 => (qA.mk (cond (Nat.beq k0 0) (0 : Int) (0 : Int)) (cond (Nat.beq k0 0) true true)))) (Sq.mk 1 (fun _ => (qC.mk (0 : Int) (1 : Int) (1 : Int) (1 : Int) false false (qB.mk (1 : Int) (1 : Int)) (qB.mk (900 : Int) (900 : Int)))))) (Sq.mk 0 (fun _ => (SFan.mk (0 : Int) false false (Sq.mk 0 (fun _ => (qH.mk (0 : Int) (0 : Int))))))) (Sq.mk 0 (fun _ => (qD.mk (0 : Int) (0 : Int) (Sq.mk 0 (fun _ => (0 : Int))))))) (qz.mk (Sq.mk 0 (fun _ => (0 : Int))) (Sq.mk 0 (fun _ => (0 : Int))))) fun z0 =>
 .bind (wR (Sq.mk 1 (fun _ => (qB.mk (40 : Int) (60 : Int)))) (Sq.mk 1 (fun _ => (qG.mk (0 : Int) (3 : Int) (0 : Int) (0 : Int) (0 : Int) (0 : Int) (0 : Int) (9 : Int)))) (Sq.mk 2 (fun k1 => (qE.mk (cond (Nat.beq k1 0) (0 : Int) (0 : Int)) (cond (Nat.beq k1 0) (0 : Int) (0 : Int)) (qB.mk (cond (Nat.beq k1 0) (55 : Int) (70 : Int)) (cond (Nat.beq k1 0) (70 : Int) (80 : Int)))))) (1 : Int)) fun z1 =>
 .ite (z0.2 == (0 : Int)) (
 .bind (Gd z0.1 (Sq.mk 1 (fun _ => (qB.mk (30 : Int) (30 : Int))))) fun z2 =>
 .ite z2 (
 .ite (((z1.1.n : Nat) : Int) == (1 : Int)) (
 .bind (Gc z1.2 (Sq.mk 1 (fun _ => (0 : Int)))) fun z3 =>
 .ite z3 (
 .ite (decide ((0 : Int) ≤ (0 : Int) ∧ (0 : Int) < ((z0.1.n : Nat) : Int))) (
 .bind (Di (z0.1.f 0)) fun z4 =>
 .ite (z4 == (1 : Int)) (
 .bind (Jb z0.1 (Sq.mk 1 (fun _ => (rW.mk (0 : Int) (31 : Int))))) fun z5 =>
 .bind (Gc z5 (Sq.mk 1 (fun _ => (-1 : Int)))) fun z6 =>
 .leaf z6) (
 .leaf false)) (
 .fail)) (
 .leaf false)) (
 .leaf false)) (
 .leaf false)) (
 .leaf false)
def su : FnM := flM (Unit) (Bool) (fun _ => ([], [])) (fun _ => WB) (fun r => .bool r) (fun _ => rfl)
def aaZ : Env := envM [(12, rQ.c), (25, rR.c), (14, vC.c), (19, wI.c), (16, rJ.c), (20, vv.c)] [] [] [(8000012, [.asrow 3 117 4 (fun _ => SFan.enc (SFan.mk (0 : Int) false false (Sq.mk 0 (fun _ => (qH.mk (0 : Int) (0 : Int)))))), .asrow 4 91 3 (fun _ => qD.enc (qD.mk (0 : Int) (0 : Int) (Sq.mk 0 (fun _ => (0 : Int))))), .asrow 65 3 1 (fun _ => (eI .i64) (0 : Int)), .asrow 66 3 1 (fun _ => (eI .i64) (0 : Int))]), (2, [.freeze 192, .freeze 448]), (4, [.freeze 1344]), (5, [.freeze 896])] [] 0
theorem wN : aI Tryz.prog 15 su.c := su.tells Tryz.func15 (show ∀ p, arun aaZ Tryz.f15 (su.enc p).1 (su.enc p).2 = _ from fun p => by kernel_rfl) p8 (.cons yj (.cons yt (.cons Dk (.cons Ej (.cons zY (.cons Dj .nil))))))
def rD : Option (Bool) := su.val ()
theorem ahq : rD = (WB).get := su.val_eq (fun _ => ()) (fun p => by kernel_rfl) ()
end
end Go.Proofs.YtimkpfnbkclclaaGreat.Ab
