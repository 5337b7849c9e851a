/- A part of the proof, what is needed of it. -/
import Derived.Test.YtimkpfnbkclclaaGreatPk05
import Derived.Test.YtimkpfnbkclclaaGreatPk17
import Derived.Test.YtimkpfnbkclclaaGreatPk32
import Derived.Test.YtimkpfnbkclclaaGreatPk33
import Derived.Test.YtimkpfnbkclclaaGreatPk34
import Derived.Test.YtimkpfnbkclclaaGreatPk35
namespace Go.Proofs.YtimkpfnbkclclaaGreat.Ab
open Go
structure NtS (R : Sq qC) (q N : Sq Int) (n k : Nat) : Prop where
  nn : N.n = n
  e : ∀ i, i < n → N.f i = net R q i k
theorem arP {R : Sq qC} {q : Sq Int} (i : Int) : ∀ k, (∀ j, j < k → -1048576 ≤ q.f j ∧ q.f j ≤ 1048576) → -(2097152 * (k : Int)) ≤ net R q i k ∧ net R q i k ≤ 2097152 * (k : Int) := by
  intro k
  induction k with
  | zero => intro _; show -(2097152 * ((0 : Nat) : Int)) ≤ 0 ∧ (0 : Int) ≤ _; omega
  | succ k ih =>
    intro h
    have i := ih fun j hj => h j (by omega)
    have q := h k (by omega)
    rw [alc]
    split <;> split <;> omega
theorem NtS.next {R : Sq qC} {q N : Sq Int} {n k : Nat} (h : NtS R q N n k) (hk : k ≤ 128) (hq : ∀ j, j < k + 1 → -1048576 ≤ q.f j ∧ q.f j ≤ 1048576) (f0 : 0 ≤ (R.f k).From) (f1 : (R.f k).From < n) (t0 : 0 ≤ (R.f k).To) (t1 : (R.f k).To < n) (ne : (R.f k).From ≠ (R.f k).To) :
    NtS R q ⟨N.n, fun j => cond (Nat.beq j (R.f k).To.toNat) (wr ((cond (Nat.beq (R.f k).To.toNat (R.f k).From.toNat) (wr (N.f (R.f k).From.toNat + q.f k)) (N.f (R.f k).To.toNat)) - q.f k)) (cond (Nat.beq j (R.f k).From.toNat) (wr (N.f (R.f k).From.toNat + q.f k)) (N.f j))⟩ n (k + 1) := by
  refine ⟨h.nn, fun i hi => ?_⟩
  have bq := hq k (by omega)
  have nb := fun i => arP (R := R) (q := q) i k fun j hj => hq j (by omega)
  have eF := h.e (R.f k).From.toNat (by omega)
  have eT := h.e (R.f k).To.toNat (by omega)
  have bF := nb ((R.f k).From.toNat : Nat)
  have bT := nb ((R.f k).To.toNat : Nat)
  dsimp only
  rw [alc, ajM (k := (R.f k).To.toNat) (n := (R.f k).From.toNat) (by omega)]
  simp only [cond_false]
  rw [pJ (x := N.f (R.f k).From.toNat + q.f k) (by omega) (by omega), pJ (x := N.f (R.f k).To.toNat - q.f k) (by omega) (by omega)]
  by_cases cT : i = (R.f k).To.toNat
  · rw [ajw cT, if_neg (show ¬ (R.f k).From = i by omega), if_pos (show (R.f k).To = i by omega), ← h.e i hi]
    simp only [cond_true]
    rw [← cT]; omega
  · rw [ajM cT, if_neg (show ¬ (R.f k).To = i by omega), ← h.e i hi]
    simp only [cond_false]
    by_cases cF : i = (R.f k).From.toNat
    · rw [ajw cF, if_pos (show (R.f k).From = i by omega)]
      simp only [cond_true]
      rw [← cF]; omega
    · rw [ajM cF, if_neg (show ¬ (R.f k).From = i by omega)]
      simp only [cond_false]
      omega
theorem arD {m : qI} (h : aja m) {i : Nat} (hi : i < m.Roads.n) : (m.Roads.f i).From ≠ (m.Roads.f i).To := by
  have := h.r i hi
  unfold akQ at this
  repeat' (split at this; · omega)
  omega
theorem aqA {a : SAir} {s : qz} (rt : aiR a s = true) {j : Nat} (hj : j < a.Mine.Roads.n) : acO a s j = some (!(a.Mine.Roads.f j).Closed) := by
  rw [aii]; unfold Zo
  rw [get_bind (akA a s), rt, qo rfl, qo (decide_eq_true (by omega)), qo (dlt hj), qo (dix hj), pI]; rfl
theorem aqy {a : SAir} {s : qz} (rt : aiR a s = true) {j : Nat} (hj : j < a.Mine.Roads.n) (c : (a.Mine.Roads.f j).Closed = true) (x : Int) : Yz a s j x = some ⟨0, 0⟩ := by
  rw [aie]; unfold Zm
  rw [get_bind (aqA rt hj), c, qo (b := !(!true)) rfl]; rfl
theorem aqH {a : SAir} {s : qz} (rt : aiR a s = true) {j : Nat} (hj : j < a.Mine.Roads.n) (c : (a.Mine.Roads.f j).Closed = false) {x : Int} (h0 : -1048576 ≤ x) (h1 : x ≤ 1048576) : Yz a s j x = some (spS (aiS a s j x)) := by
  rw [aie]; unfold Zm
  rw [get_bind (aqA rt hj), c, qm (b := !(!false)) rfl, qm (decide_eq_false (by omega)), qm (decide_eq_false (by omega)), get_bind (akz (aiU rt) hj (by omega) (by omega))]; rfl
theorem arh {a : SAir} {s : qz} {x : yV} (md : MdD a s x) : acN a s x = some 0 := by
  have rt := md.right
  have ok := aiU rt
  have fit := md.fit
  have np := md.np
  have nr := md.nr
  obtain ⟨pn, qn⟩ := md.lens
  have pb : ∀ i, i < x.Pressures.n → -4000 ≤ x.Pressures.f i ∧ x.Pressures.f i ≤ 4000 := fun i hi => by
    obtain ⟨sh, s0, _, _, _, hp, _⟩ := md.e
    exact hp.f i (by omega)
  have qb : ∀ j, j < x.Flows.n → -1048576 ≤ x.Flows.f j ∧ x.Flows.f j ≤ 1048576 := fun j hj => fit.qb j (by omega)
  have k1 : Xl a.Mine.Places a.Mine.Roads a.Fans a.Doors s.Fans s.Doors x.Pressures x.Flows 0 = some (.inl ()) := by
    rw [agB]
    refine (oM (step := fun v => KX a.Mine.Places a.Mine.Roads a.Fans a.Doors s.Fans s.Doors x.Pressures x.Flows v) (n := x.Pressures.n) (fun _ => none) (fun i hi => ?_) ?_ x.Pressures.n 0 (Nat.zero_add _)).trans ?_
    · unfold KX
      have := pb i hi
      rw [qo (dlt hi), qo (dix hi), pI, qm (decide_eq_false (by omega)), qo (dix hi), qm (decide_eq_false (by omega)), qc (by omega)]; rfl
    · unfold KX
      rw [qm (dge (Nat.le_refl _))]; rfl
    · rw [oL fun _ _ _ => rfl]
  have k2 : Ug a.Mine.Places a.Mine.Roads a.Fans a.Doors s.Fans s.Doors x.Pressures x.Flows 0 = some (.inl ()) := by
    rw [afN]
    refine (oM (step := fun v => JL a.Mine.Places a.Mine.Roads a.Fans a.Doors s.Fans s.Doors x.Pressures x.Flows v) (n := x.Flows.n) (fun _ => none) (fun i hi => ?_) ?_ x.Flows.n 0 (Nat.zero_add _)).trans ?_
    · unfold JL
      have := qb i hi
      rw [qo (dlt hi), qo (dix hi), pI, qm (decide_eq_false (by omega)), qo (dix hi), qm (decide_eq_false (by omega)), qc (by omega)]; rfl
    · unfold JL
      rw [qm (dge (Nat.le_refl _))]; rfl
    · rw [oL fun _ _ _ => rfl]
  obtain ⟨z, hz, N, rfl, hN⟩ := pY (step := fun v : Sq Int × Int => JM a.Mine.Places a.Mine.Roads a.Fans a.Doors s.Fans s.Doors x.Pressures x.Flows v.1 v.2)
    (fun v => ∃ k : Nat, v.2 = k ∧ k ≤ a.Mine.Roads.n ∧ NtS a.Mine.Roads x.Flows v.1 a.Mine.Places.n k) (fun v => a.Mine.Roads.n - v.2.toNat)
    (fun z => ∃ N, z = .inl N ∧ NtS a.Mine.Roads x.Flows N a.Mine.Places.n a.Mine.Roads.n) (fun v hv => by
      obtain ⟨N, w⟩ := v
      obtain ⟨k, h1, hk, h⟩ := hv
      dsimp only at h1 h ⊢
      subst h1
      have hn := h.nn
      unfold JM
      rcases Nat.lt_or_ge k a.Mine.Roads.n with hi | hi
      · have re := ai2 ok.m hi
        have ms : a.Mine.Roads.n - (wr ((k : Int) + 1)).toNat < a.Mine.Roads.n - (k : Int).toNat := by rw [qc (by omega)]; omega
        have bq := qb k (by omega)
        have nx := h.next (by omega) (fun j hj => qb j (by omega)) re.1 re.2.1 re.2.2.1 re.2.2.2.1 (arD ok.m hi)
        have iq : decide ((0 : Int) ≤ (k : Int) ∧ (k : Int) < ((x.Flows.n : Nat) : Int)) = true := dix (by omega)
        have pF : decide ((0 : Int) ≤ (a.Mine.Roads.f k).From ∧ (a.Mine.Roads.f k).From < ((x.Pressures.n : Nat) : Int)) = true := decide_eq_true ⟨re.1, by omega⟩
        have pT : decide ((0 : Int) ≤ (a.Mine.Roads.f k).To ∧ (a.Mine.Roads.f k).To < ((x.Pressures.n : Nat) : Int)) = true := decide_eq_true ⟨re.2.2.1, by omega⟩
        have nF : decide ((0 : Int) ≤ (a.Mine.Roads.f k).From ∧ (a.Mine.Roads.f k).From < ((N.n : Nat) : Int)) = true := decide_eq_true ⟨re.1, by omega⟩
        have nT : decide ((0 : Int) ≤ (a.Mine.Roads.f k).To ∧ (a.Mine.Roads.f k).To < ((N.n : Nat) : Int)) = true := decide_eq_true ⟨re.2.2.1, by omega⟩
        have b1 := pb (a.Mine.Roads.f k).From.toNat (by omega)
        have b2 := pb (a.Mine.Roads.f k).To.toNat (by omega)
        rw [qo (dlt (by omega)), qo (dix hi), pI]
        cases ec : (a.Mine.Roads.f k).Closed with
        | true =>
          have q0 := fit.cl k hi ec
          rw [qo rfl, qo iq, qm (by rw [q0]; rfl), qo pF, qo pT, qo iq]
          refine ⟨_, (get_bind (aqy rt hi ec _)).trans ((qm rfl).trans ((qo nF).trans ((qo iq).trans ((qo nF).trans ((qo nT).trans ((qo iq).trans ((qo nT).trans rfl))))))), ⟨k + 1, qc (by omega), hi, nx⟩, ms⟩
        | false =>
          have dr := fit.dr k hi ec
          have w1 : wr (x.Pressures.f (a.Mine.Roads.f k).From.toNat - x.Pressures.f (a.Mine.Roads.f k).To.toNat) = x.Pressures.f (a.Mine.Roads.f k).From.toNat - x.Pressures.f (a.Mine.Roads.f k).To.toNat := pJ (by omega) (by omega)
          rw [qm rfl, qo pF, qo pT, qo iq, w1]
          refine ⟨_, (get_bind (aqH rt hi ec bq.1 bq.2)).trans ((qo rfl).trans ((qm (decide_eq_false (show ¬ x.Pressures.f (a.Mine.Roads.f k).From.toNat - x.Pressures.f (a.Mine.Roads.f k).To.toNat < (aiS a s k (x.Flows.f k)).1 by omega))).trans ((qm (decide_eq_false (show ¬ x.Pressures.f (a.Mine.Roads.f k).From.toNat - x.Pressures.f (a.Mine.Roads.f k).To.toNat > (aiS a s k (x.Flows.f k)).2 by omega))).trans ((qo nF).trans ((qo iq).trans ((qo nF).trans ((qo nT).trans ((qo iq).trans ((qo nT).trans rfl))))))))), ⟨k + 1, qc (by omega), hi, nx⟩, ms⟩
      · obtain rfl : k = a.Mine.Roads.n := by omega
        rw [qm (dge (by omega))]
        exact ⟨_, rfl, _, rfl, h⟩)
    (⟨x.Pressures.n, fun _ => 0⟩, 0) ⟨0, rfl, Nat.zero_le _, pn, fun i _ => rfl⟩
  have hn := hN.nn
  have k4 : Ui a.Mine.Places a.Mine.Roads a.Fans a.Doors x.Pressures x.Flows N 0 = some (.inl ()) := by
    rw [afP]
    refine (oM (step := fun v => JN a.Mine.Places a.Mine.Roads a.Fans a.Doors x.Pressures x.Flows N v) (n := N.n) (fun _ => none) (fun i hi => ?_) ?_ N.n 0 (Nat.zero_add _)).trans ?_
    · unfold JN
      rw [qo (dlt hi), qo (dix (by omega)), pI, qc (by omega)]
      cases hs : (a.Mine.Places.f i).Surface with
      | true =>
        have p0 := fit.calm i (by omega) hs
        rw [qo rfl, qo (dix (by omega)), qm (by rw [p0]; rfl), qo (dix (by omega)), qm (b := !true) rfl]; rfl
      | false =>
        have n0 := fit.nt i (by omega) hs
        rw [← hN.e i (by omega)] at n0
        rw [qm rfl, qo (dix (by omega)), qo (b := !false) rfl, qo (dix (by omega)), qm (by rw [n0]; rfl)]; rfl
    · unfold JN
      rw [qm (dge (Nat.le_refl _))]; rfl
    · rw [oL fun _ _ _ => rfl]
  rw [aif]; unfold Zn
  rw [get_bind (ajJ a), aj7 rt, qm (show ((0 : Int) != 0) = false from rfl), get_bind (akA a s), rt, qm (b := !true) rfl, qm (by rw [pn]; simp), qm (by rw [qn]; simp), pV k1]
  dsimp only [Sum.elim]
  rw [pV k2]
  dsimp only [Sum.elim]
  rw [qo (decide_eq_true ⟨by omega, by omega, by omega, by omega⟩), pI, pV (by rw [afO]; exact hz)]
  dsimp only [Sum.elim]
  rw [pV k4]; rfl
end Go.Proofs.YtimkpfnbkclclaaGreat.Ab
namespace Go.Proofs.YtimkpfnbkclclaaGreat.Ab
noncomputable section
open Go
attribute [local irreducible] arun
def Dt (u13_0 : Sq qB) (u13_1 _u13_3 : Sq Int) (_u13_4 : Int) (_u13_5 : Sq qA) (_u13_6 : Sq qC) (_u13_7 : Sq SFan) (_u13_8 : Sq qD) (_u13_9 : Sq Int) (u13_10 : Sq qB) (u13_11 : Int) : DT (LR (Int) (Unit) (Unit)) :=
 .ite (decide (u13_11 < ((u13_1.n : Nat) : Int))) (
 .ite (decide ((0 : Int) ≤ u13_11 ∧ u13_11 < ((u13_1.n : Nat) : Int))) (
 .ite (decide ((0 : Int) ≤ u13_11 ∧ u13_11 < ((u13_0.n : Nat) : Int))) (
 .ite (decide ((u13_1.f (Int.toNat u13_11)) < (u13_0.f (Int.toNat u13_11)).Low)) (
 .leaf (.r ())) (
 .ite (decide ((0 : Int) ≤ u13_11 ∧ u13_11 < ((u13_0.n : Nat) : Int))) (
 .ite (decide ((u13_1.f (Int.toNat u13_11)) > (u13_0.f (Int.toNat u13_11)).High)) (
 .leaf (.r ())) (
 .ite (decide ((0 : Int) ≤ u13_11 ∧ u13_11 < ((u13_10.n : Nat) : Int))) (
 .ite (decide ((u13_1.f (Int.toNat u13_11)) < (u13_10.f (Int.toNat u13_11)).Low)) (
 .leaf (.r ())) (
 .ite (decide ((0 : Int) ≤ u13_11 ∧ u13_11 < ((u13_10.n : Nat) : Int))) (
 .ite (decide ((u13_1.f (Int.toNat u13_11)) > (u13_10.f (Int.toNat u13_11)).High)) (
 .leaf (.r ())) (
 .ite (decide ((0 : Int) ≤ u13_11 ∧ u13_11 < ((u13_10.n : Nat) : Int))) (
 .ite (decide ((0 : Int) ≤ u13_11 ∧ u13_11 < ((u13_0.n : Nat) : Int))) (
 .ite (decide ((u13_10.f (Int.toNat u13_11)).Low < (u13_0.f (Int.toNat u13_11)).Low)) (
 .leaf (.r ())) (
 .ite (decide ((0 : Int) ≤ u13_11 ∧ u13_11 < ((u13_10.n : Nat) : Int))) (
 .ite (decide ((0 : Int) ≤ u13_11 ∧ u13_11 < ((u13_0.n : Nat) : Int))) (
 .ite (decide ((u13_10.f (Int.toNat u13_11)).High > (u13_0.f (Int.toNat u13_11)).High)) (
 .leaf (.r ())) (
 .ite (decide ((0 : Int) ≤ u13_11 ∧ u13_11 < ((u13_10.n : Nat) : Int))) (
 .bind (Di (u13_10.f (Int.toNat u13_11))) fun z0 =>
 .ite (z0 == (1 : Int)) (
 .ite (decide ((u13_1.f (Int.toNat u13_11)) ≤ (0 : Int))) (
 .leaf (.r ())) (
 .ite (z0 == (-1 : Int)) (
 .ite (decide ((u13_1.f (Int.toNat u13_11)) ≥ (0 : Int))) (
 .leaf (.r ())) (
 .leaf (.next (wr (u13_11 + (1 : Int)))))) (
 .leaf (.next (wr (u13_11 + (1 : Int))))))) (
 .ite (z0 == (-1 : Int)) (
 .ite (decide ((u13_1.f (Int.toNat u13_11)) ≥ (0 : Int))) (
 .leaf (.r ())) (
 .leaf (.next (wr (u13_11 + (1 : Int)))))) (
 .leaf (.next (wr (u13_11 + (1 : Int))))))) (
 .fail))) (
 .fail)) (
 .fail))) (
 .fail)) (
 .fail))) (
 .fail))) (
 .fail))) (
 .fail))) (
 .fail)) (
 .fail)) (
 .leaf (.l ()))
def uM : LpM := ⟨(Sq qB) × (Sq Int) × (Sq Int) × Int × (Sq qA) × (Sq qC) × (Sq SFan) × (Sq qD) × (Sq Int) × (Sq qB), Int, Unit, Unit, fun p => ⟨[(3, .ptr 128 0), (4, .ptr 640 0), (6, .ptr 768 0), (7, sqA 2 qB.enc p.1.1), (11, .own 3520 0), (76, sqA 1 (eI .i64) p.1.2.1), (77, .int .i64 ((p.1.2.1.n : Nat) : Int)), (78, .int .i64 p.2)], [(128, .var [sqA 1 (eI .u8) p.1.2.2.1, .int .i64 p.1.2.2.2.1]), (640, .var [sqA 2 qA.enc p.1.2.2.2.2.1, sqA 10 qC.enc p.1.2.2.2.2.2.1, sqA 4 SFan.enc p.1.2.2.2.2.2.2.1, sqA 3 qD.enc p.1.2.2.2.2.2.2.2.1]), (768, .var [sqA 1 (eI .i64) p.1.2.2.2.2.2.2.2.2.1, sqA 1 (eI .i64) p.1.2.1]), (3520, rowA 0 2 51 qB.enc p.1.2.2.2.2.2.2.2.2.2)], 4864⟩, fun f v => Dt f.1 f.2.1 f.2.2.1 f.2.2.2.1 f.2.2.2.2.1 f.2.2.2.2.2.1 f.2.2.2.2.2.2.1 f.2.2.2.2.2.2.2.1 f.2.2.2.2.2.2.2.2.1 f.2.2.2.2.2.2.2.2.2 v, false, (.exit 0), (fun x _ => ⟨[(2, .undef), (3, .ptr 128 0), (4, .ptr 640 0), (6, .ptr 768 0), (11, .own 3520 0)], [(128, blkS x 128), (640, blkS x 640), (768, blkS x 768), (3520, blkS x 3520)], 4864⟩), .ret, (fun x _ => ⟨[(2, .bool false), (3, .ptr 128 0), (4, .ptr 640 0), (6, .ptr 768 0), (11, .own 3520 0)], [(128, blkS x 128), (640, blkS x 640), (768, blkS x 768), (3520, blkS x 3520)], 4864⟩), c1, c1k⟩
def GU (u13_0 : Sq qB) (u13_1 u13_3 : Sq Int) (u13_4 : Int) (u13_5 : Sq qA) (u13_6 : Sq qC) (u13_7 : Sq SFan) (u13_8 : Sq qD) (u13_9 : Sq Int) (u13_10 : Sq qB) (u13_11 : Int) : Option ((Unit) ⊕ (Unit)) := uM.val ((u13_0, u13_1, u13_3, u13_4, u13_5, u13_6, u13_7, u13_8, u13_9, u13_10), u13_11)
theorem acG (u13_0 : Sq qB) (u13_1 u13_3 : Sq Int) (u13_4 : Int) (u13_5 : Sq qA) (u13_6 : Sq qC) (u13_7 : Sq SFan) (u13_8 : Sq qD) (u13_9 : Sq Int) (u13_10 : Sq qB) (u13_11 : Int) : GU u13_0 u13_1 u13_3 u13_4 u13_5 u13_6 u13_7 u13_8 u13_9 u13_10 u13_11 = fixO (fun v : Int => Dt u13_0 u13_1 u13_3 u13_4 u13_5 u13_6 u13_7 u13_8 u13_9 u13_10 v) u13_11 := uM.val_eq (fun x => ((sqD qB.dec (aget x.tm 7), sqD dI (aget x.tm 76), sqD dI (cellS x 128 0), intA (cellS x 128 1), sqD qA.dec (cellS x 640 0), sqD qC.dec (cellS x 640 1), sqD SFan.dec (cellS x 640 2), sqD qD.dec (cellS x 640 3), sqD dI (cellS x 768 0), sqB qB.dec (blkS x 3520)), intA (aget x.tm 78))) (fun p => by kernel_rfl) ((u13_0, u13_1, u13_3, u13_4, u13_5, u13_6, u13_7, u13_8, u13_9, u13_10), u13_11)
def Du (u23_0 : Sq rW) (_u23_2 u23_3 u23_4 : Sq Int) (u23_5 : Int) : DT (LR (Int) (Unit) (Unit)) :=
 .ite (decide (u23_5 < ((u23_4.n : Nat) : Int))) (
 .ite (decide ((0 : Int) ≤ u23_5 ∧ u23_5 < ((u23_4.n : Nat) : Int))) (
 .ite (decide ((0 : Int) ≤ u23_5 ∧ u23_5 < ((u23_0.n : Nat) : Int))) (
 .ite (decide ((u23_0.f (Int.toNat u23_5)).Road ≥ ((u23_3.n : Nat) : Int))) (
 .leaf (.next (wr (u23_5 + (1 : Int))))) (
 .ite (decide ((0 : Int) ≤ u23_5 ∧ u23_5 < ((u23_0.n : Nat) : Int))) (
 .ite (decide ((0 : Int) ≤ (u23_0.f (Int.toNat u23_5)).Road ∧ (u23_0.f (Int.toNat u23_5)).Road < ((u23_3.n : Nat) : Int))) (
 .ite (decide ((0 : Int) ≤ u23_5 ∧ u23_5 < ((u23_0.n : Nat) : Int))) (
 .ite (decide ((0 : Int) ≤ (u23_0.f (Int.toNat u23_5)).Road ∧ (u23_0.f (Int.toNat u23_5)).Road < ((u23_3.n : Nat) : Int))) (
 .ite ((u23_4.f (Int.toNat u23_5)) == (1 : Int)) (
 .ite (decide ((0 : Int) ≤ u23_5 ∧ u23_5 < ((u23_0.n : Nat) : Int))) (
 .ite (decide ((if (u23_3.f (Int.toNat (u23_0.f (Int.toNat u23_5)).Road)) < (wr (0 - (u23_3.f (Int.toNat (u23_0.f (Int.toNat u23_5)).Road)))) then (wr (0 - (u23_3.f (Int.toNat (u23_0.f (Int.toNat u23_5)).Road)))) else (u23_3.f (Int.toNat (u23_0.f (Int.toNat u23_5)).Road))) < (u23_0.f (Int.toNat u23_5)).Need)) (
 .leaf (.r ())) (
 .ite ((u23_4.f (Int.toNat u23_5)) == (-1 : Int)) (
 .ite (decide ((0 : Int) ≤ u23_5 ∧ u23_5 < ((u23_0.n : Nat) : Int))) (
 .ite (decide ((if (u23_3.f (Int.toNat (u23_0.f (Int.toNat u23_5)).Road)) < (wr (0 - (u23_3.f (Int.toNat (u23_0.f (Int.toNat u23_5)).Road)))) then (wr (0 - (u23_3.f (Int.toNat (u23_0.f (Int.toNat u23_5)).Road)))) else (u23_3.f (Int.toNat (u23_0.f (Int.toNat u23_5)).Road))) ≥ (u23_0.f (Int.toNat u23_5)).Need)) (
 .leaf (.r ())) (
 .leaf (.next (wr (u23_5 + (1 : Int)))))) (
 .fail)) (
 .leaf (.next (wr (u23_5 + (1 : Int))))))) (
 .fail)) (
 .ite ((u23_4.f (Int.toNat u23_5)) == (-1 : Int)) (
 .ite (decide ((0 : Int) ≤ u23_5 ∧ u23_5 < ((u23_0.n : Nat) : Int))) (
 .ite (decide ((if (u23_3.f (Int.toNat (u23_0.f (Int.toNat u23_5)).Road)) < (wr (0 - (u23_3.f (Int.toNat (u23_0.f (Int.toNat u23_5)).Road)))) then (wr (0 - (u23_3.f (Int.toNat (u23_0.f (Int.toNat u23_5)).Road)))) else (u23_3.f (Int.toNat (u23_0.f (Int.toNat u23_5)).Road))) ≥ (u23_0.f (Int.toNat u23_5)).Need)) (
 .leaf (.r ())) (
 .leaf (.next (wr (u23_5 + (1 : Int)))))) (
 .fail)) (
 .leaf (.next (wr (u23_5 + (1 : Int))))))) (
 .fail)) (
 .fail)) (
 .fail)) (
 .fail))) (
 .fail)) (
 .fail)) (
 .leaf (.l ()))
def uN : LpM := ⟨(Sq rW) × (Sq Int) × (Sq Int) × (Sq Int), Int, Unit, Unit, fun p => ⟨[(6, .ptr 768 0), (16, sqA 2 rW.enc p.1.1), (168, .own 5248 0), (169, .int .i64 ((p.1.2.2.2.n : Nat) : Int)), (170, .int .i64 p.2)], [(768, .var [sqA 1 (eI .i64) p.1.2.1, sqA 1 (eI .i64) p.1.2.2.1]), (5248, rowA 0 1 3 (eI .i64) p.1.2.2.2)], 5440⟩, fun f v => Du f.1 f.2.1 f.2.2.1 f.2.2.2 v, false, (.exit 2), (fun x _ => ⟨[(2, .undef)], [(768, blkS x 768), (5248, blkS x 5248)], 5440⟩), .ret, (fun x _ => ⟨[(2, .bool false)], [(768, blkS x 768), (5248, blkS x 5248)], 5440⟩), c1, c1k⟩
def GV (u23_0 : Sq rW) (u23_2 u23_3 u23_4 : Sq Int) (u23_5 : Int) : Option ((Unit) ⊕ (Unit)) := uN.val ((u23_0, u23_2, u23_3, u23_4), u23_5)
theorem acH (u23_0 : Sq rW) (u23_2 u23_3 u23_4 : Sq Int) (u23_5 : Int) : GV u23_0 u23_2 u23_3 u23_4 u23_5 = fixO (fun v : Int => Du u23_0 u23_2 u23_3 u23_4 v) u23_5 := uN.val_eq (fun x => ((sqD rW.dec (aget x.tm 16), sqD dI (cellS x 768 0), sqD dI (cellS x 768 1), sqB dI (blkS x 5248)), intA (aget x.tm 170))) (fun p => by kernel_rfl) ((u23_0, u23_2, u23_3, u23_4), u23_5)
def Jy (codes : Sq Int) : DT (Bool) :=
 .bind (New codes) fun z1 =>
 .bind (F7 z1) fun z2 =>
 .bind (acN z2.1 z2.2.1 z2.2.2.1) fun z3 =>
 .ite (z3 != (0 : Int)) (
 .leaf false) (
 .bind (Cc z2.1 z2.2.1) fun z4 =>
 .ite (z4.2 != (0 : Int)) (
 .leaf false) (
 .ite (((z4.1.n : Nat) : Int) != ((z2.2.2.1.Flows.n : Nat) : Int)) (
 .leaf false) (
 .bind (IW (qF.mk z1.l_ z2.2.2.2) z2.2.2.1.Flows true) fun z5 =>
 .bind (qJ (qF.mk z1.l_ z5.2.2) (40 : Int)) fun z6 =>
 .bind (wR z4.1 z5.1 z5.2.1 z6.1) fun z7 =>
 .ite (((z7.2.n : Nat) : Int) != (0 : Int)) (
 .leaf false) (
 .ite (((z7.1.n : Nat) : Int) != ((z4.1.n : Nat) : Int)) (
 .leaf false) (
 .sum (GU z4.1 z2.2.2.1.Flows z1.l_ z6.2 z2.1.Mine.Places z2.1.Mine.Roads z2.1.Fans z2.1.Doors z2.2.2.1.Pressures z7.1 (0 : Int)) (fun _ =>
 .bind (UN (qF.mk z1.l_ z6.2) z2.1) fun z8 =>
 .bind (Jb z7.1 z8.1) fun z9 =>
 .sum (GV z8.1 z2.2.2.1.Pressures z2.2.2.1.Flows z9 (0 : Int)) (fun _ =>
 .bind (rD) fun z10 =>
 .leaf z10) (fun _ => .leaf false)) (fun _ => .leaf false))))))
def sF : FnM := flM ((Sq Int)) (Bool) (fun p => ([sqA 1 (eI .u8) p], [])) (fun p => Jy p) (fun r => .bool r) (fun _ => rfl)
def GR : Env := envM [(9, ZK.c), (10, uT.c), (27, CR.c), (12, rQ.c), (23, sG.c), (28, qX.c), (25, rR.c), (16, rJ.c), (29, x9.c), (20, vv.c), (15, su.c)] [(13, [3, 4, 6, 7, 11, 76, 77, 78], [2, 3, 4, 6, 11]), (23, [6, 16, 168, 169, 170], [2])] [(13, uM.c), (23, uN.c)] [(5, [.freeze 320, .freeze 321, .freeze 322, .freeze 323, .freeze 324, .freeze 325]), (9, [.freeze 1536, .freeze 2816, .freeze 2817]), (22, [.freeze 3520, .freeze 4992])] [(13, [128, 640, 768, 3520]), (23, [768, 5248])] 0
def Ju : Env := { GR with nt := 230 }
theorem Jv : aQ Ju (qd 13 Tryz.f6) uM.c := uM.tells 4864 (fun _ => by kernel_rfl) (fun _ _ _ _ => by kernel_rfl) (fun _ _ _ _ => by kernel_rfl) fun R f v N K => by kernel_rfl
theorem Jw : aQ Ju (qd 23 Tryz.f6) uN.c := uN.tells 5440 (fun _ => by kernel_rfl) (fun _ _ _ _ => by kernel_rfl) (fun _ _ _ _ => by kernel_rfl) fun R f v N K => by kernel_rfl
theorem ada : aI Tryz.prog 6 sF.c := sF.tells Tryz.func6 (show ∀ p, arun GR Tryz.f6 (sF.enc p).1 (sF.enc p).2 = _ from fun p => by kernel_rfl) (qg [qd 13 Tryz.f6, qd 23 Tryz.f6] (by kernel_rfl) ⟨lpT (by kernel_rfl) Jv, ⟨lpT (by kernel_rfl) Jw, trivial⟩⟩) (.cons LC (.cons xZ (.cons Z8 (.cons yj (.cons Ep (.cons qW (.cons yt (.cons zY (.cons Ls (.cons Dj (.cons wN .nil)))))))))))
theorem adW : ∀ a b, sF.enc a = sF.enc b → a = b := linj (fun x => sqD dI (gd x.1 0)) (fun p => by kernel_rfl)
end
end Go.Proofs.YtimkpfnbkclclaaGreat.Ab
namespace Go.Proofs.YtimkpfnbkclclaaGreat.Ab
open Go
theorem asq {x y : qB} {v : Int} (x0 : x.Low ≤ v) (x1 : v ≤ x.High) (y0 : y.Low ≤ v) (y1 : v ≤ y.High) : (aqu x y).2 = true ∧ (aqu x y).1.Low ≤ v ∧ v ≤ (aqu x y).1.High ∧ x.Low ≤ (aqu x y).1.Low ∧ (aqu x y).1.High ≤ x.High := by
  have e1 : (aqF x y).Low ≤ v ∧ x.Low ≤ (aqF x y).Low := by unfold aqF; dsimp only; split <;> omega
  have e2 : v ≤ (aqF x y).High ∧ (aqF x y).High ≤ x.High := by unfold aqF; dsimp only; split <;> omega
  unfold aqu
  rw [if_neg (by omega)]
  exact ⟨rfl, e1.1, e2.1, e1.2, e2.2⟩
theorem asz {s : qG} {x : qE} {t v : Int} (h0 : x.Span.Low ≤ v) (h1 : v ≤ x.Span.High) (v0 : -1048576 ≤ v) (v1 : v ≤ 1048576) : (atF s x t).Low ≤ v ∧ v ≤ (atF s x t).High := by
  unfold atF
  by_cases c : Says s x t
  · have f := (arv c).2.2.1
    rw [if_pos c]
    dsimp only
    omega
  · rw [if_neg c]; unfold noS
    dsimp only
    omega
structure TrS (F : Sq qB) (q : Sq Int) (T : TS) : Prop where
  z : ∀ j, j < F.n → T.z j = false
  i : ∀ j, j < F.n → (T.o j).Low ≤ q.f j ∧ q.f j ≤ (T.o j).High ∧ (F.f j).Low ≤ (T.o j).Low ∧ (T.o j).High ≤ (F.f j).High
  b : ∀ v, ¬ T.b v
theorem asu {F : Sq qB} {q : Sq Int} {l : Sq qG} {m : Sq qE} {t : Int} (fn : F.n = q.n) (hF : ∀ j, j < F.n → (F.f j).Low ≤ q.f j ∧ q.f j ≤ (F.f j).High) (hq : ∀ j, j < q.n → -1048576 ≤ q.f j ∧ q.f j ≤ 1048576) (d : FwD q true l m) : ∀ k, k ≤ m.n → TrS F q (trun F l m t k) := by
  intro k
  induction k with
  | zero => intro _; exact ⟨fun _ _ => rfl, fun j hj => ⟨(hF j hj).1, (hF j hj).2, Int.le_refl _, Int.le_refl _⟩, fun _ h => h⟩
  | succ k ih =>
    intro hk
    have h := ih (by omega)
    by_cases c : Tgt F.n l (m.f k)
    · have hr : rdOf l (m.f k) < F.n := by have := c.2.2.2; unfold rdOf; omega
      obtain ⟨_, _, lo, hi⟩ := (d.m k (by omega)).r rfl
      have bq := hq (rdOf l (m.f k)) (by omega)
      have ho := h.i _ hr
      have a := asz (s := l.f (m.f k).Sensor.toNat) (t := t) lo hi bq.1 bq.2
      obtain ⟨m1, m2, m3, m4, m5⟩ := asq ho.1 ho.2.1 a.1 a.2
      rw [aqJ rfl rfl rfl c (h.z _ hr)]
      refine ⟨fun j hj => ?_, fun j hj => ?_, fun v => ?_⟩
      · dsimp only
        by_cases e : j = rdOf l (m.f k)
        · rw [if_pos e, m1]; rfl
        · rw [if_neg e]; exact h.z j hj
      · dsimp only
        by_cases e : j = rdOf l (m.f k)
        · rw [if_pos e, e]
          exact ⟨m2, m3, by omega, by omega⟩
        · rw [if_neg e]; exact h.i j hj
      · dsimp only
        rw [m1]
        rintro (e | ⟨e, _⟩)
        · exact h.b v e
        · cases e
    · rw [aqK fun q => c q.1]; exact h
theorem ase (codes : Sq Int) (hb : ∀ k, 0 ≤ codes.f k ∧ codes.f k ≤ 255) : (Jy codes).get = some true := by
  obtain ⟨c, e0, hc⟩ := aqk codes hb
  obtain ⟨a, s, x, b, e1, b0, b1, md⟩ := aos hc
  have np := md.np
  have nr := md.nr
  have n1 := md.n1
  have rt := md.right
  have fit := md.fit
  obtain ⟨_, qn⟩ := md.lens
  have qb : ∀ j, j < x.Flows.n → -1048576 ≤ x.Flows.f j ∧ x.Flows.f j ≤ 1048576 := fun j hj => fit.qb j (by omega)
  obtain ⟨F, eF, hF⟩ := aqv rt (by omega) (by omega)
  have Fn := hF.nn
  have Fi : ∀ j, j < F.n → (F.f j).Low ≤ x.Flows.f j ∧ x.Flows.f j ≤ (F.f j).High := fun j hj => by rw [hF.e j (by omega)]; exact arZ fit (by omega)
  obtain ⟨l, m, b3, e3, q0, q1, fd⟩ := arG (hc.at b0 b1) (by omega) qb true
  have mn := fd.mn
  obtain ⟨t, b4, e4, p0, p1, t0, t1, _⟩ := aiO (hc.at q0 q1) 40 (by omega)
  have t1 := t1 (by omega)
  obtain ⟨O, B, et, ht⟩ := aqw (F := F) (l := l) (m := m) (t := t) (by omega) (by omega) fun i hi _ => (by have h1 := (fd.m i hi).t; have h2 := (fd.m i hi).lo; have h3 := (fd.m i hi).hi; unfold MsOK; omega)
  have tr := asu (t := t) (by omega) Fi qb fd m.n (Nat.le_refl _)
  have On := ht.nn
  have Bn : B.n = 0 := by
    rcases Nat.eq_zero_or_pos B.n with h | h
    · exact h
    · exact absurd ((ht.i _).1 ⟨0, h, rfl⟩) (tr.b _)
  have Oi : ∀ j, j < F.n → (O.f j).Low ≤ x.Flows.f j ∧ x.Flows.f j ≤ (O.f j).High ∧ (F.f j).Low ≤ (O.f j).Low ∧ (O.f j).High ≤ (F.f j).High := fun j hj => by rw [ht.e j hj]; exact tr.i j hj
  have k1 : GU F x.Flows c.l_ b4 a.Mine.Places a.Mine.Roads a.Fans a.Doors x.Pressures O 0 = some (.inl ()) := by
    rw [acG]
    refine (oM (step := fun v => Dt F x.Flows c.l_ b4 a.Mine.Places a.Mine.Roads a.Fans a.Doors x.Pressures O v) (n := x.Flows.n) (fun _ => none) (fun i hi => ?_) ?_ x.Flows.n 0 (Nat.zero_add _)).trans ?_
    · unfold Dt
      have f := Fi i (by omega)
      have o := Oi i (by omega)
      have iF : decide ((0 : Int) ≤ (i : Int) ∧ (i : Int) < ((F.n : Nat) : Int)) = true := dix (by omega)
      have iO : decide ((0 : Int) ≤ (i : Int) ∧ (i : Int) < ((O.n : Nat) : Int)) = true := dix (by omega)
      rw [qo (dlt hi), qo (dix hi), qo iF, pI, qm (decide_eq_false (by omega)), qo iF, qm (decide_eq_false (by omega)), qo iO, qm (decide_eq_false (by omega)), qo iO, qm (decide_eq_false (by omega)), qo iO, qo iF, qm (decide_eq_false (by omega)), qo iO, qo iF, qm (decide_eq_false (by omega)), qo iO, get_bind (aqs _), qc (by omega)]
      unfold dirV
      by_cases c1 : (O.f i).Low > (O.f i).High
      · omega
      rw [if_neg c1]
      by_cases c2 : (O.f i).Low > 0
      · rw [if_pos c2, qo (show ((1 : Int) == 1) = true from rfl), qm (decide_eq_false (by omega)), qm (show ((1 : Int) == -1) = false from rfl)]; rfl
      rw [if_neg c2]
      by_cases c3 : (O.f i).High < 0
      · rw [if_pos c3, qm (show ((-1 : Int) == 1) = false from rfl), qo (show ((-1 : Int) == -1) = true from rfl), qm (decide_eq_false (by omega))]; rfl
      · rw [if_neg c3, qm (show ((0 : Int) == 1) = false from rfl), qm (show ((0 : Int) == -1) = false from rfl)]; rfl
    · unfold Dt
      rw [qm (dge (Nat.le_refl _))]; rfl
    · rw [oL fun _ _ _ => rfl]
  obtain ⟨fs, b5, e5, r0, r1, fsn, ff⟩ := ark (hc.at p0 p1) a (by omega)
  obtain ⟨y, ey, yn, yf⟩ := aqN O (l := fs) (by omega) fun j hj => by have := ff j hj; unfold NdOK; omega
  have k2 : GV fs x.Pressures x.Flows y 0 = some (.inl ()) := by
    rw [acH]
    refine (oM (step := fun v => Du fs x.Pressures x.Flows y v) (n := y.n) (fun _ => none) (fun i hi => ?_) ?_ y.n 0 (Nat.zero_add _)).trans ?_
    · unfold Du
      have g := ff i (by omega)
      have is : decide ((0 : Int) ≤ (i : Int) ∧ (i : Int) < ((fs.n : Nat) : Int)) = true := dix (by omega)
      rw [qo (dlt hi), qo (dix hi), qo is, pI, qc (by omega)]
      by_cases c1 : (fs.f i).Road ≥ x.Flows.n
      · rw [qo (decide_eq_true c1)]; rfl
      have ir : decide ((0 : Int) ≤ (fs.f i).Road ∧ (fs.f i).Road < ((x.Flows.n : Nat) : Int)) = true := decide_eq_true ⟨g.1, by omega⟩
      have o := Oi (fs.f i).Road.toNat (by omega)
      have q := qb (fs.f i).Road.toNat (by omega)
      have w : wr (0 - x.Flows.f (fs.f i).Road.toNat) = -x.Flows.f (fs.f i).Road.toNat := by rw [pJ (by omega) (by omega)]; omega
      rw [qm (decide_eq_false c1), qo is, qo ir, qo is, qo ir, yf i (by omega), w]
      unfold fedV
      rw [if_neg (show ¬ ¬ (0 ≤ (fs.f i).Road ∧ (fs.f i).Road < O.n) by omega), if_neg (show ¬ (O.f (fs.f i).Road.toNat).Low > (O.f (fs.f i).Road.toNat).High by omega)]
      by_cases c2 : (fs.f i).Need ≤ 0 ∨ (O.f (fs.f i).Road.toNat).Low ≥ (fs.f i).Need ∨ (O.f (fs.f i).Road.toNat).High ≤ -(fs.f i).Need
      · rw [if_pos c2, qo (show ((1 : Int) == 1) = true from rfl), qo is, qm (decide_eq_false (by split <;> omega)), qm (show ((1 : Int) == -1) = false from rfl)]; rfl
      rw [if_neg c2]
      by_cases c3 : (O.f (fs.f i).Road.toNat).Low > -(fs.f i).Need ∧ (O.f (fs.f i).Road.toNat).High < (fs.f i).Need
      · rw [if_pos c3, qm (show ((-1 : Int) == 1) = false from rfl), qo (show ((-1 : Int) == -1) = true from rfl), qo is, qm (decide_eq_false (by split <;> omega))]; rfl
      · rw [if_neg c3, qm (show ((0 : Int) == 1) = false from rfl), qm (show ((0 : Int) == -1) = false from rfl)]; rfl
    · unfold Du
      rw [qm (dge (Nat.le_refl _))]; rfl
    · rw [oL fun _ _ _ => rfl]
  unfold Jy
  rw [get_bind e0, get_bind e1]
  dsimp only
  rw [get_bind (arh md), qm (show ((0 : Int) != 0) = false from rfl), get_bind eF, qm (show ((0 : Int) != 0) = false from rfl), qm (by rw [Fn, qn]; simp), get_bind e3]
  dsimp only
  rw [get_bind e4, get_bind et]
  dsimp only
  rw [qm (by rw [Bn]; rfl), qm (by rw [On]; simp), pV k1]
  dsimp only [Sum.elim]
  rw [get_bind e5]
  dsimp only
  rw [get_bind ey, pV k2]
  dsimp only [Sum.elim]
  rw [get_bind arF]; rfl
end Go.Proofs.YtimkpfnbkclclaaGreat.Ab
