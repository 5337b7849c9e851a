/- A part of the proof, what is needed of it. -/
import Derived.Test.YtimkpfnbkclclaaGreatPk12
namespace Go.Proofs.YtimkpfnbkclclaaGreat.Ab
noncomputable section
open Go
theorem apy {x : Int} (h0 : -1048577 ≤ x) (h1 : x ≤ 1048577) : 0 ≤ x * x ∧ x * x ≤ 1099513724929 := by
  have a : 0 ≤ x * x := by
    rcases Int.le_total 0 x with h | h
    · exact Int.mul_nonneg h h
    · exact Int.mul_nonneg_of_nonpos_of_nonpos h h
  refine ⟨a, ?_⟩
  rcases Int.le_total 0 x with h | h
  · exact Int.mul_le_mul h1 h1 h (by omega)
  · have := Int.mul_le_mul (show -x ≤ 1048577 by omega) (show -x ≤ 1048577 by omega) (show 0 ≤ -x by omega) (show (0 : Int) ≤ 1048577 by omega)
    rw [Int.neg_mul_neg] at this
    exact this
theorem akN {b X : Int} (h0 : 0 ≤ b) (h1 : b ≤ 4456448) (h2 : 0 ≤ X) (h3 : X ≤ 1099513724929) : 0 ≤ b * X ∧ b * X ≤ 4899925740580192192 := by
  refine ⟨Int.mul_nonneg h0 h2, ?_⟩
  have := Int.mul_le_mul h1 h3 h2 (show (0 : Int) ≤ 4456448 by omega)
  omega
theorem aol {lo hi x : Int} (h0 : 1 ≤ lo) (h1 : lo ≤ hi) (h2 : hi ≤ 4456448) (hx0 : -1048577 ≤ x) (hx1 : x ≤ 1048577) : -4899925740580192192 ≤ (sqS lo hi x).1 ∧ (sqS lo hi x).1 ≤ (sqS lo hi x).2 ∧ (sqS lo hi x).2 ≤ 4899925740580192192 := by
  obtain ⟨a, b⟩ := apy hx0 hx1
  have p := akN (show 0 ≤ lo by omega) (by omega) a b
  have q := akN (show 0 ≤ hi by omega) h2 a b
  have m := Int.mul_le_mul_of_nonneg_right h1 a
  unfold sqS
  split <;> (dsimp only; omega)
def bsum (B : Sq qK) (x : Int) (b : Int × Int) : Nat → Int × Int
  | 0 => b
  | k + 1 => ((bsum B x b k).1 - (stS (B.f k).Fan (B.f k).state_ x).High, (bsum B x b k).2 - (stS (B.f k).Fan (B.f k).state_ x).Low)
theorem anZ (B : Sq qK) (x : Int) (b : Int × Int) (k : Nat) : bsum B x b (k + 1) = ((bsum B x b k).1 - (stS (B.f k).Fan (B.f k).state_ x).High, (bsum B x b k).2 - (stS (B.f k).Fan (B.f k).state_ x).Low) := rfl
theorem anp {B B' : Sq qK} {x : Int} {b : Int × Int} : ∀ k, (∀ j, j < k → B.f j = B'.f j) → bsum B x b k = bsum B' x b k := by
  intro k
  induction k with
  | zero => intro _; rfl
  | succ k ih =>
    intro h
    unfold bsum
    rw [ih fun j hj => h j (by omega), h k (by omega)]
structure AwOK (a : SAir) (s : qz) (i : Nat) (w : qN) : Prop where
  rest : w.Road.Rest = spS (rsum a.Doors s.Doors i ((a.Mine.Roads.f i).Rest.Low, (a.Mine.Roads.f i).Rest.High) a.Doors.n)
  lift : w.Road.Lift = (a.Mine.Roads.f i).Lift
  n : w.blowers_.n ≤ 8
  v : ∀ j, j < w.blowers_.n → fanE (w.blowers_.f j).Fan = 0 ∧ -1 ≤ (w.blowers_.f j).state_ ∧ (w.blowers_.f j).state_ ≤ 2
  b : ∀ x b, bsum w.blowers_ x b w.blowers_.n = fsum a.Fans s.Fans i x b a.Fans.n
theorem akp {a : SAir} {s : qz} (ok : RtOK a s) {i : Nat} (hi : i < a.Mine.Roads.n) : ∃ w, P5 a s i = some w ∧ AwOK a s i w := by
  have hf := ok.nf
  have hd := ok.nd
  have hsf := ok.sf
  have hsd := ok.sd
  obtain ⟨r1, r2, r3, _⟩ := ajT ok.m hi
  rw [aeW]; unfold Ma
  rw [qo (dix hi), pI]
  generalize hr : a.Mine.Roads.f i = r at r1 r2 r3
  have key : KD i a.Doors a.Mine.Places a.Mine.Roads a.Fans s.Fans s.Doors r.From r.To r.Length r.Area r.Walk r.Closed r.Lift.Low r.Lift.High r.Rest.Low r.Rest.High 0 = some (.inl (rsum a.Doors s.Doors i (r.Rest.Low, r.Rest.High) a.Doors.n)) := by
    rw [adJ]
    refine pR (step := fun v : Int × Int × Int => EU i a.Doors a.Mine.Places a.Mine.Roads a.Fans s.Fans s.Doors r.From r.To r.Length r.Area r.Walk r.Closed r.Lift.Low r.Lift.High v.1 v.2.1 v.2.2) (z := .l (rsum a.Doors s.Doors i (r.Rest.Low, r.Rest.High) a.Doors.n))
      (fun k => ((rsum a.Doors s.Doors i (r.Rest.Low, r.Rest.High) k).1, (rsum a.Doors s.Doors i (r.Rest.Low, r.Rest.High) k).2, ((k : Nat) : Int))) a.Doors.n (fun k hk => ?_) ?_
    · unfold EU
      dsimp only
      obtain ⟨d1, d2, d3⟩ := ok.d k hk
      have q := akR ok i (b := (r.Rest.Low, r.Rest.High)) r1 r2 r3 k (by omega)
      have e := ang d1 d2 d3
      rw [qo (dlt hk), qo (dix hk), pI, qc (by omega)]
      by_cases c : (a.Doors.f k).Road = i
      · have pl : ∀ u v : qB, aaC u v = some ⟨wr (u.Low + v.Low), wr (u.High + v.High)⟩ := fun u v => by rw [ahl]; rfl
        rw [qo (by simp [c]), qo (dix (by omega)), get_bind (amQ d1 d2 d3), get_bind (pl _ _)]
        dsimp only
        rw [pJ (x := (rsum a.Doors s.Doors i (r.Rest.Low, r.Rest.High) k).1 + (rsS (a.Doors.f k).Rests (s.Doors.f k)).Low) (by omega) (by omega), pJ (x := (rsum a.Doors s.Doors i (r.Rest.Low, r.Rest.High) k).2 + (rsS (a.Doors.f k).Rests (s.Doors.f k)).High) (by omega) (by omega)]
        rw [show rsum a.Doors s.Doors i (r.Rest.Low, r.Rest.High) (k + 1) = ((rsum a.Doors s.Doors i (r.Rest.Low, r.Rest.High) k).1 + (rsS (a.Doors.f k).Rests (s.Doors.f k)).Low, (rsum a.Doors s.Doors i (r.Rest.Low, r.Rest.High) k).2 + (rsS (a.Doors.f k).Rests (s.Doors.f k)).High) from if_pos c]
        rfl
      · rw [qm (by simp [c]), show rsum a.Doors s.Doors i (r.Rest.Low, r.Rest.High) (k + 1) = rsum a.Doors s.Doors i (r.Rest.Low, r.Rest.High) k from if_neg c]
        rfl
    · unfold EU
      dsimp only
      rw [qm (dge (Nat.le_refl _))]; rfl
  rw [pV key]
  show ∃ w, DT.get (DT.sum _ _ _) = _ ∧ _
  have key2 := pY (step := fun v : Sq qK × Int => EW i a.Fans s.Fans s.Doors r.From r.To r.Length r.Area r.Walk r.Closed (rsum a.Doors s.Doors i (r.Rest.Low, r.Rest.High) a.Doors.n).1 (rsum a.Doors s.Doors i (r.Rest.Low, r.Rest.High) a.Doors.n).2 r.Lift.Low r.Lift.High v.1 v.2)
    (fun v => ∃ k : Nat, v.2 = k ∧ k ≤ a.Fans.n ∧ v.1.n ≤ k ∧ (∀ j, j < v.1.n → fanE (v.1.f j).Fan = 0 ∧ -1 ≤ (v.1.f j).state_ ∧ (v.1.f j).state_ ≤ 2) ∧ ∀ x b, bsum v.1 x b v.1.n = fsum a.Fans s.Fans i x b k) (fun v => a.Fans.n - v.2.toNat)
    (fun z => ∃ B, z = .inl B ∧ B.n ≤ 8 ∧ (∀ j, j < B.n → fanE (B.f j).Fan = 0 ∧ -1 ≤ (B.f j).state_ ∧ (B.f j).state_ ≤ 2) ∧ ∀ x b, bsum B x b B.n = fsum a.Fans s.Fans i x b a.Fans.n) (fun v hv => by
      obtain ⟨B, _⟩ := v
      obtain ⟨k, rfl, hk, hn, hv, hb⟩ := hv
      dsimp only at hn hv hb ⊢
      unfold EW
      by_cases hlt : k < a.Fans.n
      · rw [qo (dlt hlt), qo (dix hlt), pI, qc (by omega)]
        by_cases c : (a.Fans.f k).Road = i
        · rw [qo (by simp [c]), qo (dix (by omega)), qo (decide_eq_true ⟨by omega, by omega⟩)]
          refine ⟨_, rfl, ⟨k + 1, rfl, by omega, by dsimp only; omega, fun j hj => ?_, fun x b => ?_⟩, by dsimp only; omega⟩
          · dsimp only at hj ⊢
            by_cases hj2 : j < B.n
            · rw [ajf hj2]; exact hv j hj2
            · rw [ajl (by omega)]; exact ok.f k hlt
          · show bsum _ x b (B.n + 1) = _
            rw [show fsum a.Fans s.Fans i x b (k + 1) = ((fsum a.Fans s.Fans i x b k).1 - (stS (a.Fans.f k) (s.Fans.f k) x).High, (fsum a.Fans s.Fans i x b k).2 - (stS (a.Fans.f k) (s.Fans.f k) x).Low) from if_pos c, ← hb]
            rw [anZ, anp (B' := B) B.n (fun j hj => by dsimp only; rw [ajf hj]; rfl)]
            dsimp only
            rw [ajl (Nat.le_refl _)]
            rfl
        · rw [qm (by simp [c])]
          exact ⟨_, rfl, ⟨k + 1, rfl, by omega, by dsimp only; omega, hv, fun x b => by rw [show fsum a.Fans s.Fans i x b (k + 1) = fsum a.Fans s.Fans i x b k from if_neg c]; exact hb x b⟩, by dsimp only; omega⟩
      · obtain rfl : k = a.Fans.n := by omega
        rw [qm (dge (Nat.le_refl _))]
        exact ⟨_, rfl, B, rfl, by omega, hv, hb⟩)
    (⟨0, fun _ => ⟨⟨0, false, false, ⟨0, fun _ => ⟨0, 0⟩⟩⟩, 0⟩⟩, 0) ⟨0, rfl, Nat.zero_le _, Nat.le_refl _, fun j hj => by dsimp only at hj; omega, fun x b => rfl⟩
  obtain ⟨z, hz, B, rfl, g1, g2, g3⟩ := key2
  rw [pV (by rw [adK]; exact hz)]
  exact ⟨_, rfl, by rw [hr]; rfl, by rw [hr], g1, g2, g3⟩
theorem aks (s t : qB) : U7 s t = some ⟨wr (s.Low - t.High), wr (s.High - t.Low)⟩ := by rw [ahj]; rfl
theorem apa {B : Sq qK} (hv : ∀ j, j < B.n → fanE (B.f j).Fan = 0 ∧ -1 ≤ (B.f j).state_ ∧ (B.f j).state_ ≤ 2) (x : Int) (b : Int × Int) : ∀ k, k ≤ B.n → b.1 - 2199023255552 * k ≤ (bsum B x b k).1 ∧ (bsum B x b k).1 ≤ b.1 + 2199023255552 * k ∧ (bsum B x b k).2 ≤ b.2 + 2199023255552 * k ∧ b.2 - 2199023255552 * k ≤ (bsum B x b k).2 := by
  intro k
  induction k with
  | zero => intro _; show b.1 - _ ≤ b.1 ∧ b.1 ≤ _ ∧ b.2 ≤ _ ∧ _ ≤ b.2; omega
  | succ k ih =>
    intro hk
    have i := ih (by omega)
    have q := ani (hv k (by omega)).1 (B.f k).state_ x
    unfold bsum
    dsimp only; omega
theorem apA {lo hi x : Int} (h0 : 1 ≤ lo) (h1 : lo ≤ hi) (h2 : hi ≤ 4456448) (hx0 : -1048577 ≤ x) (hx1 : x ≤ 1048577) :
    YV ⟨lo, hi⟩ (wr (x * (if x < wr (0 - x) then wr (0 - x) else x))) = some (spS (sqS lo hi x)) := by
  obtain ⟨a, b⟩ := apy hx0 hx1
  have p := akN (show 0 ≤ lo by omega) (by omega) a b
  have q := akN (show 0 ≤ hi by omega) h2 a b
  have m := Int.mul_le_mul_of_nonneg_right h1 a
  have w0 : wr (0 - x) = -x := by rw [pJ (by omega) (by omega)]; omega
  rw [w0, agS]
  unfold Tq sqS
  rw [DT.get_leaf]
  by_cases c : x < 0
  · rw [if_pos (show x < -x by omega), if_pos c]
    have e : x * -x = -(x * x) := Int.mul_neg x x
    rw [e, pJ (x := -(x * x)) (by omega) (by omega)]
    dsimp only
    rw [Int.mul_neg, Int.mul_neg, pJ (x := -(hi * (x * x))) (by omega) (by omega), pJ (x := -(lo * (x * x))) (by omega) (by omega)]
    unfold spS
    congr 2
    · split <;> omega
    · split <;> omega
  · rw [if_neg (show ¬ x < -x by omega), if_neg c, pJ (x := x * x) (by omega) (by omega)]
    dsimp only
    rw [pJ (x := hi * (x * x)) (by omega) (by omega), pJ (x := lo * (x * x)) (by omega) (by omega)]
    unfold spS
    congr 2
    · split <;> omega
    · split <;> omega
theorem akm {a : SAir} {s : qz} (ok : RtOK a s) {i : Nat} (hi : i < a.Mine.Roads.n) {w : qN} (hw : AwOK a s i w) {x : Int} (hx0 : -1048577 ≤ x) (hx1 : x ≤ 1048577) : EX w x = some (spS (aiS a s i x)) := by
  obtain ⟨r1, r2, r3, r4, r5, r6, _⟩ := ajT ok.m hi
  have q := akR ok i (b := ((a.Mine.Roads.f i).Rest.Low, (a.Mine.Roads.f i).Rest.High)) r1 r2 r3 a.Doors.n (Nat.le_refl _)
  have hd := ok.nd
  have hn := hw.n
  rw [adL]; unfold H9 aiS
  rw [hw.rest, hw.lift]
  dsimp only [spS]
  generalize rsum a.Doors s.Doors i ((a.Mine.Roads.f i).Rest.Low, (a.Mine.Roads.f i).Rest.High) a.Doors.n = b at q ⊢
  have sq := aol (lo := b.1) (hi := b.2) (x := x) q.1 q.2.1 (by omega) hx0 hx1
  rw [get_bind (apA (lo := b.1) (hi := b.2) (x := x) q.1 q.2.1 (by omega) hx0 hx1), get_bind (aks _ _)]
  dsimp only [spS]
  rw [pJ (x := (sqS b.1 b.2 x).1 - (a.Mine.Roads.f i).Lift.High) (by omega) (by omega), pJ (x := (sqS b.1 b.2 x).2 - (a.Mine.Roads.f i).Lift.Low) (by omega) (by omega), ← hw.b]
  generalize hB0 : ((sqS b.1 b.2 x).1 - (a.Mine.Roads.f i).Lift.High, (sqS b.1 b.2 x).2 - (a.Mine.Roads.f i).Lift.Low) = b0
  have z1 : (sqS b.1 b.2 x).1 - (a.Mine.Roads.f i).Lift.High = b0.1 := by rw [← hB0]
  have z2 : (sqS b.1 b.2 x).2 - (a.Mine.Roads.f i).Lift.Low = b0.2 := by rw [← hB0]
  rw [z1, z2]
  have key : GD x w.Road.From w.Road.To w.Road.Length w.Road.Area w.Road.Walk w.Road.Closed b.1 b.2 (a.Mine.Roads.f i).Lift.Low (a.Mine.Roads.f i).Lift.High w.blowers_ b0.1 b0.2 0 = some (.inl (bsum w.blowers_ x b0 w.blowers_.n)) := by
    rw [acw]
    refine pR (step := fun v : Int × Int × Int => Dp x w.Road.From w.Road.To w.Road.Length w.Road.Area w.Road.Walk w.Road.Closed b.1 b.2 (a.Mine.Roads.f i).Lift.Low (a.Mine.Roads.f i).Lift.High w.blowers_ v.1 v.2.1 v.2.2) (z := .l (bsum w.blowers_ x b0 w.blowers_.n))
      (fun k => ((bsum w.blowers_ x b0 k).1, (bsum w.blowers_ x b0 k).2, ((k : Nat) : Int))) w.blowers_.n (fun k hk => ?_) ?_
    · unfold Dp
      dsimp only
      obtain ⟨f1, f2, f3⟩ := hw.v k hk
      have bi := apa hw.v x b0 k (by omega)
      have si := ani f1 (w.blowers_.f k).state_ x
      rw [qo (dlt hk), qo (dix hk), pI, qc (by omega), get_bind (aoz f1 ⟨f2, f3⟩ x ⟨hx0, hx1⟩), get_bind (aks _ _)]
      dsimp only
      rw [pJ (x := (bsum w.blowers_ x b0 k).1 - (stS (w.blowers_.f k).Fan (w.blowers_.f k).state_ x).High) (by omega) (by omega), pJ (x := (bsum w.blowers_ x b0 k).2 - (stS (w.blowers_.f k).Fan (w.blowers_.f k).state_ x).Low) (by omega) (by omega)]
      rfl
    · unfold Dp
      dsimp only
      rw [qm (dge (Nat.le_refl _))]; rfl
  rw [pV key]; rfl
def opB (a : SAir) (s : qz) (road : Int) : Prop := aiR a s = true ∧ 0 ≤ road ∧ road < a.Mine.Roads.n ∧ (a.Mine.Roads.f road.toNat).Closed = false
theorem alZ (a : SAir) (s : qz) (road : Int) : (opB a s road ∧ ∃ w, aaA a s road = some (w, true) ∧ AwOK a s road.toNat w) ∨ (¬ opB a s road ∧ ∃ w, aaA a s road = some (w, false)) := by
  rw [ahk]; unfold Wi
  rw [get_bind (ajy a s)]
  cases hr : aiR a s with
  | false => exact .inr ⟨fun h => by { have := h.1; rw [hr] at this; cases this }, _, rfl⟩
  | true =>
    have ok := aiU hr
    rw [qm (b := !true) rfl, get_bind (ajm a road ok.m.nr)]
    by_cases c : 0 ≤ road ∧ road ≤ (a.Mine.Roads.n : Int) - 1
    · rw [qm (by simp only [decide_eq_true c, Bool.not_true]), qo (decide_eq_true ⟨by omega, by omega⟩)]
      cases hc : (a.Mine.Roads.f road.toNat).Closed with
      | true => exact .inr ⟨fun h => by { have := h.2.2.2; rw [hc] at this; cases this }, _, rfl⟩
      | false =>
        obtain ⟨w, e, aw⟩ := akp ok (i := road.toNat) (by omega)
        rw [show ((road.toNat : Nat) : Int) = road by omega] at e
        rw [qm (b := false) rfl, get_bind e]
        exact .inl ⟨⟨hr, c.1, by omega, hc⟩, w, rfl, aw⟩
    · rw [qo (by simp only [decide_eq_false c, Bool.not_false])]
      exact .inr ⟨fun h => c ⟨h.2.1, by have := h.2.2.1; omega⟩, _, rfl⟩
theorem akz {a : SAir} {s : qz} (ok : RtOK a s) {i : Nat} (hi : i < a.Mine.Roads.n) {x : Int} (hx0 : -1048577 ≤ x) (hx1 : x ≤ 1048577) : Ny a s i x = some (spS (aiS a s i x)) := by
  obtain ⟨r1, r2, r3, r4, r5, r6, _⟩ := ajT ok.m hi
  have hf := ok.nf
  have hd := ok.nd
  have hsf := ok.sf
  have hsd := ok.sd
  rw [ahE]; unfold Xn aiS
  rw [qo (dix hi), pI]
  generalize a.Mine.Roads.f i = r at r1 r2 r3 r4 r5 r6 ⊢
  have key : Uj i x a.Mine.Places a.Mine.Roads a.Fans a.Doors s.Fans s.Doors r.From r.To r.Length r.Area r.Walk r.Closed r.Rest.Low r.Rest.High r.Lift.Low r.Lift.High 0 r.Rest.Low r.Rest.High = some (.inl (rsum a.Doors s.Doors i (r.Rest.Low, r.Rest.High) a.Doors.n)) := by
    rw [afQ]
    refine pR (step := fun v : Int × Int × Int => JQ i x a.Mine.Places a.Mine.Roads a.Fans a.Doors s.Fans s.Doors r.From r.To r.Length r.Area r.Walk r.Closed r.Rest.Low r.Rest.High r.Lift.Low r.Lift.High v.1 v.2.1 v.2.2) (z := .l (rsum a.Doors s.Doors i (r.Rest.Low, r.Rest.High) a.Doors.n))
      (fun k => (((k : Nat) : Int), (rsum a.Doors s.Doors i (r.Rest.Low, r.Rest.High) k).1, (rsum a.Doors s.Doors i (r.Rest.Low, r.Rest.High) k).2)) a.Doors.n (fun k hk => ?_) ?_
    · unfold JQ
      dsimp only
      obtain ⟨d1, d2, d3⟩ := ok.d k hk
      have q := akR ok i (b := (r.Rest.Low, r.Rest.High)) r1 r2 r3 k (by omega)
      have e := ang d1 d2 d3
      rw [qo (dlt hk), qo (dix hk), pI, qc (by omega)]
      by_cases c : (a.Doors.f k).Road = i
      · rw [qo (by simp [c]), qo (dix hk), qo (dix (by omega)), get_bind (akW d1 d2 d3)]
        rw [pJ (x := (rsum a.Doors s.Doors i (r.Rest.Low, r.Rest.High) k).1 + (rsS (a.Doors.f k).Rests (s.Doors.f k)).Low) (by omega) (by omega), pJ (x := (rsum a.Doors s.Doors i (r.Rest.Low, r.Rest.High) k).2 + (rsS (a.Doors.f k).Rests (s.Doors.f k)).High) (by omega) (by omega)]
        rw [show rsum a.Doors s.Doors i (r.Rest.Low, r.Rest.High) (k + 1) = ((rsum a.Doors s.Doors i (r.Rest.Low, r.Rest.High) k).1 + (rsS (a.Doors.f k).Rests (s.Doors.f k)).Low, (rsum a.Doors s.Doors i (r.Rest.Low, r.Rest.High) k).2 + (rsS (a.Doors.f k).Rests (s.Doors.f k)).High) from if_pos c]
        rfl
      · rw [qm (by simp [c]), show rsum a.Doors s.Doors i (r.Rest.Low, r.Rest.High) (k + 1) = rsum a.Doors s.Doors i (r.Rest.Low, r.Rest.High) k from if_neg c]
        rfl
    · unfold JQ
      dsimp only
      rw [qm (dge (Nat.le_refl _))]; rfl
  have q := akR ok i (b := (r.Rest.Low, r.Rest.High)) r1 r2 r3 a.Doors.n (Nat.le_refl _)
  rw [pV key]
  show DT.get (DT.ite _ _ _) = _
  dsimp only
  generalize rsum a.Doors s.Doors i (r.Rest.Low, r.Rest.High) a.Doors.n = b at q ⊢
  have sq := aol (lo := b.1) (hi := b.2) (x := x) q.1 q.2.1 (by omega) hx0 hx1
  have key2 : ∀ b0 : Int × Int, -5000000000000000000 ≤ b0.1 → b0.1 ≤ b0.2 → b0.2 ≤ 5000000000000000000 → JO i x a.Mine.Places a.Mine.Roads a.Fans a.Doors s.Fans s.Doors b0.1 b0.2 0 = some (.inl (fsum a.Fans s.Fans i x b0 a.Fans.n)) := by
    intro b0 hb0 hb1 hb2
    rw [ae8]
    refine pR (step := fun v : Int × Int × Int => Im i x a.Mine.Places a.Mine.Roads a.Fans a.Doors s.Fans s.Doors v.1 v.2.1 v.2.2) (z := .l (fsum a.Fans s.Fans i x b0 a.Fans.n))
      (fun k => ((fsum a.Fans s.Fans i x b0 k).1, (fsum a.Fans s.Fans i x b0 k).2, ((k : Nat) : Int))) a.Fans.n (fun k hk => ?_) ?_
    · unfold Im
      dsimp only
      obtain ⟨f1, f2, f3⟩ := ok.f k hk
      have bi := an6 ok i x b0 hb1 k (by omega)
      have si := ani f1 (s.Fans.f k) x
      rw [qo (dlt hk), qo (dix hk), pI, qc (by omega)]
      by_cases c : (a.Fans.f k).Road = i
      · rw [qo (by simp [c]), qo (dix hk), qo (dix (by omega)), get_bind (aky (aj1 f1) _ _)]
        rw [pJ (x := (fsum a.Fans s.Fans i x b0 k).1 - (stS (a.Fans.f k) (s.Fans.f k) x).High) (by omega) (by omega), pJ (x := (fsum a.Fans s.Fans i x b0 k).2 - (stS (a.Fans.f k) (s.Fans.f k) x).Low) (by omega) (by omega)]
        rw [show fsum a.Fans s.Fans i x b0 (k + 1) = ((fsum a.Fans s.Fans i x b0 k).1 - (stS (a.Fans.f k) (s.Fans.f k) x).High, (fsum a.Fans s.Fans i x b0 k).2 - (stS (a.Fans.f k) (s.Fans.f k) x).Low) from if_pos c]
        rfl
      · rw [qm (by simp [c]), show fsum a.Fans s.Fans i x b0 (k + 1) = fsum a.Fans s.Fans i x b0 k from if_neg c]
        rfl
    · unfold Im
      dsimp only
      rw [qm (dge (Nat.le_refl _))]; rfl
  obtain ⟨s0, s1⟩ := apy hx0 hx1
  have pl := akN (show 0 ≤ b.1 by omega) (by omega) s0 s1
  have ph := akN (show 0 ≤ b.2 by omega) (by omega) s0 s1
  have sm : ∀ u : Int, 0 ≤ u → u ≤ 4456448 → -4673000000000 ≤ u * x ∧ u * x ≤ 4673000000000 := by
    intro u h0 h1
    have m1 := Int.mul_le_mul h1 (show x ≤ 1048577 by omega)
    rcases Int.le_total 0 x with h | h
    · have := Int.mul_le_mul h1 hx1 h (show (0 : Int) ≤ 4456448 by omega)
      have := Int.mul_nonneg h0 h
      omega
    · have a1 := Int.mul_le_mul h1 (show -x ≤ 1048577 by omega) (by omega) (show (0 : Int) ≤ 4456448 by omega)
      have a2 := Int.mul_nonneg h0 (show 0 ≤ -x by omega)
      rw [Int.mul_neg] at a1 a2
      omega
  have e1 : wr (wr (b.1 * x) * x) = b.1 * (x * x) := by
    have := sm b.1 (by omega) (by omega)
    rw [pJ (x := b.1 * x) (by omega) (by omega), Int.mul_assoc, pJ (by omega) (by omega)]
  have e2 : wr (wr (b.2 * x) * x) = b.2 * (x * x) := by
    have := sm b.2 (by omega) (by omega)
    rw [pJ (x := b.2 * x) (by omega) (by omega), Int.mul_assoc, pJ (by omega) (by omega)]
  rw [e1, e2]
  unfold sqS at sq ⊢
  by_cases c : x < 0
  · rw [if_pos c] at sq
    rw [qo (decide_eq_true c), if_pos c]
    dsimp only at sq ⊢
    have n1 : wr (0 - b.2 * (x * x)) = -(b.2 * (x * x)) := by rw [pJ (by omega) (by omega)]; omega
    have n2 : wr (0 - b.1 * (x * x)) = -(b.1 * (x * x)) := by rw [pJ (by omega) (by omega)]; omega
    rw [n1, n2, pJ (x := -(b.2 * (x * x)) - r.Lift.High) (by omega) (by omega), pJ (x := -(b.1 * (x * x)) - r.Lift.Low) (by omega) (by omega)]
    rw [pV (key2 (-(b.2 * (x * x)) - r.Lift.High, -(b.1 * (x * x)) - r.Lift.Low) (by dsimp only; omega) (by dsimp only; omega) (by dsimp only; omega))]
    rfl
  · rw [if_neg c] at sq
    rw [qm (decide_eq_false c), if_neg c]
    dsimp only at sq ⊢
    rw [pJ (x := b.1 * (x * x) - r.Lift.High) (by omega) (by omega), pJ (x := b.2 * (x * x) - r.Lift.Low) (by omega) (by omega)]
    rw [pV (key2 (b.1 * (x * x) - r.Lift.High, b.2 * (x * x) - r.Lift.Low) (by dsimp only; omega) (by dsimp only; omega) (by dsimp only; omega))]
    rfl
end
end Go.Proofs.YtimkpfnbkclclaaGreat.Ab
