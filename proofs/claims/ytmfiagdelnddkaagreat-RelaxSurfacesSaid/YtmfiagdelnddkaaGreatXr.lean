/- Stage 9, maths: Drop, by the program and by the document. -/
import Derived.Test.YtmfiagdelnddkaaGreatXq
namespace Go.Proofs.YtmfiagdelnddkaaGreat.Ab
noncomputable section
open Go
theorem akd {x : Int} (h0 : -1048577 ≤ x) (h1 : x ≤ 1048577) : 0 ≤ x * x ∧ x * x ≤ 1099513724929 := by
  have a : 0 ≤ x * x := by
    rcases Int.le_total 0 x with h | h
    · exact Int.mul_nonneg h h
    · exact Int.mul_nonneg_of_nonpos_of_nonpos h h
  refine ⟨a, ?_⟩
  rcases Int.le_total 0 x with h | h
  · exact Int.mul_le_mul h1 h1 h (by omega)
  · have := Int.mul_le_mul (show -x ≤ 1048577 by omega) (show -x ≤ 1048577 by omega) (show 0 ≤ -x by omega) (show (0 : Int) ≤ 1048577 by omega)
    rw [Int.neg_mul_neg] at this
    exact this
theorem U5 {b X : Int} (h0 : 0 ≤ b) (h1 : b ≤ 4456448) (h2 : 0 ≤ X) (h3 : X ≤ 1099513724929) : 0 ≤ b * X ∧ b * X ≤ 4899925740580192192 := by
  refine ⟨Int.mul_nonneg h0 h2, ?_⟩
  have := Int.mul_le_mul h1 h3 h2 (show (0 : Int) ≤ 4456448 by omega)
  omega
theorem ahR {lo hi x : Int} (h0 : 1 ≤ lo) (h1 : lo ≤ hi) (h2 : hi ≤ 4456448) (hx0 : -1048577 ≤ x) (hx1 : x ≤ 1048577) : -4899925740580192192 ≤ (sqS lo hi x).1 ∧ (sqS lo hi x).1 ≤ (sqS lo hi x).2 ∧ (sqS lo hi x).2 ≤ 4899925740580192192 := by
  obtain ⟨a, b⟩ := akd hx0 hx1
  have p := U5 (show 0 ≤ lo by omega) (by omega) a b
  have q := U5 (show 0 ≤ hi by omega) h2 a b
  have m := Int.mul_le_mul_of_nonneg_right h1 a
  unfold sqS
  split <;> (dsimp only; omega)
def bsum (B : Sq aT) (x : Int) (b : Int × Int) : Nat → Int × Int
  | 0 => b
  | k + 1 => ((bsum B x b k).1 - (stS (B.f k).Fan (B.f k).state_ x).High, (bsum B x b k).2 - (stS (B.f k).Fan (B.f k).state_ x).Low)
theorem agY (B : Sq aT) (x : Int) (b : Int × Int) (k : Nat) : bsum B x b (k + 1) = ((bsum B x b k).1 - (stS (B.f k).Fan (B.f k).state_ x).High, (bsum B x b k).2 - (stS (B.f k).Fan (B.f k).state_ x).Low) := rfl
theorem afF {B B' : Sq aT} {x : Int} {b : Int × Int} : ∀ k, (∀ j, j < k → B.f j = B'.f j) → bsum B x b k = bsum B' x b k := by
  intro k
  induction k with
  | zero => intro _; rfl
  | succ k ih =>
    intro h
    unfold bsum
    rw [ih fun j hj => h j (by omega), h k (by omega)]
structure AwOK (a : SAir) (s : au) (i : Nat) (w : aY) : Prop where
  rest : w.Road.Rest = spS (rsum a.Doors s.Doors i ((a.Mine.Roads.f i).Rest.Low, (a.Mine.Roads.f i).Rest.High) a.Doors.n)
  lift : w.Road.Lift = (a.Mine.Roads.f i).Lift
  n : w.blowers_.n ≤ 8
  v : ∀ j, j < w.blowers_.n → fanE (w.blowers_.f j).Fan = 0 ∧ -1 ≤ (w.blowers_.f j).state_ ∧ (w.blowers_.f j).state_ ≤ 2
  b : ∀ x b, bsum w.blowers_ x b w.blowers_.n = fsum a.Fans s.Fans i x b a.Fans.n
theorem RQ {a : SAir} {s : au} (ok : RtOK a s) {i : Nat} (hi : i < a.Mine.Roads.n) : ∃ w, Dq a s i = some w ∧ AwOK a s i w := by
  have hf := ok.nf
  have hd := ok.nd
  have hsf := ok.sf
  have hsd := ok.sd
  obtain ⟨r1, r2, r3, _⟩ := NG ok.m hi
  rw [RP]; unfold Ay
  rw [aA (dix hi), aF]
  generalize hr : a.Mine.Roads.f i = r at r1 r2 r3
  have key : zG i a.Doors a.Mine.Places a.Mine.Roads a.Fans s.Fans s.Doors r.From r.To r.Length r.Area r.Walk r.Closed r.Lift.Low r.Lift.High r.Rest.Low r.Rest.High 0 = some (.inl (rsum a.Doors s.Doors i (r.Rest.Low, r.Rest.High) a.Doors.n)) := by
    rw [LP]
    refine yI (step := fun v : Int × Int × Int => iY i a.Doors a.Mine.Places a.Mine.Roads a.Fans s.Fans s.Doors r.From r.To r.Length r.Area r.Walk r.Closed r.Lift.Low r.Lift.High v.1 v.2.1 v.2.2) (z := .l (rsum a.Doors s.Doors i (r.Rest.Low, r.Rest.High) a.Doors.n))
      (fun k => ((rsum a.Doors s.Doors i (r.Rest.Low, r.Rest.High) k).1, (rsum a.Doors s.Doors i (r.Rest.Low, r.Rest.High) k).2, ((k : Nat) : Int))) a.Doors.n (fun k hk => ?_) ?_
    · unfold iY
      dsimp only
      obtain ⟨d1, d2, d3⟩ := ok.d k hk
      have q := VD ok i (b := (r.Rest.Low, r.Rest.High)) r1 r2 r3 k (by omega)
      have e := aft d1 d2 d3
      rw [aA (dlt hk), aA (dix hk), aF, aQ (by omega)]
      by_cases c : (a.Doors.f k).Road = i
      · have pl : ∀ u v : aK, Qz u v = some ⟨wr (u.Low + v.Low), wr (u.High + v.High)⟩ := fun u v => by rw [ZH]; rfl
        rw [aA (by simp [c]), aA (dix (by omega)), get_bind (aem d1 d2 d3), get_bind (pl _ _)]
        dsimp only
        rw [aO (x := (rsum a.Doors s.Doors i (r.Rest.Low, r.Rest.High) k).1 + (rsS (a.Doors.f k).Rests (s.Doors.f k)).Low) (by omega) (by omega), aO (x := (rsum a.Doors s.Doors i (r.Rest.Low, r.Rest.High) k).2 + (rsS (a.Doors.f k).Rests (s.Doors.f k)).High) (by omega) (by omega)]
        rw [show rsum a.Doors s.Doors i (r.Rest.Low, r.Rest.High) (k + 1) = ((rsum a.Doors s.Doors i (r.Rest.Low, r.Rest.High) k).1 + (rsS (a.Doors.f k).Rests (s.Doors.f k)).Low, (rsum a.Doors s.Doors i (r.Rest.Low, r.Rest.High) k).2 + (rsS (a.Doors.f k).Rests (s.Doors.f k)).High) from if_pos c]
        rfl
      · rw [aD (by simp [c]), show rsum a.Doors s.Doors i (r.Rest.Low, r.Rest.High) (k + 1) = rsum a.Doors s.Doors i (r.Rest.Low, r.Rest.High) k from if_neg c]
        rfl
    · unfold iY
      dsimp only
      rw [aD (dge (Nat.le_refl _))]; rfl
  rw [aI key]
  show ∃ w, DT.get (DT.sum _ _ _) = _ ∧ _
  have key2 := bH (step := fun v : Sq aT × Int => lY i a.Fans s.Fans s.Doors r.From r.To r.Length r.Area r.Walk r.Closed (rsum a.Doors s.Doors i (r.Rest.Low, r.Rest.High) a.Doors.n).1 (rsum a.Doors s.Doors i (r.Rest.Low, r.Rest.High) a.Doors.n).2 r.Lift.Low r.Lift.High v.1 v.2)
    (fun v => ∃ k : Nat, v.2 = k ∧ k ≤ a.Fans.n ∧ v.1.n ≤ k ∧ (∀ j, j < v.1.n → fanE (v.1.f j).Fan = 0 ∧ -1 ≤ (v.1.f j).state_ ∧ (v.1.f j).state_ ≤ 2) ∧ ∀ x b, bsum v.1 x b v.1.n = fsum a.Fans s.Fans i x b k) (fun v => a.Fans.n - v.2.toNat)
    (fun z => ∃ B, z = .inl B ∧ B.n ≤ 8 ∧ (∀ j, j < B.n → fanE (B.f j).Fan = 0 ∧ -1 ≤ (B.f j).state_ ∧ (B.f j).state_ ≤ 2) ∧ ∀ x b, bsum B x b B.n = fsum a.Fans s.Fans i x b a.Fans.n) (fun v hv => by
      obtain ⟨B, _⟩ := v
      obtain ⟨k, rfl, hk, hn, hv, hb⟩ := hv
      dsimp only at hn hv hb ⊢
      unfold lY
      by_cases hlt : k < a.Fans.n
      · rw [aA (dlt hlt), aA (dix hlt), aF, aQ (by omega)]
        by_cases c : (a.Fans.f k).Road = i
        · rw [aA (by simp [c]), aA (dix (by omega)), aA (decide_eq_true ⟨by omega, by omega⟩)]
          refine ⟨_, rfl, ⟨k + 1, rfl, by omega, by dsimp only; omega, fun j hj => ?_, fun x b => ?_⟩, by dsimp only; omega⟩
          · dsimp only at hj ⊢
            by_cases hj2 : j < B.n
            · rw [yO hj2]; exact hv j hj2
            · rw [Au (by omega)]; exact ok.f k hlt
          · show bsum _ x b (B.n + 1) = _
            rw [show fsum a.Fans s.Fans i x b (k + 1) = ((fsum a.Fans s.Fans i x b k).1 - (stS (a.Fans.f k) (s.Fans.f k) x).High, (fsum a.Fans s.Fans i x b k).2 - (stS (a.Fans.f k) (s.Fans.f k) x).Low) from if_pos c, ← hb]
            rw [agY, afF (B' := B) B.n (fun j hj => by dsimp only; rw [yO hj]; rfl)]
            dsimp only
            rw [Au (Nat.le_refl _)]
            rfl
        · rw [aD (by simp [c])]
          exact ⟨_, rfl, ⟨k + 1, rfl, by omega, by dsimp only; omega, hv, fun x b => by rw [show fsum a.Fans s.Fans i x b (k + 1) = fsum a.Fans s.Fans i x b k from if_neg c]; exact hb x b⟩, by dsimp only; omega⟩
      · obtain rfl : k = a.Fans.n := by omega
        rw [aD (dge (Nat.le_refl _))]
        exact ⟨_, rfl, B, rfl, by omega, hv, hb⟩)
    (⟨0, fun _ => ⟨⟨0, false, false, ⟨0, fun _ => ⟨0, 0⟩⟩⟩, 0⟩⟩, 0) ⟨0, rfl, Nat.zero_le _, Nat.le_refl _, fun j hj => by dsimp only at hj; omega, fun x b => rfl⟩
  obtain ⟨z, hz, B, rfl, g1, g2, g3⟩ := key2
  rw [aI (by rw [LQ]; exact hz)]
  exact ⟨_, rfl, by rw [hr]; rfl, by rw [hr], g1, g2, g3⟩
theorem R5 (s t : aK) : IW s t = some ⟨wr (s.Low - t.High), wr (s.High - t.Low)⟩ := by rw [ZF]; rfl
theorem ajE {B : Sq aT} (hv : ∀ j, j < B.n → fanE (B.f j).Fan = 0 ∧ -1 ≤ (B.f j).state_ ∧ (B.f j).state_ ≤ 2) (x : Int) (b : Int × Int) : ∀ k, k ≤ B.n → b.1 - 2199023255552 * k ≤ (bsum B x b k).1 ∧ (bsum B x b k).1 ≤ b.1 + 2199023255552 * k ∧ (bsum B x b k).2 ≤ b.2 + 2199023255552 * k ∧ b.2 - 2199023255552 * k ≤ (bsum B x b k).2 := by
  intro k
  induction k with
  | zero => intro _; show b.1 - _ ≤ b.1 ∧ b.1 ≤ _ ∧ b.2 ≤ _ ∧ _ ≤ b.2; omega
  | succ k ih =>
    intro hk
    have i := ih (by omega)
    have q := afw (hv k (by omega)).1 (B.f k).state_ x
    unfold bsum
    dsimp only; omega
theorem akh {lo hi x : Int} (h0 : 1 ≤ lo) (h1 : lo ≤ hi) (h2 : hi ≤ 4456448) (hx0 : -1048577 ≤ x) (hx1 : x ≤ 1048577) :
    L6 ⟨lo, hi⟩ (wr (x * (if x < wr (0 - x) then wr (0 - x) else x))) = some (spS (sqS lo hi x)) := by
  obtain ⟨a, b⟩ := akd hx0 hx1
  have p := U5 (show 0 ≤ lo by omega) (by omega) a b
  have q := U5 (show 0 ≤ hi by omega) h2 a b
  have m := Int.mul_le_mul_of_nonneg_right h1 a
  have w0 : wr (0 - x) = -x := by rw [aO (by omega) (by omega)]; omega
  rw [w0, Yn]
  unfold FX sqS
  rw [DT.get_leaf]
  by_cases c : x < 0
  · rw [if_pos (show x < -x by omega), if_pos c]
    have e : x * -x = -(x * x) := Int.mul_neg x x
    rw [e, aO (x := -(x * x)) (by omega) (by omega)]
    dsimp only
    rw [Int.mul_neg, Int.mul_neg, aO (x := -(hi * (x * x))) (by omega) (by omega), aO (x := -(lo * (x * x))) (by omega) (by omega)]
    unfold spS
    congr 2
    · split <;> omega
    · split <;> omega
  · rw [if_neg (show ¬ x < -x by omega), if_neg c, aO (x := x * x) (by omega) (by omega)]
    dsimp only
    rw [aO (x := hi * (x * x)) (by omega) (by omega), aO (x := lo * (x * x)) (by omega) (by omega)]
    unfold spS
    congr 2
    · split <;> omega
    · split <;> omega
theorem RH {a : SAir} {s : au} (ok : RtOK a s) {i : Nat} (hi : i < a.Mine.Roads.n) {w : aY} (hw : AwOK a s i w) {x : Int} (hx0 : -1048577 ≤ x) (hx1 : x ≤ 1048577) : uW w x = some (spS (cK a s i x)) := by
  obtain ⟨r1, r2, r3, r4, r5, r6, _⟩ := NG ok.m hi
  have q := VD ok i (b := ((a.Mine.Roads.f i).Rest.Low, (a.Mine.Roads.f i).Rest.High)) r1 r2 r3 a.Doors.n (Nat.le_refl _)
  have hd := ok.nd
  have hn := hw.n
  rw [LV]; unfold xL cK
  rw [hw.rest, hw.lift]
  dsimp only [spS]
  generalize rsum a.Doors s.Doors i ((a.Mine.Roads.f i).Rest.Low, (a.Mine.Roads.f i).Rest.High) a.Doors.n = b at q ⊢
  have sq := ahR (lo := b.1) (hi := b.2) (x := x) q.1 q.2.1 (by omega) hx0 hx1
  rw [get_bind (akh (lo := b.1) (hi := b.2) (x := x) q.1 q.2.1 (by omega) hx0 hx1), get_bind (R5 _ _)]
  dsimp only [spS]
  rw [aO (x := (sqS b.1 b.2 x).1 - (a.Mine.Roads.f i).Lift.High) (by omega) (by omega), aO (x := (sqS b.1 b.2 x).2 - (a.Mine.Roads.f i).Lift.Low) (by omega) (by omega), ← hw.b]
  generalize hB0 : ((sqS b.1 b.2 x).1 - (a.Mine.Roads.f i).Lift.High, (sqS b.1 b.2 x).2 - (a.Mine.Roads.f i).Lift.Low) = b0
  have z1 : (sqS b.1 b.2 x).1 - (a.Mine.Roads.f i).Lift.High = b0.1 := by rw [← hB0]
  have z2 : (sqS b.1 b.2 x).2 - (a.Mine.Roads.f i).Lift.Low = b0.2 := by rw [← hB0]
  rw [z1, z2]
  have key : vO x w.Road.From w.Road.To w.Road.Length w.Road.Area w.Road.Walk w.Road.Closed b.1 b.2 (a.Mine.Roads.f i).Lift.Low (a.Mine.Roads.f i).Lift.High w.blowers_ b0.1 b0.2 0 = some (.inl (bsum w.blowers_ x b0 w.blowers_.n)) := by
    rw [G8]
    refine yI (step := fun v : Int × Int × Int => fM x w.Road.From w.Road.To w.Road.Length w.Road.Area w.Road.Walk w.Road.Closed b.1 b.2 (a.Mine.Roads.f i).Lift.Low (a.Mine.Roads.f i).Lift.High w.blowers_ v.1 v.2.1 v.2.2) (z := .l (bsum w.blowers_ x b0 w.blowers_.n))
      (fun k => ((bsum w.blowers_ x b0 k).1, (bsum w.blowers_ x b0 k).2, ((k : Nat) : Int))) w.blowers_.n (fun k hk => ?_) ?_
    · unfold fM
      dsimp only
      obtain ⟨f1, f2, f3⟩ := hw.v k hk
      have bi := ajE hw.v x b0 k (by omega)
      have si := afw f1 (w.blowers_.f k).state_ x
      rw [aA (dlt hk), aA (dix hk), aF, aQ (by omega), get_bind (ais f1 ⟨f2, f3⟩ x ⟨hx0, hx1⟩), get_bind (R5 _ _)]
      dsimp only
      rw [aO (x := (bsum w.blowers_ x b0 k).1 - (stS (w.blowers_.f k).Fan (w.blowers_.f k).state_ x).High) (by omega) (by omega), aO (x := (bsum w.blowers_ x b0 k).2 - (stS (w.blowers_.f k).Fan (w.blowers_.f k).state_ x).Low) (by omega) (by omega)]
      rfl
    · unfold fM
      dsimp only
      rw [aD (dge (Nat.le_refl _))]; rfl
  rw [aI key]; rfl
def opB (a : SAir) (s : au) (road : Int) : Prop := aZ a s = true ∧ 0 ≤ road ∧ road < a.Mine.Roads.n ∧ (a.Mine.Roads.f road.toNat).Closed = false
theorem abn (a : SAir) (s : au) (road : Int) : (opB a s road ∧ ∃ w, IX a s road = some (w, true) ∧ AwOK a s road.toNat w) ∨ (¬ opB a s road ∧ ∃ w, IX a s road = some (w, false)) := by
  rw [ZG]; unfold IY
  rw [get_bind (FR a s)]
  cases hr : aZ a s with
  | false => exact .inr ⟨fun h => by { have := h.1; rw [hr] at this; cases this }, _, rfl⟩
  | true =>
    have ok := aW hr
    rw [aD (b := !true) rfl, get_bind (BM a road ok.m.nr)]
    by_cases c : 0 ≤ road ∧ road ≤ (a.Mine.Roads.n : Int) - 1
    · rw [aD (by simp only [decide_eq_true c, Bool.not_true]), aA (decide_eq_true ⟨by omega, by omega⟩)]
      cases hc : (a.Mine.Roads.f road.toNat).Closed with
      | true => exact .inr ⟨fun h => by { have := h.2.2.2; rw [hc] at this; cases this }, _, rfl⟩
      | false =>
        obtain ⟨w, e, aw⟩ := RQ ok (i := road.toNat) (by omega)
        rw [show ((road.toNat : Nat) : Int) = road by omega] at e
        rw [aD (b := false) rfl, get_bind e]
        exact .inl ⟨⟨hr, c.1, by omega, hc⟩, w, rfl, aw⟩
    · rw [aA (by simp only [decide_eq_false c, Bool.not_false])]
      exact .inr ⟨fun h => c ⟨h.2.1, by have := h.2.2.1; omega⟩, _, rfl⟩
open Classical in
def akD (a : SAir) (s : au) (road x : Int) : aK := if opB a s road ∧ -1048577 ≤ x ∧ x ≤ 1048577 then spS (cK a s road.toNat x) else ⟨0, 0⟩
theorem Tw {a : SAir} {s : au} (ok : RtOK a s) {i : Nat} (hi : i < a.Mine.Roads.n) {x : Int} (hx0 : -1048577 ≤ x) (hx1 : x ≤ 1048577) : JL a s i x = some (spS (cK a s i x)) := by
  obtain ⟨r1, r2, r3, r4, r5, r6, _⟩ := NG ok.m hi
  have hf := ok.nf
  have hd := ok.nd
  have hsf := ok.sf
  have hsd := ok.sd
  rw [aal]; unfold JM cK
  rw [aA (dix hi), aF]
  generalize a.Mine.Roads.f i = r at r1 r2 r3 r4 r5 r6 ⊢
  have key : Gl i x a.Mine.Places a.Mine.Roads a.Fans a.Doors s.Fans s.Doors r.From r.To r.Length r.Area r.Walk r.Closed r.Rest.Low r.Rest.High r.Lift.Low r.Lift.High 0 r.Rest.Low r.Rest.High = some (.inl (rsum a.Doors s.Doors i (r.Rest.Low, r.Rest.High) a.Doors.n)) := by
    rw [Vj]
    refine yI (step := fun v : Int × Int × Int => nC i x a.Mine.Places a.Mine.Roads a.Fans a.Doors s.Fans s.Doors r.From r.To r.Length r.Area r.Walk r.Closed r.Rest.Low r.Rest.High r.Lift.Low r.Lift.High v.1 v.2.1 v.2.2) (z := .l (rsum a.Doors s.Doors i (r.Rest.Low, r.Rest.High) a.Doors.n))
      (fun k => (((k : Nat) : Int), (rsum a.Doors s.Doors i (r.Rest.Low, r.Rest.High) k).1, (rsum a.Doors s.Doors i (r.Rest.Low, r.Rest.High) k).2)) a.Doors.n (fun k hk => ?_) ?_
    · unfold nC
      dsimp only
      obtain ⟨d1, d2, d3⟩ := ok.d k hk
      have q := VD ok i (b := (r.Rest.Low, r.Rest.High)) r1 r2 r3 k (by omega)
      have e := aft d1 d2 d3
      rw [aA (dlt hk), aA (dix hk), aF, aQ (by omega)]
      by_cases c : (a.Doors.f k).Road = i
      · rw [aA (by simp [c]), aA (dix hk), aA (dix (by omega)), get_bind (V6 d1 d2 d3)]
        rw [aO (x := (rsum a.Doors s.Doors i (r.Rest.Low, r.Rest.High) k).1 + (rsS (a.Doors.f k).Rests (s.Doors.f k)).Low) (by omega) (by omega), aO (x := (rsum a.Doors s.Doors i (r.Rest.Low, r.Rest.High) k).2 + (rsS (a.Doors.f k).Rests (s.Doors.f k)).High) (by omega) (by omega)]
        rw [show rsum a.Doors s.Doors i (r.Rest.Low, r.Rest.High) (k + 1) = ((rsum a.Doors s.Doors i (r.Rest.Low, r.Rest.High) k).1 + (rsS (a.Doors.f k).Rests (s.Doors.f k)).Low, (rsum a.Doors s.Doors i (r.Rest.Low, r.Rest.High) k).2 + (rsS (a.Doors.f k).Rests (s.Doors.f k)).High) from if_pos c]
        rfl
      · rw [aD (by simp [c]), show rsum a.Doors s.Doors i (r.Rest.Low, r.Rest.High) (k + 1) = rsum a.Doors s.Doors i (r.Rest.Low, r.Rest.High) k from if_neg c]
        rfl
    · unfold nC
      dsimp only
      rw [aD (dge (Nat.le_refl _))]; rfl
  have q := VD ok i (b := (r.Rest.Low, r.Rest.High)) r1 r2 r3 a.Doors.n (Nat.le_refl _)
  rw [aI key]
  show DT.get (DT.ite _ _ _) = _
  dsimp only
  generalize rsum a.Doors s.Doors i (r.Rest.Low, r.Rest.High) a.Doors.n = b at q ⊢
  have sq := ahR (lo := b.1) (hi := b.2) (x := x) q.1 q.2.1 (by omega) hx0 hx1
  have key2 : ∀ b0 : Int × Int, -5000000000000000000 ≤ b0.1 → b0.1 ≤ b0.2 → b0.2 ≤ 5000000000000000000 → zQ i x a.Mine.Places a.Mine.Roads a.Fans a.Doors s.Fans s.Doors b0.1 b0.2 0 = some (.inl (fsum a.Fans s.Fans i x b0 a.Fans.n)) := by
    intro b0 hb0 hb1 hb2
    rw [Tv]
    refine yI (step := fun v : Int × Int × Int => lS i x a.Mine.Places a.Mine.Roads a.Fans a.Doors s.Fans s.Doors v.1 v.2.1 v.2.2) (z := .l (fsum a.Fans s.Fans i x b0 a.Fans.n))
      (fun k => ((fsum a.Fans s.Fans i x b0 k).1, (fsum a.Fans s.Fans i x b0 k).2, ((k : Nat) : Int))) a.Fans.n (fun k hk => ?_) ?_
    · unfold lS
      dsimp only
      obtain ⟨f1, f2, f3⟩ := ok.f k hk
      have bi := ahg ok i x b0 hb1 k (by omega)
      have si := afw f1 (s.Fans.f k) x
      rw [aA (dlt hk), aA (dix hk), aF, aQ (by omega)]
      by_cases c : (a.Fans.f k).Road = i
      · rw [aA (by simp [c]), aA (dix hk), aA (dix (by omega)), get_bind (Ti (Hf f1) _ _)]
        rw [aO (x := (fsum a.Fans s.Fans i x b0 k).1 - (stS (a.Fans.f k) (s.Fans.f k) x).High) (by omega) (by omega), aO (x := (fsum a.Fans s.Fans i x b0 k).2 - (stS (a.Fans.f k) (s.Fans.f k) x).Low) (by omega) (by omega)]
        rw [show fsum a.Fans s.Fans i x b0 (k + 1) = ((fsum a.Fans s.Fans i x b0 k).1 - (stS (a.Fans.f k) (s.Fans.f k) x).High, (fsum a.Fans s.Fans i x b0 k).2 - (stS (a.Fans.f k) (s.Fans.f k) x).Low) from if_pos c]
        rfl
      · rw [aD (by simp [c]), show fsum a.Fans s.Fans i x b0 (k + 1) = fsum a.Fans s.Fans i x b0 k from if_neg c]
        rfl
    · unfold lS
      dsimp only
      rw [aD (dge (Nat.le_refl _))]; rfl
  obtain ⟨s0, s1⟩ := akd hx0 hx1
  have pl := U5 (show 0 ≤ b.1 by omega) (by omega) s0 s1
  have ph := U5 (show 0 ≤ b.2 by omega) (by omega) s0 s1
  have sm : ∀ u : Int, 0 ≤ u → u ≤ 4456448 → -4673000000000 ≤ u * x ∧ u * x ≤ 4673000000000 := by
    intro u h0 h1
    have m1 := Int.mul_le_mul h1 (show x ≤ 1048577 by omega)
    rcases Int.le_total 0 x with h | h
    · have := Int.mul_le_mul h1 hx1 h (show (0 : Int) ≤ 4456448 by omega)
      have := Int.mul_nonneg h0 h
      omega
    · have a1 := Int.mul_le_mul h1 (show -x ≤ 1048577 by omega) (by omega) (show (0 : Int) ≤ 4456448 by omega)
      have a2 := Int.mul_nonneg h0 (show 0 ≤ -x by omega)
      rw [Int.mul_neg] at a1 a2
      omega
  have e1 : wr (wr (b.1 * x) * x) = b.1 * (x * x) := by
    have := sm b.1 (by omega) (by omega)
    rw [aO (x := b.1 * x) (by omega) (by omega), Int.mul_assoc, aO (by omega) (by omega)]
  have e2 : wr (wr (b.2 * x) * x) = b.2 * (x * x) := by
    have := sm b.2 (by omega) (by omega)
    rw [aO (x := b.2 * x) (by omega) (by omega), Int.mul_assoc, aO (by omega) (by omega)]
  rw [e1, e2]
  unfold sqS at sq ⊢
  by_cases c : x < 0
  · rw [if_pos c] at sq
    rw [aA (decide_eq_true c), if_pos c]
    dsimp only at sq ⊢
    have n1 : wr (0 - b.2 * (x * x)) = -(b.2 * (x * x)) := by rw [aO (by omega) (by omega)]; omega
    have n2 : wr (0 - b.1 * (x * x)) = -(b.1 * (x * x)) := by rw [aO (by omega) (by omega)]; omega
    rw [n1, n2, aO (x := -(b.2 * (x * x)) - r.Lift.High) (by omega) (by omega), aO (x := -(b.1 * (x * x)) - r.Lift.Low) (by omega) (by omega)]
    rw [aI (key2 (-(b.2 * (x * x)) - r.Lift.High, -(b.1 * (x * x)) - r.Lift.Low) (by dsimp only; omega) (by dsimp only; omega) (by dsimp only; omega))]
    rfl
  · rw [if_neg c] at sq
    rw [aD (decide_eq_false c), if_neg c]
    dsimp only at sq ⊢
    rw [aO (x := b.1 * (x * x) - r.Lift.High) (by omega) (by omega), aO (x := b.2 * (x * x) - r.Lift.Low) (by omega) (by omega)]
    rw [aI (key2 (b.1 * (x * x) - r.Lift.High, b.2 * (x * x) - r.Lift.Low) (by dsimp only; omega) (by dsimp only; omega) (by dsimp only; omega))]
    rfl
end
end Go.Proofs.YtmfiagdelnddkaaGreat.Ab
