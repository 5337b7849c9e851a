/- A part of the proof, what is needed of it. -/
import Derived.Test.YtimkpfnbkclclaaGreatPk10
import Derived.Test.YtimkpfnbkclclaaGreatPk11
namespace Go.Proofs.YtimkpfnbkclclaaGreat.Ab
open Go
structure akl (r : Sq Int) : Prop where
  n0 : 2 ≤ r.n
  n1 : r.n ≤ 6
  f : ∀ i, i < r.n → 0 ≤ r.f i ∧ r.f i ≤ 262144
  m : ∀ i, 0 < i → i < r.n → r.f i < r.f (i - 1)
theorem anu {l : Sq qD} {i : Nat} (h : ajt l i = 0) : akl (l.f i).Rests := by
  obtain ⟨h1, h2⟩ := akg h
  unfold ajt at h
  rw [if_neg (by have := akL (show ajt l i = 0 from h); omega), if_neg (by omega), if_neg (by omega)] at h
  cases ho : bn (gO (l.f i).Rests) (l.f i).Rests.n 0 with
  | some u => rw [ho] at h; cases h
  | none =>
    rw [ho] at h
    cases hd : bn (gD (l.f i).Rests) (l.f i).Rests.n 0 with
    | some u => rw [hd] at h; cases h
    | none =>
      refine ⟨h1, h2, fun k hk => ?_, fun k h0 hk => ?_⟩
      · have := oh ho k (by omega) (by omega)
        unfold gO at this
        split at this
        · assumption
        · cases this
      · have := oh hd k (by omega) (by omega)
        unfold gD at this
        split at this
        · cases this
        · rename_i q
          rcases Int.lt_or_le ((l.f i).Rests.f k) ((l.f i).Rests.f (k - 1)) with h | h
          · exact h
          · exact absurd ⟨h0, h⟩ q
theorem akl.dec {r : Sq Int} (ok : akl r) : ∀ d i, i + d < r.n → r.f (i + d) ≤ r.f i := by
  intro d
  induction d with
  | zero => intro i _; exact Int.le_refl _
  | succ d ih =>
    intro i h
    have h1 := ih i (by omega)
    have h2 := ok.m (i + (d + 1)) (by omega) h
    rw [show i + (d + 1) - 1 = i + d by omega] at h2
    omega
def rsS (r : Sq Int) (st : Int) : qB := if 0 ≤ st then ⟨r.f st.toNat, r.f st.toNat⟩ else ⟨r.f (r.n - 1), r.f 0⟩
theorem ang {r : Sq Int} (ok : akl r) {st : Int} (_ : -1 ≤ st) (h1 : st < r.n) : 0 ≤ (rsS r st).Low ∧ (rsS r st).Low ≤ (rsS r st).High ∧ (rsS r st).High ≤ 262144 := by
  have n0 := ok.n0
  unfold rsS
  split
  · have := ok.f st.toNat (by omega)
    dsimp only
    omega
  · have a := ok.f (r.n - 1) (by omega)
    have b := ok.f 0 (by omega)
    have c := ok.dec (r.n - 1) 0 (by omega)
    rw [Nat.zero_add] at c
    dsimp only
    omega
theorem amQ {d : qD} (ok : akl d.Rests) {st : Int} (h0 : -1 ≤ st) (h1 : st < d.Rests.n) : adR d st = some (rsS d.Rests st) := by
  have n0 := ok.n0
  have n1 := ok.n1
  rw [aiu]; unfold aaI rsS
  rw [get_bind (alJ _ _)]
  by_cases a : 0 ≤ st
  · rw [qo (decide_eq_true ⟨a, h1⟩), qo (decide_eq_true ⟨a, h1⟩), qo (decide_eq_true ⟨a, h1⟩), if_pos a]; rfl
  rw [qm (decide_eq_false (by omega)), qo (by simp; omega), qo (decide_eq_true (by omega)), if_neg a]
  have mn : acV d.Rests = some (d.Rests.f (d.Rests.n - 1)) := by
    rw [aiq]; unfold ZE
    rw [qm (decide_eq_false (by omega)), qo (decide_eq_true ⟨Int.le_refl _, by omega⟩)]
    have e : XK d.Rests (d.Rests.f 0) 1 = some (.inl (d.Rests.f (d.Rests.n - 1))) := by
      rw [agJ]
      refine pR (step := fun v : Int × Int => Lb d.Rests v.1 v.2) (z := .l (d.Rests.f (d.Rests.n - 1))) (fun i => (d.Rests.f i, ((i + 1 : Nat) : Int))) (d.Rests.n - 1) (fun i hi => ?_) ?_
      · unfold Lb
        dsimp only
        have := ok.m (i + 1) (by omega) (by omega)
        rw [show i + 1 - 1 = i by omega] at this
        rw [qo (dlt (by omega)), qo (dix (by omega)), pI, if_pos this, qc (by omega)]; rfl
      · unfold Lb
        dsimp only
        rw [qm (dge (by omega))]; rfl
    rw [pV e]; rfl
  have mx : acU d.Rests = some (d.Rests.f 0) := by
    rw [aip]; unfold ZB
    rw [qm (decide_eq_false (by omega)), qo (decide_eq_true ⟨Int.le_refl _, by omega⟩)]
    have e : XJ d.Rests (d.Rests.f 0) 1 = some (.inl (d.Rests.f 0)) := by
      rw [agI]
      refine pR (step := fun v : Int × Int => La d.Rests v.1 v.2) (z := .l (d.Rests.f 0)) (fun i => (d.Rests.f 0, ((i + 1 : Nat) : Int))) (d.Rests.n - 1) (fun i hi => ?_) ?_
      · unfold La
        dsimp only
        have := ok.dec (i + 1) 0 (by omega)
        rw [Nat.zero_add] at this
        rw [qo (dlt (by omega)), qo (dix (by omega)), pI, if_neg (by omega), qc (by omega)]; rfl
      · unfold La
        dsimp only
        rw [qm (dge (by omega))]; rfl
    rw [pV e]; rfl
  rw [get_bind mn, get_bind mx]; rfl
theorem akW {d : qD} (ok : akl d.Rests) {st : Int} (h0 : -1 ≤ st) (h1 : st < d.Rests.n) : Yy d st = some (rsS d.Rests st) := by
  have n0 := ok.n0
  have n1 := ok.n1
  rw [aic]; unfold Zl rsS
  rw [qm (by simp; omega), qm (decide_eq_false (by omega)), qm (decide_eq_false (by omega))]
  by_cases a : 0 ≤ st
  · rw [qo (decide_eq_true a), qo (decide_eq_true ⟨a, h1⟩), qo (decide_eq_true ⟨a, h1⟩), if_pos a]; rfl
  rw [qm (decide_eq_false a), qo (decide_eq_true ⟨Int.le_refl _, by omega⟩), qo (decide_eq_true ⟨Int.le_refl _, by omega⟩), if_neg a]
  have e : Xi d.Road d.Other d.Rests (d.Rests.f 0) 0 (d.Rests.f 0) = some (.inl (d.Rests.f (d.Rests.n - 1), d.Rests.f 0)) := by
    rw [agA]
    refine pR (step := fun v : Int × Int × Int => KV d.Road d.Other d.Rests v.1 v.2.1 v.2.2) (z := .l (d.Rests.f (d.Rests.n - 1), d.Rests.f 0)) (fun i => (d.Rests.f (i - 1), ((i : Nat) : Int), d.Rests.f 0)) d.Rests.n (fun i hi => ?_) ?_
    · unfold KV
      dsimp only
      have c := ok.dec i 0 (by omega)
      rw [Nat.zero_add] at c
      rw [qo (dlt hi), qo (dix hi), qo (dix hi), pI, qc (by omega), if_neg (show ¬ d.Rests.f 0 < d.Rests.f i by omega)]
      have e1 : (if d.Rests.f i < d.Rests.f (i - 1) then d.Rests.f i else d.Rests.f (i - 1)) = d.Rests.f (i + 1 - 1) := by
        rw [show i + 1 - 1 = i by omega]
        by_cases hz : i = 0
        · subst hz; rw [if_neg (by simp)]
        · rw [if_pos (ok.m i (by omega) hi)]
      rw [e1]; rfl
    · unfold KV
      dsimp only
      rw [qm (dge (Nat.le_refl _))]; rfl
  rw [pV e]; rfl
structure RtOK (a : SAir) (s : qz) : Prop where
  m : aja a.Mine
  nf : a.Fans.n ≤ 8
  nd : a.Doors.n ≤ 16
  sf : s.Fans.n = a.Fans.n
  sd : s.Doors.n = a.Doors.n
  f : ∀ i, i < a.Fans.n → fanE (a.Fans.f i) = 0 ∧ -1 ≤ s.Fans.f i ∧ s.Fans.f i ≤ 2
  d : ∀ i, i < a.Doors.n → akl (a.Doors.f i).Rests ∧ -1 ≤ s.Doors.f i ∧ s.Doors.f i < ((a.Doors.f i).Rests.n : Int)
theorem aiU {a : SAir} {s : qz} (h : aiR a s = true) : RtOK a s := by
  unfold aiR at h
  split at h
  · rename_i hq
    obtain ⟨h1, h2, h3, h4, h5⟩ := hq
    obtain ⟨p1, p2, p3⟩ := ajZ h1
    obtain ⟨f1, f2, _⟩ := al3 p2
    obtain ⟨d1, d2, _⟩ := aj0 p3
    refine ⟨(ajH _).1 p1, f1, d1, h2, h3, fun i hi => ⟨f2 i hi, ?_⟩, fun i hi => ⟨anu (d2 i hi), ?_⟩⟩
    · have := oh h4 i (by omega) (by omega)
      unfold gSf at this
      split at this
      · assumption
      · cases this
    · have := oh h5 i (by omega) (by omega)
      unfold gSd at this
      split at this
      · omega
      · cases this
  · cases h
theorem ajT {m : qI} (h : aja m) {i : Nat} (hi : i < m.Roads.n) : 1 ≤ (m.Roads.f i).Rest.Low ∧ (m.Roads.f i).Rest.Low ≤ (m.Roads.f i).Rest.High ∧ (m.Roads.f i).Rest.High ≤ 262144 ∧
    -2199023255552 ≤ (m.Roads.f i).Lift.Low ∧ (m.Roads.f i).Lift.Low ≤ (m.Roads.f i).Lift.High ∧ (m.Roads.f i).Lift.High ≤ 2199023255552 ∧ 0 ≤ (m.Roads.f i).From ∧ (m.Roads.f i).From < m.Places.n ∧ 0 ≤ (m.Roads.f i).To ∧ (m.Roads.f i).To < m.Places.n := by
  have := h.r i hi
  unfold akQ at this
  repeat' (split at this; · omega)
  omega
def rsum (D : Sq qD) (s : Sq Int) (road : Int) (b : Int × Int) : Nat → Int × Int
  | 0 => b
  | k + 1 => if (D.f k).Road = road then ((rsum D s road b k).1 + (rsS (D.f k).Rests (s.f k)).Low, (rsum D s road b k).2 + (rsS (D.f k).Rests (s.f k)).High) else rsum D s road b k
theorem akR {a : SAir} {s : qz} (ok : RtOK a s) (road : Int) {b : Int × Int} (h0 : 1 ≤ b.1) (h1 : b.1 ≤ b.2) (h2 : b.2 ≤ 262144) : ∀ k, k ≤ a.Doors.n → 1 ≤ (rsum a.Doors s.Doors road b k).1 ∧ (rsum a.Doors s.Doors road b k).1 ≤ (rsum a.Doors s.Doors road b k).2 ∧ (rsum a.Doors s.Doors road b k).2 ≤ 262144 * ((k : Int) + 1) := by
  intro k
  induction k with
  | zero => intro _; exact ⟨h0, h1, by show b.2 ≤ _; omega⟩
  | succ k ih =>
    intro hk
    obtain ⟨i1, i2, i3⟩ := ih (by omega)
    obtain ⟨d1, d2, d3⟩ := ok.d k (by omega)
    obtain ⟨r1, r2, r3⟩ := ang d1 d2 d3
    unfold rsum
    split
    · dsimp only; omega
    · omega
def fsum (F : Sq SFan) (s : Sq Int) (road x : Int) (b : Int × Int) : Nat → Int × Int
  | 0 => b
  | k + 1 => if (F.f k).Road = road then ((fsum F s road x b k).1 - (stS (F.f k) (s.f k) x).High, (fsum F s road x b k).2 - (stS (F.f k) (s.f k) x).Low) else fsum F s road x b k
def sqS (lo hi x : Int) : Int × Int := if x < 0 then (-(hi * (x * x)), -(lo * (x * x))) else (lo * (x * x), hi * (x * x))
def aiS (a : SAir) (s : qz) (i : Nat) (x : Int) : Int × Int :=
  let r := a.Mine.Roads.f i
  let b := rsum a.Doors s.Doors i (r.Rest.Low, r.Rest.High) a.Doors.n
  fsum a.Fans s.Fans i x ((sqS b.1 b.2 x).1 - r.Lift.High, (sqS b.1 b.2 x).2 - r.Lift.Low) a.Fans.n
theorem aj5 {c : Sq qH} (ok : okC c) (x : Int) : 0 ≤ (prS c x).Low ∧ (prS c x).Low ≤ (prS c x).High ∧ (prS c x).High ≤ 2199023255552 := by
  obtain ⟨h1, _, h3, h4, _⟩ := ale ok x
  exact ⟨h3, h1, h4⟩
theorem akK {c : Sq qH} (ok : okC c) (b : Bool) (x : Int) : -2199023255552 ≤ (ai3 c b x).Low ∧ (ai3 c b x).Low ≤ (ai3 c b x).High ∧ (ai3 c b x).High ≤ 2199023255552 := by
  unfold ai3
  split
  · obtain ⟨h1, h2, h3⟩ := aj5 ok (wr (0 - x))
    unfold aoO
    rw [pJ (x := 0 - (prS c (wr (0 - x))).High) (by omega) (by omega), pJ (x := 0 - (prS c (wr (0 - x))).Low) (by omega) (by omega)]
    dsimp only
    omega
  · obtain ⟨h1, h2, h3⟩ := aj5 ok x
    omega
theorem ani {f : SFan} (h : fanE f = 0) (st x : Int) : -2199023255552 ≤ (stS f st x).Low ∧ (stS f st x).Low ≤ (stS f st x).High ∧ (stS f st x).High ≤ 2199023255552 := by
  have ok := aj1 h
  unfold stS
  split
  · dsimp only; omega
  · split
    · exact akK ok _ _
    · split
      · exact akK ok _ _
      · have a := akK ok f.Back x
        have b := akK ok (!f.Back) x
        dsimp only
        unfold minI maxI
        refine ⟨?_, ?_, ?_⟩
        all_goals (repeat' split)
        all_goals omega
theorem an6 {a : SAir} {s : qz} (ok : RtOK a s) (road x : Int) (b : Int × Int) (hb : b.1 ≤ b.2) : ∀ k, k ≤ a.Fans.n → b.1 - 2199023255552 * k ≤ (fsum a.Fans s.Fans road x b k).1 ∧ (fsum a.Fans s.Fans road x b k).1 ≤ (fsum a.Fans s.Fans road x b k).2 ∧ (fsum a.Fans s.Fans road x b k).2 ≤ b.2 + 2199023255552 * k ∧
    (fsum a.Fans s.Fans road x b k).1 ≤ b.1 + 2199023255552 * k ∧ b.2 - 2199023255552 * k ≤ (fsum a.Fans s.Fans road x b k).2 := by
  intro k
  induction k with
  | zero => intro _; show b.1 - _ ≤ b.1 ∧ b.1 ≤ b.2 ∧ b.2 ≤ _ ∧ b.1 ≤ _ ∧ _ ≤ b.2; omega
  | succ k ih =>
    intro hk
    have i := ih (by omega)
    obtain ⟨f1, f2, f3⟩ := ok.f k (by omega)
    have q := ani f1 (s.Fans.f k) x
    unfold fsum
    split
    · dsimp only; omega
    · omega
end Go.Proofs.YtimkpfnbkclclaaGreat.Ab
