/- A part of the proof, what is needed of it. -/
import Derived.Test.YtimkpfnbkclclaaGreatPl16
namespace Go.Proofs.YtimkpfnbkclclaaGreat.Ab
noncomputable section
open Go
def sumN (g : Nat → Int) : Nat → Int
  | 0 => 0
  | k + 1 => sumN g k + g k
theorem ai0 {g g' : Nat → Int} : ∀ {n : Nat}, (∀ i, i < n → g i = g' i) → sumN g n = sumN g' n := by
  intro n
  induction n with
  | zero => intro _; rfl
  | succ n ih => intro h; show sumN g n + g n = sumN g' n + g' n; rw [ih fun i hi => h i (by omega), h n (by omega)]
theorem akj {g g' : Nat → Int} : ∀ {n : Nat}, (∀ i, i < n → g i ≤ g' i) → sumN g n ≤ sumN g' n := by
  intro n
  induction n with
  | zero => intro _; exact Int.le_refl _
  | succ n ih => intro h; have a := ih fun i hi => h i (by omega); have b := h n (by omega); show sumN g n + g n ≤ sumN g' n + g' n; omega
theorem amd (g g' : Nat → Int) : ∀ n, sumN (fun i => g i + g' i) n = sumN g n + sumN g' n := by
  intro n
  induction n with
  | zero => rfl
  | succ n ih => show sumN (fun i => g i + g' i) n + (g n + g' n) = sumN g n + g n + (sumN g' n + g' n); omega
theorem ajY : ∀ n, sumN (fun _ => 0) n = 0 := by
  intro n
  induction n with
  | zero => rfl
  | succ n ih => show sumN (fun _ => 0) n + 0 = 0; omega
theorem aom (g : Nat → Nat → Int) (m : Nat) : ∀ n, sumN (fun i => sumN (g i) m) n = sumN (fun j => sumN (fun i => g i j) n) m := by
  intro n
  induction n with
  | zero => exact (ajY m).symm
  | succ n ih =>
    show sumN (fun i => sumN (g i) m) n + sumN (g n) m = sumN (fun j => sumN (fun i => g i j) n + g n j) m
    rw [amd, ih]
theorem akS {g : Nat → Int} : ∀ {n : Nat}, (∀ i, i < n → -1048577 ≤ g i ∧ g i ≤ 1048577) → -(1048577 * (n : Int)) ≤ sumN g n ∧ sumN g n ≤ 1048577 * (n : Int) := by
  intro n
  induction n with
  | zero => intro _; show -(1048577 * 0) ≤ (0 : Int) ∧ (0 : Int) ≤ 1048577 * 0; omega
  | succ n ih => intro h; have a := ih fun i hi => h i (by omega); have b := h n (by omega); show _ ≤ sumN g n + g n ∧ sumN g n + g n ≤ _; omega
theorem anj {g : Nat → Int} {k : Nat} : ∀ {n : Nat}, (∀ i, i < n → i ≠ k → g i = 0) → sumN g n = if k < n then g k else 0 := by
  intro n
  induction n with
  | zero => intro _; rfl
  | succ n ih =>
    intro h
    show sumN g n + g n = _
    rw [ih fun i hi => h i (by omega)]
    by_cases c : k = n
    · subst c; rw [if_neg (by omega), if_pos (by omega)]; omega
    · rw [h n (by omega) (by omega)]
      by_cases d : k < n
      · rw [if_pos d, if_pos (by omega)]; omega
      · rw [if_neg d, if_neg (by omega)]; omega
theorem ai2 {m : qI} (h : aja m) {i : Nat} (hi : i < m.Roads.n) : 0 ≤ (m.Roads.f i).From ∧ (m.Roads.f i).From < m.Places.n ∧ 0 ≤ (m.Roads.f i).To ∧ (m.Roads.f i).To < m.Places.n ∧ (m.Roads.f i).From ≠ (m.Roads.f i).To := by
  have := h.r i hi
  unfold akQ at this
  repeat' (split at this; · omega)
  omega
def flL (a : SAir) (s : qz) (i : Nat) (p : Int) : Int := (GZ a s i p).getD 0
def flH (a : SAir) (s : qz) (i : Nat) (p : Int) : Int := (Fb a s i p).getD 0
theorem ak5 {a : SAir} {s : qz} (ok : RtOK a s) {i : Nat} (hi : i < a.Mine.Roads.n) (p : Int) : GZ a s i p = some (flL a s i p) ∧ Cut (fun x => (aiS a s i x).2 > p) (flL a s i p + 1) := by
  obtain ⟨z, e, c⟩ := alu ok hi p
  unfold flL
  rw [e]
  exact ⟨rfl, c⟩
theorem ak4 {a : SAir} {s : qz} (ok : RtOK a s) {i : Nat} (hi : i < a.Mine.Roads.n) (p : Int) : Fb a s i p = some (flH a s i p) ∧ Cut (fun x => (aiS a s i x).1 ≥ p) (flH a s i p) := by
  obtain ⟨z, e, c⟩ := ala ok hi p
  unfold flH
  rw [e]
  exact ⟨rfl, c⟩
theorem amU {a : SAir} {s : qz} (ok : RtOK a s) {i : Nat} (hi : i < a.Mine.Roads.n) (p : Int) : -1048577 ≤ flL a s i p ∧ flL a s i p ≤ flH a s i p ∧ flH a s i p ≤ 1048577 := by
  have a1 := (ak5 ok hi p).2.lo
  have a2 := (ak4 ok hi p).2.hi
  have := akZ.le ok hi (S := ⟨flL a s i p, flH a s i p⟩) ⟨(ak5 ok hi p).2, (ak4 ok hi p).2⟩
  dsimp only at this
  omega
theorem alo {a : SAir} {s : qz} (ok : RtOK a s) {i : Nat} (hi : i < a.Mine.Roads.n) {p p' : Int} (h : p ≤ p') : flL a s i p ≤ flL a s i p' ∧ flH a s i p ≤ flH a s i p' :=
  akZ.mono (S := ⟨flL a s i p, flH a s i p⟩) (S' := ⟨flL a s i p', flH a s i p'⟩) ⟨(ak5 ok hi p).2, (ak4 ok hi p).2⟩ ⟨(ak5 ok hi p').2, (ak4 ok hi p').2⟩ h
structure aiV (a : SAir) (P : Sq Int) : Prop where
  n : P.n = a.Mine.Places.n
  f : ∀ k, k < P.n → -70368744177664 ≤ P.f k ∧ P.f k ≤ 70368744177664
def coL (a : SAir) (s : qz) (P : Sq Int) (pl p : Int) (i : Nat) : Int := if (a.Mine.Roads.f i).Closed = true then 0 else if (a.Mine.Roads.f i).From = pl then flL a s i (p - P.f (a.Mine.Roads.f i).To.toNat) else if (a.Mine.Roads.f i).To = pl then -(flH a s i (P.f (a.Mine.Roads.f i).From.toNat - p)) else 0
def coH (a : SAir) (s : qz) (P : Sq Int) (pl p : Int) (i : Nat) : Int := if (a.Mine.Roads.f i).Closed = true then 0 else if (a.Mine.Roads.f i).From = pl then flH a s i (p - P.f (a.Mine.Roads.f i).To.toNat) else if (a.Mine.Roads.f i).To = pl then -(flL a s i (P.f (a.Mine.Roads.f i).From.toNat - p)) else 0
def NL (a : SAir) (s : qz) (P : Sq Int) (pl p : Int) : Int := sumN (coL a s P pl p) a.Mine.Roads.n
def NH (a : SAir) (s : qz) (P : Sq Int) (pl p : Int) : Int := sumN (coH a s P pl p) a.Mine.Roads.n
theorem amP {a : SAir} {s : qz} (ok : RtOK a s) (P : Sq Int) (pl p : Int) {i : Nat} (hi : i < a.Mine.Roads.n) : -1048577 ≤ coL a s P pl p i ∧ coL a s P pl p i ≤ coH a s P pl p i ∧ coH a s P pl p i ≤ 1048577 := by
  unfold coL coH
  have a1 := amU ok hi (p - P.f (a.Mine.Roads.f i).To.toNat)
  have a2 := amU ok hi (P.f (a.Mine.Roads.f i).From.toNat - p)
  repeat' split
  all_goals omega
theorem akT {a : SAir} {s : qz} (ok : RtOK a s) (P : Sq Int) (pl : Int) {p p' : Int} (h : p ≤ p') : NL a s P pl p ≤ NL a s P pl p' ∧ NH a s P pl p ≤ NH a s P pl p' := by
  refine ⟨akj fun i hi => ?_, akj fun i hi => ?_⟩
  all_goals
    have a1 := alo ok hi (p := p - P.f (a.Mine.Roads.f i).To.toNat) (p' := p' - P.f (a.Mine.Roads.f i).To.toNat) (by omega)
    have a2 := alo ok hi (p := P.f (a.Mine.Roads.f i).From.toNat - p') (p' := P.f (a.Mine.Roads.f i).From.toNat - p) (by omega)
    first | unfold coL | unfold coH
    repeat' split
    all_goals omega
theorem apK {a : SAir} {s : qz} (ok : RtOK a s) {P P' : Sq Int} (pl p : Int) (h : ∀ k, P.f k ≤ P'.f k) : NL a s P' pl p ≤ NL a s P pl p ∧ NH a s P' pl p ≤ NH a s P pl p := by
  refine ⟨akj fun i hi => ?_, akj fun i hi => ?_⟩
  all_goals
    have b1 := h (a.Mine.Roads.f i).To.toNat
    have b2 := h (a.Mine.Roads.f i).From.toNat
    have a1 := alo ok hi (p := p - P'.f (a.Mine.Roads.f i).To.toNat) (p' := p - P.f (a.Mine.Roads.f i).To.toNat) (by omega)
    have a2 := alo ok hi (p := P.f (a.Mine.Roads.f i).From.toNat - p) (p' := P'.f (a.Mine.Roads.f i).From.toNat - p) (by omega)
    first | unfold coL | unfold coH
    repeat' split
    all_goals omega
theorem ao6 {a : SAir} {s : qz} (ok : RtOK a s) {P P' : Sq Int} (pl p : Int) (h : ∀ k : Nat, (k : Int) ≠ pl → P.f k = P'.f k) : NL a s P pl p = NL a s P' pl p ∧ NH a s P pl p = NH a s P' pl p := by
  refine ⟨ai0 fun i hi => ?_, ai0 fun i hi => ?_⟩
  all_goals
    obtain ⟨f0, f1, t0, t1, ne⟩ := ai2 ok.m hi
    first | unfold coL | unfold coH
    split
    · rfl
    · split
      · rw [h _ (by omega)]
      · split
        · rw [h _ (by omega)]
        · rfl
theorem amL {a : SAir} {s : qz} (ok : RtOK a s) {P : Sq Int} (hP : aiV a P) {pl p : Int} (hp : P.f pl.toNat = p) {i : Nat} (hi : i < a.Mine.Roads.n) {n : Int} (n0 : -1000000000 ≤ n) (n1 : n ≤ 1000000000) :
    (Ip P pl a.Mine.Places a.Mine.Roads a.Fans a.Doors s.Fans s.Doors i n).get = some (.next (((i + 1 : Nat) : Int), n + coL a s P pl p i)) := by
  have nr := ok.m.nr
  have hn := hP.n
  obtain ⟨f0, f1, t0, t1, ne⟩ := ai2 ok.m hi
  have bF := hP.f (a.Mine.Roads.f i).From.toNat (by omega)
  have bT := hP.f (a.Mine.Roads.f i).To.toNat (by omega)
  obtain ⟨eL, _⟩ := ak5 ok hi (P.f (a.Mine.Roads.f i).From.toNat - P.f (a.Mine.Roads.f i).To.toNat)
  obtain ⟨eH, _⟩ := ak4 ok hi (P.f (a.Mine.Roads.f i).From.toNat - P.f (a.Mine.Roads.f i).To.toNat)
  have b := amU ok hi (P.f (a.Mine.Roads.f i).From.toNat - P.f (a.Mine.Roads.f i).To.toNat)
  have hw : wr ((P.f (a.Mine.Roads.f i).From.toNat) - (P.f (a.Mine.Roads.f i).To.toNat)) = P.f (a.Mine.Roads.f i).From.toNat - P.f (a.Mine.Roads.f i).To.toNat := pJ (by omega) (by omega)
  unfold Ip
  rw [qo (dlt hi), qo (dix hi), pI, hw, qc (by omega)]
  unfold coL
  by_cases cl : (a.Mine.Roads.f i).Closed = true
  · rw [qo cl, if_pos cl, Int.add_zero]; rfl
  · rw [qm (by simpa using cl), if_neg cl]
    by_cases cF : (a.Mine.Roads.f i).From = pl
    · have e1 : P.f (a.Mine.Roads.f i).From.toNat = p := by rw [cF]; exact hp
      rw [qo (by simpa using cF), qo (decide_eq_true ⟨f0, by omega⟩), qo (decide_eq_true ⟨t0, by omega⟩), get_bind eL, qm (by simp; omega), if_pos cF, e1]
      rw [e1] at b
      rw [pJ (by omega) (by omega)]; rfl
    · rw [qm (by simpa using cF), if_neg cF]
      by_cases cT : (a.Mine.Roads.f i).To = pl
      · have e1 : P.f (a.Mine.Roads.f i).To.toNat = p := by rw [cT]; exact hp
        rw [qo (by simpa using cT), qo (decide_eq_true ⟨f0, by omega⟩), qo (decide_eq_true ⟨t0, by omega⟩), get_bind eH, if_pos cT, e1]
        rw [e1] at b
        rw [pJ (by omega) (by omega), Int.sub_eq_add_neg]; rfl
      · rw [qm (by simpa using cT), if_neg cT, Int.add_zero]; rfl
theorem ajz {a : SAir} {s : qz} (ok : RtOK a s) {P : Sq Int} (hP : aiV a P) {pl p : Int} (hp : P.f pl.toNat = p) : G6 a s P pl = some (NL a s P pl p) := by
  have nr := ok.m.nr
  rw [ag3]; unfold Uq
  have hb : ∀ i, i ≤ a.Mine.Roads.n → -1000000000 ≤ sumN (coL a s P pl p) i ∧ sumN (coL a s P pl p) i ≤ 1000000000 := fun i hi => by
    have := akS (g := coL a s P pl p) (n := i) fun j hj => by have := amP ok P pl p (i := j) (by omega); omega
    omega
  have key : QV P pl a.Mine.Places a.Mine.Roads a.Fans a.Doors s.Fans s.Doors 0 0 = some (.inl (NL a s P pl p)) := by
    rw [afa]
    refine (pR (step := fun v : Int × Int => Ip P pl a.Mine.Places a.Mine.Roads a.Fans a.Doors s.Fans s.Doors v.1 v.2) (fun i => ((i : Int), sumN (coL a s P pl p) i)) a.Mine.Roads.n (z := .l (NL a s P pl p)) (fun i hi => ?_) ?_).trans rfl
    · have h := hb i (by omega)
      exact amL ok hP hp hi h.1 h.2
    · show (Ip P pl a.Mine.Places a.Mine.Roads a.Fans a.Doors s.Fans s.Doors (a.Mine.Roads.n : Int) (sumN (coL a s P pl p) a.Mine.Roads.n)).get = _
      unfold Ip
      rw [qm (dge (Nat.le_refl _))]; rfl
  rw [pV key]; rfl
theorem amf {a : SAir} {s : qz} (ok : RtOK a s) {P : Sq Int} (hP : aiV a P) {pl p : Int} (hp : P.f pl.toNat = p) {i : Nat} (hi : i < a.Mine.Roads.n) {n : Int} (n0 : -1000000000 ≤ n) (n1 : n ≤ 1000000000) :
    (G5 P pl a.Mine.Places a.Mine.Roads a.Fans a.Doors s.Fans s.Doors i n).get = some (.next (((i + 1 : Nat) : Int), n + coH a s P pl p i)) := by
  have nr := ok.m.nr
  have hn := hP.n
  obtain ⟨f0, f1, t0, t1, ne⟩ := ai2 ok.m hi
  have bF := hP.f (a.Mine.Roads.f i).From.toNat (by omega)
  have bT := hP.f (a.Mine.Roads.f i).To.toNat (by omega)
  obtain ⟨eL, _⟩ := ak5 ok hi (P.f (a.Mine.Roads.f i).From.toNat - P.f (a.Mine.Roads.f i).To.toNat)
  obtain ⟨eH, _⟩ := ak4 ok hi (P.f (a.Mine.Roads.f i).From.toNat - P.f (a.Mine.Roads.f i).To.toNat)
  have b := amU ok hi (P.f (a.Mine.Roads.f i).From.toNat - P.f (a.Mine.Roads.f i).To.toNat)
  have hw : wr ((P.f (a.Mine.Roads.f i).From.toNat) - (P.f (a.Mine.Roads.f i).To.toNat)) = P.f (a.Mine.Roads.f i).From.toNat - P.f (a.Mine.Roads.f i).To.toNat := pJ (by omega) (by omega)
  unfold G5
  rw [qo (dlt hi), qo (dix hi), pI, hw, qc (by omega)]
  unfold coH
  by_cases cl : (a.Mine.Roads.f i).Closed = true
  · rw [qo cl, if_pos cl, Int.add_zero]; rfl
  · rw [qm (by simpa using cl), if_neg cl]
    by_cases cF : (a.Mine.Roads.f i).From = pl
    · have e1 : P.f (a.Mine.Roads.f i).From.toNat = p := by rw [cF]; exact hp
      rw [qo (by simpa using cF), qo (decide_eq_true ⟨f0, by omega⟩), qo (decide_eq_true ⟨t0, by omega⟩), get_bind eH, qm (by simp; omega), if_pos cF, e1]
      rw [e1] at b
      rw [pJ (by omega) (by omega)]; rfl
    · rw [qm (by simpa using cF), if_neg cF]
      by_cases cT : (a.Mine.Roads.f i).To = pl
      · have e1 : P.f (a.Mine.Roads.f i).To.toNat = p := by rw [cT]; exact hp
        rw [qo (by simpa using cT), qo (decide_eq_true ⟨f0, by omega⟩), qo (decide_eq_true ⟨t0, by omega⟩), get_bind eL, if_pos cT, e1]
        rw [e1] at b
        rw [pJ (by omega) (by omega), Int.sub_eq_add_neg]; rfl
      · rw [qm (by simpa using cT), if_neg cT, Int.add_zero]; rfl
theorem aju {a : SAir} {s : qz} (ok : RtOK a s) {P : Sq Int} (hP : aiV a P) {pl p : Int} (hp : P.f pl.toNat = p) : Fg a s P pl = some (NH a s P pl p) := by
  have nr := ok.m.nr
  rw [agE]; unfold QU
  have hb : ∀ i, i ≤ a.Mine.Roads.n → -1000000000 ≤ sumN (coH a s P pl p) i ∧ sumN (coH a s P pl p) i ≤ 1000000000 := fun i hi => by
    have := akS (g := coH a s P pl p) (n := i) fun j hj => by have := amP ok P pl p (i := j) (by omega); omega
    omega
  have key : OG P pl a.Mine.Places a.Mine.Roads a.Fans a.Doors s.Fans s.Doors 0 0 = some (.inl (NH a s P pl p)) := by
    rw [aeL]
    refine (pR (step := fun v : Int × Int => G5 P pl a.Mine.Places a.Mine.Roads a.Fans a.Doors s.Fans s.Doors v.1 v.2) (fun i => ((i : Int), sumN (coH a s P pl p) i)) a.Mine.Roads.n (z := .l (NH a s P pl p)) (fun i hi => ?_) ?_).trans rfl
    · have h := hb i (by omega)
      exact amf ok hP hp hi h.1 h.2
    · show (G5 P pl a.Mine.Places a.Mine.Roads a.Fans a.Doors s.Fans s.Doors (a.Mine.Roads.n : Int) (sumN (coH a s P pl p) a.Mine.Roads.n)).get = _
      unfold G5
      rw [qm (dge (Nat.le_refl _))]; rfl
  rw [pV key]; rfl
end
end Go.Proofs.YtimkpfnbkclclaaGreat.Ab
