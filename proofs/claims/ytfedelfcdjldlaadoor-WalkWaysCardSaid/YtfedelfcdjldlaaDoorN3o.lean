/- Stage 3: what a search finds is stable, and is the least. -/
import Derived.Test.YtfedelfcdjldlaaDoorN3t
namespace Go.Proofs.YtfedelfcdjldlaaDoor.Ab
open Go

def cLe (a b : Scost) : Prop := a.time_ < b.time_ ∨ a.time_ = b.time_ ∧ a.roads_ ≤ b.roads_
theorem cLess_t {a b : Scost} (h : cLess a b = true) : a.time_ < b.time_ ∨ a.time_ = b.time_ ∧ a.roads_ < b.roads_ := of_decide_eq_true h
theorem cLess_f {a b : Scost} (h : cLess a b = false) : cLe b a := by
  have := of_decide_eq_false h
  unfold cLe; omega
theorem cLe.refl (a : Scost) : cLe a a := Or.inr ⟨rfl, Int.le_refl _⟩
theorem cLe.trans {a b c : Scost} (h : cLe a b) (k : cLe b c) : cLe a c := by unfold cLe at *; omega
theorem cLe.anti {a b : Scost} (h : cLe a b) (k : cLe b a) : a = b := by
  cases a; cases b
  unfold cLe at *
  dsimp only at *
  simp only [Scost.mk.injEq]
  omega
theorem spOne_cases (c : Sq Scost × Bool) (s : Sstep) : (spOne c s = c ∧ cLess (cWith (c.1.f s.from_.toNat) s) (c.1.f s.to_.toNat) = false) ∨
    (cLess (cWith (c.1.f s.from_.toNat) s) (c.1.f s.to_.toNat) = true ∧ (spOne c s).2 = true ∧ ∀ k, (spOne c s).1.f k = if k = s.to_.toNat then cWith (c.1.f s.from_.toNat) s else c.1.f k) := by
  unfold spOne
  cases h : cLess (cWith (c.1.f s.from_.toNat) s) (c.1.f s.to_.toNat) with
  | false => exact .inl ⟨rfl, rfl⟩
  | true =>
    refine .inr ⟨rfl, rfl, fun k => ?_⟩
    show Scost.mk _ _ = _
    by_cases hk : k = s.to_.toNat
    · rw [beq_t hk, if_pos hk]; rfl
    · rw [beq_f hk, if_neg hk]; rfl
theorem spOne_mono (c : Sq Scost × Bool) (s : Sstep) (k : Nat) : cLe ((spOne c s).1.f k) (c.1.f k) := by
  rcases spOne_cases c s with ⟨h, _⟩ | ⟨h, _, hf⟩
  · rw [h]; exact .refl _
  · rw [hf]
    by_cases hk : k = s.to_.toNat
    · rw [if_pos hk, hk]
      have := cLess_t h
      unfold cLe; omega
    · rw [if_neg hk]; exact .refl _
theorem spOne_rel (c : Sq Scost × Bool) (s : Sstep) : cLe ((spOne c s).1.f s.to_.toNat) (cWith (c.1.f s.from_.toNat) s) := by
  rcases spOne_cases c s with ⟨h, h2⟩ | ⟨_, _, hf⟩
  · rw [h]; exact cLess_f h2
  · rw [hf, if_pos rfl]; exact .refl _
theorem spI_mono (l : Sq Sstep) (c : Sq Scost) (k : Nat) : ∀ j i, cLe ((spI l c (i + j)).1.f k) ((spI l c i).1.f k) := by
  intro j
  induction j with
  | zero => intro i; exact .refl _
  | succ j ih => intro i; exact (spOne_mono _ _ k).trans (ih i)
/-- Behind each cost stands a way over different places. -/
def Ch (n : Nat) (c : Sq Scost) : Prop := ∀ v, v < n → ∃ L : List Nat, L.Nodup ∧ (∀ w ∈ L, w < n ∧ cLe (c.f w) (c.f v)) ∧ (L.length : Int) = (c.f v).roads_ + 1
theorem Ch.one {n : Nat} {c : Sq Scost × Bool} (h : Ch n c.1) {s : Sstep} (hs : 0 ≤ s.from_ ∧ s.from_ < n ∧ 0 ≤ s.to_ ∧ s.to_ < n ∧ 1 ≤ s.time_ ∧ s.time_ ≤ 1000099) : Ch n (spOne c s).1 := by
  rcases spOne_cases c s with ⟨e, _⟩ | ⟨hl, _, hf⟩
  · rw [e]; exact h
  intro v hv
  have hl := cLess_t hl
  unfold cWith at hl
  dsimp only at hl
  by_cases hk : v = s.to_.toNat
  · obtain ⟨L, l1, l2, l3⟩ := h s.from_.toNat (by omega)
    have hno : v ∉ L := fun hm => by
      have := (l2 v hm).2
      rw [hk] at this
      unfold cLe at this
      omega
    have hz : (spOne c s).1.f v = cWith (c.1.f s.from_.toNat) s := by rw [hf, if_pos hk]
    refine ⟨v :: L, List.nodup_cons.2 ⟨hno, l1⟩, fun w hw => ?_, ?_⟩
    · rcases List.mem_cons.1 hw with rfl | hw
      · exact ⟨hv, .refl _⟩
      · obtain ⟨w1, w2⟩ := l2 w hw
        have hne : w ≠ v := fun e => hno (e ▸ hw)
        refine ⟨w1, ?_⟩
        rw [hz, hf, if_neg (by rw [← hk]; exact hne)]
        unfold cLe cWith at *
        dsimp only
        omega
    · rw [hz, List.length_cons]
      unfold cWith
      dsimp only
      omega
  · obtain ⟨L, l1, l2, l3⟩ := h v hv
    have hz : (spOne c s).1.f v = c.1.f v := by rw [hf, if_neg hk]
    refine ⟨L, l1, fun w hw => ⟨(l2 w hw).1, ?_⟩, by rw [hz]; exact l3⟩
    rw [hz]
    exact (spOne_mono c s w).trans (l2 w hw).2
theorem Ch.spI {n : Nat} {l : Sq Sstep} (hl : StOK n l) {c : Sq Scost} (h : Ch n c) : ∀ i, i ≤ l.n → Ch n (spI l c i).1 := by
  intro i
  induction i with
  | zero => intro _; exact h
  | succ i ih => intro hi; exact (ih (by omega)).one (hl.h i (by omega))
theorem nodup_le : ∀ (n : Nat) (L : List Nat), L.Nodup → (∀ w ∈ L, w < n) → L.length ≤ n := by
  intro n
  induction n with
  | zero =>
    intro L _ h
    cases L with
    | nil => exact Nat.le_refl _
    | cons a L => exact absurd (h a (List.mem_cons_self ..)) (Nat.not_lt_zero _)
  | succ n ih =>
    intro L hn h
    have h1 := ih (L.erase n) (hn.erase n) (fun w hw => by
      have h2 := (List.Nodup.mem_erase_iff hn).1 hw
      have := h w h2.2
      omega)
    by_cases hm : n ∈ L
    · have := List.length_erase_of_mem hm
      omega
    · rw [List.erase_of_not_mem hm] at h1
      omega
theorem Ch.roads {n : Nat} {c : Sq Scost} (h : Ch n c) {v : Nat} (hv : v < n) : (c.f v).roads_ + 1 ≤ n := by
  obtain ⟨L, l1, l2, l3⟩ := h v hv
  have := nodup_le n L l1 fun w hw => (l2 w hw).1
  omega
/-- The state behind k rounds. -/
def rX (l : Sq Sstep) (c : Sq Scost) : Nat → Sq Scost
  | 0 => c
  | k + 1 => (spI l (rX l c k) l.n).1
/-- What is lowered in a round has a road for each round. -/
theorem round_q {n : Nat} {l : Sq Sstep} (hl : StOK n l) {c : Sq Scost} (h0 : ∀ v, v < n → 0 ≤ (c.f v).roads_) : ∀ k, (∀ v, v < n → 0 ≤ ((rX l c k).f v).roads_) ∧ ∀ i, i ≤ l.n → ∀ v, v < n → (spI l (rX l c k) i).1.f v = (rX l c k).f v ∨ (k : Int) + 1 ≤ ((spI l (rX l c k) i).1.f v).roads_ := by
  intro k
  induction k with
  | zero =>
    refine ⟨h0, fun i => ?_⟩
    induction i with
    | zero => intro _ v _; exact .inl rfl
    | succ i ih =>
      intro hi v hv
      have ih := ih (by omega)
      obtain ⟨s1, s2, s3, s4, s5, s6⟩ := hl.h i (by omega)
      rcases spOne_cases (spI l (rX l c 0) i) (l.f i) with ⟨e, _⟩ | ⟨_, _, hf⟩
      · show (spOne _ _).1.f v = _ ∨ _ ≤ ((spOne _ _).1.f v).roads_
        rw [e]; exact ih v hv
      · show (spOne _ _).1.f v = _ ∨ _ ≤ ((spOne _ _).1.f v).roads_
        rw [hf]
        by_cases hk : v = (l.f i).to_.toNat
        · right
          rw [if_pos hk]
          have := ih (l.f i).from_.toNat (by omega)
          have h00 := h0 (l.f i).from_.toNat (by omega)
          show ((0 : Nat) : Int) + 1 ≤ ((spI l (rX l c 0) i).1.f (l.f i).from_.toNat).roads_ + 1
          rcases this with e | e
          · rw [e]; show ((0 : Nat) : Int) + 1 ≤ (c.f (l.f i).from_.toNat).roads_ + 1; omega
          · omega
        · rw [if_neg hk]; exact ih v hv
  | succ k ihk =>
    obtain ⟨p0, pq⟩ := ihk
    have q0 : ∀ v, v < n → 0 ≤ ((rX l c (k + 1)).f v).roads_ := fun v hv => by
      show 0 ≤ ((spI l (rX l c k) l.n).1.f v).roads_
      rcases pq l.n (Nat.le_refl _) v hv with e | e
      · rw [e]; exact p0 v hv
      · omega
    refine ⟨q0, fun i => ?_⟩
    induction i with
    | zero => intro _ v _; exact .inl rfl
    | succ i ih =>
      intro hi v hv
      have ih := ih (by omega)
      obtain ⟨s1, s2, s3, s4, s5, s6⟩ := hl.h i (by omega)
      rcases spOne_cases (spI l (rX l c (k + 1)) i) (l.f i) with ⟨e, _⟩ | ⟨hless, _, hf⟩
      · show (spOne _ _).1.f v = _ ∨ _ ≤ ((spOne _ _).1.f v).roads_
        rw [e]; exact ih v hv
      · show (spOne _ _).1.f v = _ ∨ _ ≤ ((spOne _ _).1.f v).roads_
        rw [hf]
        by_cases hk : v = (l.f i).to_.toNat
        · right
          rw [if_pos hk]
          show (((k + 1 : Nat) : Int)) + 1 ≤ ((spI l (rX l c (k + 1)) i).1.f (l.f i).from_.toNat).roads_ + 1
          rcases ih (l.f i).from_.toNat (by omega) with e | e
          · rw [e]
            rcases pq l.n (Nat.le_refl _) (l.f i).from_.toNat (by omega) with e2 | e2
            · exfalso
              -- the step was taken in the round before, with the same cost
              have m1 : cLe ((spI l (rX l c k) i).1.f (l.f i).from_.toNat) ((rX l c k).f (l.f i).from_.toNat) := by have := spI_mono l (rX l c k) (l.f i).from_.toNat i 0; rwa [Nat.zero_add] at this
              have m2 : cLe ((spI l (rX l c k) l.n).1.f (l.f i).from_.toNat) ((spI l (rX l c k) i).1.f (l.f i).from_.toNat) := by have := spI_mono l (rX l c k) (l.f i).from_.toNat (l.n - i) i; rwa [show i + (l.n - i) = l.n by omega] at this
              rw [e2] at m2
              have e3 := m1.anti m2
              have m3 : cLe ((spI l (rX l c k) (i + 1)).1.f (l.f i).to_.toNat) (cWith ((spI l (rX l c k) i).1.f (l.f i).from_.toNat) (l.f i)) := spOne_rel _ _
              rw [e3] at m3
              have m4 : cLe ((spI l (rX l c k) l.n).1.f (l.f i).to_.toNat) ((spI l (rX l c k) (i + 1)).1.f (l.f i).to_.toNat) := by have := spI_mono l (rX l c k) (l.f i).to_.toNat (l.n - (i + 1)) (i + 1); rwa [show i + 1 + (l.n - (i + 1)) = l.n by omega] at this
              have m5 : cLe ((spI l (rX l c (k + 1)) i).1.f (l.f i).to_.toNat) ((rX l c (k + 1)).f (l.f i).to_.toNat) := by have := spI_mono l (rX l c (k + 1)) (l.f i).to_.toNat i 0; rwa [Nat.zero_add] at this
              have m6 := m5.trans (m4.trans m3)
              have hless := cLess_t hless
              rw [e, show (rX l c (k + 1)).f (l.f i).from_.toNat = (rX l c k).f (l.f i).from_.toNat from e2] at hless
              unfold cLe at m6
              omega
            · have e2 : (k : Int) + 1 ≤ ((rX l c (k + 1)).f (l.f i).from_.toNat).roads_ := e2
              omega
          · omega
        · rw [if_neg hk]; exact ih v hv
/-- No step lowers anything. -/
def Stab (l : Sq Sstep) (c : Sq Scost) : Prop := ∀ i, i < l.n → cLe (c.f (l.f i).to_.toNat) (cWith (c.f (l.f i).from_.toNat) (l.f i))
theorem spI_still {l : Sq Sstep} {c : Sq Scost} : ∀ i, (spI l c i).2 = false → (spI l c i) = (c, false) ∧ ∀ j, j < i → cLe (c.f (l.f j).to_.toNat) (cWith (c.f (l.f j).from_.toNat) (l.f j)) := by
  intro i
  induction i with
  | zero => intro _; exact ⟨rfl, fun j hj => by omega⟩
  | succ i ih =>
    intro h
    have h : (spOne (spI l c i) (l.f i)).2 = false := h
    rcases spOne_cases (spI l c i) (l.f i) with ⟨e, hl⟩ | ⟨_, e, _⟩
    · rw [e] at h
      obtain ⟨e1, h1⟩ := ih h
      refine ⟨by show spOne (spI l c i) (l.f i) = _; rw [e, e1], fun j hj => ?_⟩
      by_cases hji : j = i
      · subst hji
        rw [e1] at hl
        exact cLess_f hl
      · exact h1 j (by omega)
    · rw [e] at h; cases h
theorem spI_lowered {l : Sq Sstep} {c : Sq Scost} : ∀ i, i ≤ l.n → (spI l c i).2 = true → ∃ j, j < i ∧ cLess (cWith ((spI l c j).1.f (l.f j).from_.toNat) (l.f j)) ((spI l c j).1.f (l.f j).to_.toNat) = true := by
  intro i
  induction i with
  | zero => intro _ h; cases h
  | succ i ih =>
    intro hi h
    have h : (spOne (spI l c i) (l.f i)).2 = true := h
    rcases spOne_cases (spI l c i) (l.f i) with ⟨e, _⟩ | ⟨hl, _, _⟩
    · rw [e] at h
      obtain ⟨j, h1, h2⟩ := ih (by omega) h
      exact ⟨j, by omega, h2⟩
    · exact ⟨i, by omega, hl⟩
theorem rX_Ch {n : Nat} {l : Sq Sstep} (hl : StOK n l) {c : Sq Scost} (h : Ch n c) : ∀ k, Ch n (rX l c k) := by
  intro k
  induction k with
  | zero => exact h
  | succ k ih => exact ih.spI hl l.n (Nat.le_refl _)
theorem flag_le {n : Nat} {l : Sq Sstep} (hl : StOK n l) {c : Sq Scost} (h : Ch n c) (h0 : ∀ v, v < n → 0 ≤ (c.f v).roads_) {k : Nat} (hf : (spI l (rX l c k) l.n).2 = true) : k + 2 ≤ n := by
  obtain ⟨j, hj, hless⟩ := spI_lowered l.n (Nat.le_refl _) hf
  obtain ⟨s1, s2, s3, s4, s5, s6⟩ := hl.h j hj
  have q := (round_q hl h0 k).2 (j + 1) (by omega) (l.f j).to_.toNat (by omega)
  have ch := ((rX_Ch hl h k).spI hl (j + 1) (by omega)).roads (v := (l.f j).to_.toNat) (by omega)
  have m5 : cLe ((spI l (rX l c k) j).1.f (l.f j).to_.toNat) ((rX l c k).f (l.f j).to_.toNat) := by have := spI_mono l (rX l c k) (l.f j).to_.toNat j 0; rwa [Nat.zero_add] at this
  have hz : (spI l (rX l c k) (j + 1)).1.f (l.f j).to_.toNat = cWith ((spI l (rX l c k) j).1.f (l.f j).from_.toNat) (l.f j) := by
    show (spOne _ _).1.f _ = _
    rcases spOne_cases (spI l (rX l c k) j) (l.f j) with ⟨_, e⟩ | ⟨_, _, hf⟩
    · rw [e] at hless; cases hless
    · rw [hf, if_pos rfl]
  rcases q with e | e
  · exfalso
    rw [hz] at e
    rw [← e] at m5
    have hless := cLess_t hless
    unfold cLe at m5
    omega
  · omega
theorem spO_stab {n : Nat} {l : Sq Sstep} (hl : StOK n l) {c : Sq Scost} (h : Ch n c) (h0 : ∀ v, v < n → 0 ≤ (c.f v).roads_) : ∀ K j, j + K = n → (j = 0 ∨ j + 1 ≤ n) → Stab l (spO l K (rX l c j)) := by
  intro K
  induction K with
  | zero =>
    intro j hj hq
    have hn : n = 0 := by omega
    intro i hi
    have := hl.h i hi
    omega
  | succ K ih =>
    intro j hj hq
    unfold spO
    cases hf : (spI l (rX l c j) l.n).2 with
    | true =>
      have := flag_le hl h h0 hf
      exact ih (j + 1) (by omega) (.inr (by omega))
    | false =>
      obtain ⟨e, hs⟩ := spI_still l.n hf
      show Stab l (spI l (rX l c j) l.n).1
      rw [e]
      exact hs
theorem spO_stable {n : Nat} {l : Sq Sstep} (hl : StOK n l) {c : Sq Scost} (h : Ch n c) (h0 : ∀ v, v < n → 0 ≤ (c.f v).roads_) : Stab l (spO l n c) := spO_stab hl h h0 n 0 (Nat.zero_add _) (.inl rfl)
theorem spO_Ch {n : Nat} {l : Sq Sstep} (hl : StOK n l) : ∀ (K : Nat) {c : Sq Scost}, Ch n c → Ch n (spO l K c) := by
  intro K
  induction K with
  | zero => intro c h; exact h
  | succ K ih =>
    intro c h
    unfold spO
    cases (spI l c l.n).2 with
    | true => exact ih (h.spI hl l.n (Nat.le_refl _))
    | false => exact h.spI hl l.n (Nat.le_refl _)
/-- A start: no roads yet. -/
theorem Ch.start {n : Nat} {c : Sq Scost} (h : ∀ v, v < n → (c.f v).roads_ = 0) : Ch n c := fun v hv =>
  ⟨[v], by simp, fun w hw => by
    obtain rfl := List.mem_singleton.1 hw
    exact ⟨hv, .refl _⟩, by rw [h v hv]; rfl⟩
/-- What holds of each state along a search. -/
theorem spI_inv {l : Sq Sstep} {J : Sq Scost → Prop} (h : ∀ (c : Sq Scost × Bool) i, i < l.n → J c.1 → J (spOne c (l.f i)).1) {c : Sq Scost} (h0 : J c) : ∀ i, i ≤ l.n → J (spI l c i).1 := by
  intro i
  induction i with
  | zero => intro _; exact h0
  | succ i ih => intro hi; exact h _ i (by omega) (ih (by omega))
theorem spO_inv {l : Sq Sstep} {J : Sq Scost → Prop} (h : ∀ (c : Sq Scost × Bool) i, i < l.n → J c.1 → J (spOne c (l.f i)).1) : ∀ (K : Nat) {c : Sq Scost}, J c → J (spO l K c) := by
  intro K
  induction K with
  | zero => intro c h; exact h
  | succ K ih =>
    intro c h0
    have := spI_inv h h0 l.n (Nat.le_refl _)
    unfold spO
    cases (spI l c l.n).2 with
    | true => exact ih this
    | false => exact this
theorem spO_mono (l : Sq Sstep) (k : Nat) : ∀ (K : Nat) (c : Sq Scost), cLe ((spO l K c).f k) (c.f k) := by
  intro K
  induction K with
  | zero => intro c; exact .refl _
  | succ K ih =>
    intro c
    have m : cLe ((spI l c l.n).1.f k) (c.f k) := by have := spI_mono l c k l.n 0; rwa [Nat.zero_add] at this
    unfold spO
    cases (spI l c l.n).2 with
    | true => exact (ih _).trans m
    | false => exact m
/-- A bound from below that all steps keep. -/
theorem spO_ge {n : Nat} {l : Sq Sstep} (hl : StOK n l) {c : Sq Scost} (φ : Nat → Int) (h0 : ∀ v, v < n → φ v ≤ (c.f v).time_) (hs : ∀ i, i < l.n → φ (l.f i).to_.toNat ≤ φ (l.f i).from_.toNat + (l.f i).time_) (K : Nat) : ∀ v, v < n → φ v ≤ ((spO l K c).f v).time_ := by
  refine spO_inv (J := fun c => ∀ v, v < n → φ v ≤ (c.f v).time_) (fun c i hi hc v hv => ?_) K h0
  obtain ⟨s1, s2, s3, s4, s5, s6⟩ := hl.h i hi
  rcases spOne_cases c (l.f i) with ⟨e, _⟩ | ⟨_, _, hf⟩
  · rw [e]; exact hc v hv
  · rw [hf]
    by_cases hk : v = (l.f i).to_.toNat
    · rw [if_pos hk, hk]
      have h1 := hc (l.f i).from_.toNat (by omega)
      have h2 := hs i hi
      unfold cWith
      dsimp only
      omega
    · rw [if_neg hk]; exact hc v hv
end Go.Proofs.YtfedelfcdjldlaaDoor.Ab
