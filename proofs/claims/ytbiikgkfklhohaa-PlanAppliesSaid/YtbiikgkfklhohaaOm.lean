/- Edits of different roads in any order; a road more: the sums. -/
import Derived.Test.YtbiikgkfklhohaaAy
namespace Go.Proofs.Ytbiikgkfklhohaa
open Go.RowKit

def turned (e : Ed) (r : Rd) : Rd := if e.kind = 3 then r.shut true else if e.kind = 4 then r.shut false else if e.kind = 5 then r.rested e.span else r.lifted e.span
theorem edMn_turned {m : Mn} {e : Ed} (h : 3 ≤ e.kind) : edMn m e = ⟨m.ps, m.rs.set e.road.toNat (turned e (m.rs.getD e.road.toNat rd0))⟩ := by
  unfold edMn turned
  dsimp only
  rw [if_neg (by omega), if_neg (by omega)]
  by_cases h3 : e.kind = 3
  · rw [if_pos h3, if_pos h3]
  rw [if_neg h3, if_neg h3]
  by_cases h4 : e.kind = 4
  · rw [if_pos h4, if_pos h4]
  rw [if_neg h4, if_neg h4]
  by_cases h5 : e.kind = 5
  · rw [if_pos h5, if_pos h5]
  rw [if_neg h5, if_neg h5]
theorem ckRds_iff (n : Int) (l : List Rd) : ckRds n l = 0 ↔ ∀ r ∈ l, ckRd r n = 0 := by
  induction l with
  | nil => simp [ckRds]
  | cons r l ih =>
    simp only [ckRds, List.mem_cons, forall_eq_or_imp]
    by_cases h : ckRd r n = 0
    · rw [if_pos h, ih]; simp [h]
    · rw [if_neg h]; simp [h]
theorem ck_iff (m : Mn) : ck m = 0 ↔ m.ps.length ≤ 64 ∧ m.rs.length ≤ 128 ∧ ckPls m.ps = true ∧ ∀ r ∈ m.rs, ckRd r m.ps.length = 0 := by
  unfold ck
  by_cases h : 64 < m.ps.length ∨ 128 < m.rs.length
  · rw [if_pos h]
    constructor
    · intro h2; omega
    · rintro ⟨h2, h3, _⟩; omega
  · rw [if_neg h]
    cases hp : ckPls m.ps
    · simp
    · simp only [Bool.not_true, Bool.false_eq_true, if_false, ckRds_iff]
      constructor
      · intro h2; exact ⟨by omega, by omega, trivial, h2⟩
      · rintro ⟨_, _, _, h2⟩; exact h2
theorem applyMn_ok {m : Mn} {d : Ed} (h : (applyMn m d).2 = 0) : ck m = 0 ∧ ckEd m d = 0 ∧ ck (edMn m d) = 0 ∧ applyMn m d = (edMn m d, 0) := by
  unfold applyMn at h ⊢
  by_cases h1 : ck m = 0
  · rw [if_neg (by omega)] at h ⊢
    by_cases h2 : ckEd m d = 0
    · rw [if_neg (by omega)] at h ⊢
      by_cases h3 : ck (edMn m d) = 0
      · rw [if_neg (by omega)]
        exact ⟨h1, h2, h3, rfl⟩
      · rw [if_pos h3] at h; exact absurd h h3
    · rw [if_pos h2] at h; exact absurd h h2
  · rw [if_pos h1] at h; exact absurd h h1
theorem applyMn_of {m : Mn} {d : Ed} (h1 : ck m = 0) (h2 : ckEd m d = 0) (h3 : ck (edMn m d) = 0) : applyMn m d = (edMn m d, 0) := by
  unfold applyMn
  rw [if_neg (by omega), if_neg (by omega), if_neg (by omega)]

theorem ckEd_set {m : Mn} {e f : Ed} (he : 3 ≤ e.kind) (hf : 3 ≤ f.kind) (hr : e.road ≠ f.road) (h1 : ckEd m e = 0) (h2 : ckEd m f = 0) :
    ckEd ⟨m.ps, m.rs.set e.road.toNat (turned e (m.rs.getD e.road.toNat rd0))⟩ f = 0 ∧
    (m.rs.set e.road.toNat (turned e (m.rs.getD e.road.toNat rd0))).getD f.road.toNat rd0 = m.rs.getD f.road.toNat rd0 ∧ e.road.toNat ≠ f.road.toNat ∧ f.road.toNat < m.rs.length := by
  obtain ⟨_, i1⟩ := ckEd_ok h1
  obtain ⟨_, i2⟩ := ckEd_ok h2
  replace i1 := i1 he
  replace i2 := i2 hf
  have hn : e.road.toNat ≠ f.road.toNat := by omega
  have hg : (m.rs.set e.road.toNat (turned e (m.rs.getD e.road.toNat rd0))).getD f.road.toNat rd0 = m.rs.getD f.road.toNat rd0 := by
    simp only [List.getD_eq_getElem?_getD, List.getElem?_set_ne hn]
  refine ⟨?_, hg, hn, by omega⟩
  unfold ckEd at h2 ⊢
  dsimp only
  rw [hg, List.length_set]
  exact h2

theorem mem_two {α : Type} {l : List α} {i j : Nat} {a b x : α} (hj : j < l.length) (h : x ∈ (l.set i a).set j b) : x ∈ l.set i a ∨ x ∈ l.set j b := by
  rcases List.mem_or_eq_of_mem_set h with h | rfl
  · exact .inl h
  · exact .inr (List.mem_set hj _)

theorem orders {m : Mn} {e f : Ed} (he : 3 ≤ e.kind) (hf : 3 ≤ f.kind) (hr : e.road ≠ f.road) (h1 : (applyMn m e).2 = 0) (h2 : (applyMn m f).2 = 0) :
    (applyMn (applyMn m e).1 f).2 = 0 ∧ (applyMn (applyMn m f).1 e).2 = 0 ∧ (applyMn (applyMn m f).1 e).1 = (applyMn (applyMn m e).1 f).1 := by
  obtain ⟨k1, k2, k3, k4⟩ := applyMn_ok h1
  obtain ⟨_, q2, q3, q4⟩ := applyMn_ok h2
  rw [k4, q4]
  dsimp only
  rw [edMn_turned he] at k3 ⊢
  rw [edMn_turned hf] at q3 ⊢
  obtain ⟨c1, g1, n1, l1⟩ := ckEd_set he hf hr k2 q2
  obtain ⟨c2, g2, n2, l2⟩ := ckEd_set hf he (Ne.symm hr) q2 k2
  have E1 : edMn ⟨m.ps, m.rs.set e.road.toNat (turned e (m.rs.getD e.road.toNat rd0))⟩ f = ⟨m.ps, (m.rs.set e.road.toNat (turned e (m.rs.getD e.road.toNat rd0))).set f.road.toNat (turned f (m.rs.getD f.road.toNat rd0))⟩ := by
    rw [edMn_turned hf]
    dsimp only
    rw [g1]
  have E2 : edMn ⟨m.ps, m.rs.set f.road.toNat (turned f (m.rs.getD f.road.toNat rd0))⟩ e = ⟨m.ps, (m.rs.set e.road.toNat (turned e (m.rs.getD e.road.toNat rd0))).set f.road.toNat (turned f (m.rs.getD f.road.toNat rd0))⟩ := by
    rw [edMn_turned he]
    dsimp only
    rw [g2, List.set_comm _ _ n2]
  have hk : ck ⟨m.ps, (m.rs.set e.road.toNat (turned e (m.rs.getD e.road.toNat rd0))).set f.road.toNat (turned f (m.rs.getD f.road.toNat rd0))⟩ = 0 := by
    rw [ck_iff] at k3 q3 ⊢
    dsimp only at k3 q3 ⊢
    simp only [List.length_set] at k3 q3 ⊢
    refine ⟨k3.1, k3.2.1, k3.2.2.1, fun r hx => ?_⟩
    rcases mem_two l1 hx with hx | hx
    · exact k3.2.2.2 r hx
    · exact q3.2.2.2 r hx
  rw [applyMn_of k3 c1 (by rw [E1]; exact hk), applyMn_of q3 c2 (by rw [E2]; exact hk)]
  exact ⟨rfl, rfl, by dsimp only; rw [E1, E2]⟩

theorem one_more {m : Mn} {r : Rd} {f t : Int} (hm : ck m = 0) (hr : RdGood r f t) (h1 : m.rs.length ≤ 8) (hf : 0 ≤ f ∧ f < m.ps.length) (ht : 0 ≤ t ∧ t < m.ps.length) (p : Pl) (n : Int) (s : Sp) :
    (f ≠ t ∧ applyMn m ⟨2, p, r, n, s⟩ = (⟨m.ps, m.rs ++ [r]⟩, 0)) ∨ (f = t ∧ applyMn m ⟨2, p, r, n, s⟩ = (⟨[], []⟩, 4)) := by
  obtain ⟨a1, a2, a3, a4, a5, a6, a7⟩ := hr
  have hk : ckEd m ⟨2, p, r, n, s⟩ = 0 := by rfl
  have hE : edMn m ⟨2, p, r, n, s⟩ = ⟨m.ps, m.rs ++ [r]⟩ := by rfl
  have hm2 := (ck_iff m).1 hm
  by_cases hft : f = t
  · right
    have hc : ckRd r m.ps.length = 4 := ckRd_4 (by rw [a1, a2]; exact .inr (.inr (.inr (.inr hft))))
    have hck : ck ⟨m.ps, m.rs ++ [r]⟩ = 4 := by
      unfold ck
      dsimp only
      rw [if_neg (by simp; omega), hm2.2.2.1]
      simp only [Bool.not_true, Bool.false_eq_true, if_false]
      have : ∀ l : List Rd, (∀ x ∈ l, ckRd x m.ps.length = 0) → ckRds m.ps.length (l ++ [r]) = 4 := by
        intro l
        induction l with
        | nil => intro _; simp [ckRds, hc]
        | cons x l ih =>
          intro hl
          simp only [List.cons_append, ckRds]
          rw [if_pos (hl x (by simp))]
          exact ih fun y hy => hl y (by simp [hy])
      exact this _ hm2.2.2.2
    refine ⟨hft, ?_⟩
    unfold applyMn
    rw [if_neg (by omega), if_neg (by omega), hE, if_pos (by omega), hck]
  · left
    have hc : ckRd r m.ps.length = 0 := by
      unfold ckRd
      rw [if_neg, if_neg, if_neg]
      · simp [spn]; omega
      · simp [wi]; omega
      · simp [wi]; omega
    refine ⟨hft, ?_⟩
    rw [applyMn_of hm hk ?_, hE]
    rw [hE, ck_iff]
    dsimp only
    refine ⟨hm2.1, by simp; omega, hm2.2.2.1, fun x hx => ?_⟩
    rcases List.mem_append.1 hx with hx | hx
    · exact hm2.2.2.2 x hx
    · rw [List.mem_singleton.1 hx]; exact hc
end Go.Proofs.Ytbiikgkfklhohaa
