/- Stage 11, maths: places that are connected by open roads. -/
import Derived.Test.YtmfiagdelnddkaaGreatXB
namespace Go.Proofs.YtmfiagdelnddkaaGreat.Ab
open Go
def In (l : Sq Int) (v : Int) : Prop := ∃ j, j < l.n ∧ l.f j = v
def Dis (l : Sq Int) : Prop := ∀ i j, i < l.n → j < l.n → l.f i = l.f j → i = j
theorem php : ∀ (n k : Nat) (f : Nat → Nat), (∀ i, i < k → f i < n) → (∀ i j, i < k → j < k → f i = f j → i = j) → k ≤ n := by
  intro n
  induction n with
  | zero =>
    intro k f h _
    rcases Nat.eq_zero_or_pos k with c | c
    · omega
    · have := h 0 c; omega
  | succ n ih =>
    intro k f h hi
    by_cases c : ∃ i, i < k ∧ f i = n
    · obtain ⟨i0, h0, e0⟩ := c
      have := ih (k - 1) (fun i => f (if i < i0 then i else i + 1)) (fun i hk => by
        split
        · have h1 := h i (by omega)
          have h2 : f i ≠ n := fun e => by have := hi i i0 (by omega) h0 (by omega); omega
          omega
        · have h1 := h (i + 1) (by omega)
          have h2 : f (i + 1) ≠ n := fun e => by have := hi (i + 1) i0 (by omega) h0 (by omega); omega
          omega) (fun i j h1 h2 e => by
        split at e <;> split at e
        · exact hi i j (by omega) (by omega) e
        · have := hi i (j + 1) (by omega) (by omega) e; omega
        · have := hi (i + 1) j (by omega) (by omega) e; omega
        · have := hi (i + 1) (j + 1) (by omega) (by omega) e; omega)
      omega
    · have := ih k f (fun i hk => by
        have h1 := h i hk
        have h2 : f i ≠ n := fun e => c ⟨i, hk, e⟩
        omega) hi
      omega
theorem Dis.le {l : Sq Int} (h : Dis l) {n : Nat} (hb : ∀ v, In l v → 0 ≤ v ∧ v < n) : l.n ≤ n :=
  php n l.n (fun i => (l.f i).toNat) (fun i hi => by have := hb _ ⟨i, hi, rfl⟩; omega) (fun i j hi hj e => by
    have h1 := hb _ ⟨i, hi, rfl⟩
    have h2 := hb _ ⟨j, hj, rfl⟩
    exact h i j hi hj (by omega))
structure Pm (l r : Sq Int) : Prop where
  n : r.n = l.n
  d : Dis l → Dis r
  i : ∀ v, In r v ↔ In l v
theorem Pm.refl (l : Sq Int) : Pm l l := ⟨rfl, id, fun _ => Iff.rfl⟩
theorem Pm.swap {l r : Sq Int} (h : Pm l r) {a b : Nat} (ha : a < r.n) (hb : b < r.n) (hne : a ≠ b) {r' : Sq Int} (hn : r'.n = r.n) (hf : ∀ k, r'.f k = if k = a then r.f b else if k = b then r.f a else r.f k) : Pm l r' := by
  have fa : r'.f a = r.f b := by rw [hf, if_pos rfl]
  have fb : r'.f b = r.f a := by rw [hf, if_neg (Ne.symm hne), if_pos rfl]
  have fo : ∀ k, k ≠ a → k ≠ b → r'.f k = r.f k := fun k h1 h2 => by rw [hf, if_neg h1, if_neg h2]
  refine ⟨by rw [hn, h.n], fun hd => ?_, fun v => ?_⟩
  · have hr := h.d hd
    intro i j hi hj e
    rw [hn] at hi hj
    have ht : ∀ k, r'.f k = r.f (if k = a then b else if k = b then a else k) := fun k => by
      rw [hf]
      split
      · rfl
      · split <;> rfl
    rw [ht i, ht j] at e
    have := hr _ _ (by split <;> (try split) <;> omega) (by split <;> (try split) <;> omega) e
    split at this <;> (try split at this) <;> (try split at this) <;> (try split at this) <;> omega
  · rw [← h.i v]
    constructor
    · rintro ⟨j, hj, e⟩
      rw [hn] at hj
      rw [hf] at e
      split at e
      · exact ⟨b, hb, e⟩
      · split at e
        · exact ⟨a, ha, e⟩
        · exact ⟨j, hj, e⟩
    · rintro ⟨j, hj, e⟩
      by_cases c1 : j = a
      · subst c1; exact ⟨b, by omega, by rw [fb]; exact e⟩
      · by_cases c2 : j = b
        · subst c2; exact ⟨a, by omega, by rw [fa]; exact e⟩
        · exact ⟨j, by omega, by rw [fo j c1 c2]; exact e⟩
def Edg (R : Sq aB) (u v : Int) : Prop := ∃ i, i < R.n ∧ (R.f i).Closed = false ∧ (((R.f i).From = u ∧ (R.f i).To = v) ∨ ((R.f i).From = v ∧ (R.f i).To = u))
theorem Edg.symm {R : Sq aB} {u v : Int} (h : Edg R u v) : Edg R v u := by
  obtain ⟨i, h1, h2, h3⟩ := h
  exact ⟨i, h1, h2, h3.symm⟩
def Cl (R : Sq aB) (C : Int → Prop) : Prop := ∀ u v, Edg R u v → C u → C v
def Conn (R : Sq aB) (u v : Int) : Prop := ∀ C, Cl R C → C u → C v
theorem Conn.refl (R : Sq aB) (u : Int) : Conn R u u := fun _ _ h => h
theorem Conn.trans {R : Sq aB} {u v w : Int} (h : Conn R u v) (k : Conn R v w) : Conn R u w := fun C hC hu => k C hC (h C hC hu)
theorem Conn.edg {R : Sq aB} {u v w : Int} (h : Conn R u v) (k : Edg R v w) : Conn R u w := fun C hC hu => hC _ _ k (h C hC hu)
theorem Conn.symm {R : Sq aB} {u v : Int} (h : Conn R u v) : Conn R v u :=
  h (fun x => Conn R x u) (fun _ _ e hx C hC hy => hx C hC (hC _ _ e.symm hy)) (.refl R u)
theorem Conn.cl (R : Sq aB) (u : Int) : Cl R (Conn R u) := fun _ _ e h => h.edg e
theorem Conn.mono {R R' : Sq aB} (h : ∀ u v, Edg R u v → Edg R' u v) {u v : Int} (k : Conn R u v) : Conn R' u v := fun C hC hu => k C (fun a b e => hC a b (h a b e)) hu
theorem Edg.rng {m : aL} (ok : uV m) {u v : Int} (e : Edg m.Roads u v) : (0 ≤ u ∧ u < m.Places.n) ∧ 0 ≤ v ∧ v < m.Places.n := by
  obtain ⟨i, i1, i2, i3⟩ := e
  have := pO ok i1
  rcases i3 with ⟨rfl, rfl⟩ | ⟨rfl, rfl⟩ <;> omega
def CutM (m : aL) (v : Int) : Prop := 0 ≤ v ∧ v < m.Places.n ∧ ∀ w : Int, 0 ≤ w → w < m.Places.n → Conn m.Roads v w → (m.Places.f w.toNat).Surface = false
def Aw (m : aL) (v : Int) : Prop := ∃ w : Int, 0 ≤ w ∧ w < m.Places.n ∧ Conn m.Roads v w ∧ (m.Places.f w.toNat).Surface = true
theorem ajK {m : aL} {v : Int} (h0 : 0 ≤ v) (h1 : v < m.Places.n) : CutM m v ↔ ¬ Aw m v := by
  constructor
  · rintro ⟨_, _, h⟩ ⟨w, w0, w1, c, e⟩
    have := h w w0 w1 c
    rw [e] at this
    cases this
  · intro h
    refine ⟨h0, h1, fun w w0 w1 c => ?_⟩
    cases e : (m.Places.f w.toNat).Surface with
    | false => rfl
    | true => exact absurd ⟨w, w0, w1, c, e⟩ h
theorem Aw.edge {m : aL} {u v : Int} (e : Edg m.Roads u v) : Aw m u ↔ Aw m v :=
  ⟨fun ⟨w, w0, w1, c, s⟩ => ⟨w, w0, w1, ((Conn.refl _ _).edg e.symm).trans c, s⟩, fun ⟨w, w0, w1, c, s⟩ => ⟨w, w0, w1, ((Conn.refl _ _).edg e).trans c, s⟩⟩
theorem Aw.surface {m : aL} {v : Int} (h0 : 0 ≤ v) (h1 : v < m.Places.n) (h : (m.Places.f v.toNat).Surface = true) : Aw m v := ⟨v, h0, h1, .refl _ _, h⟩
end Go.Proofs.YtmfiagdelnddkaaGreat.Ab
