/- Stage 11, maths: what bounds that are accepted prove. -/
import Derived.Test.YtmfiagdelnddkaaGreatXF
import Derived.Test.YtmfiagdelnddkaaGreatXG
namespace Go.Proofs.YtmfiagdelnddkaaGreat.Ab
open Go
structure aa6 (a : SAir) (s : au) (L H : Sq Int) : Prop where
  r : RtOK a s
  ln : L.n = a.Mine.Places.n
  hn : H.n = a.Mine.Places.n
  lr : ∀ k, k < L.n → -70368744177664 ≤ L.f k ∧ L.f k ≤ 70368744177664
  hr : ∀ k, k < H.n → -70368744177664 ≤ H.f k ∧ H.f k ≤ 70368744177664
  z : ∀ i : Nat, i < a.Mine.Places.n → (a.Mine.Places.f i).Surface = true ∨ ¬ Aw a.Mine i → L.f i = 0 ∧ H.f i = 0
  u : ∀ i : Nat, i < a.Mine.Places.n → (a.Mine.Places.f i).Surface = false → Aw a.Mine i → 0 ≤ NL a s H i (H.f i) ∧ NH a s L i (L.f i) ≤ 0
structure aia (a : SAir) (s : au) (P Q : Sq Int) : Prop where
  calm : ∀ i, i < a.Mine.Places.n → (a.Mine.Places.f i).Surface = true → P.f i = 0
  dr : ∀ j, j < a.Mine.Roads.n → (a.Mine.Roads.f j).Closed = false → (cK a s j (Q.f j)).1 ≤ P.f (a.Mine.Roads.f j).From.toNat - P.f (a.Mine.Roads.f j).To.toNat ∧ P.f (a.Mine.Roads.f j).From.toNat - P.f (a.Mine.Roads.f j).To.toNat ≤ (cK a s j (Q.f j)).2
  cl : ∀ j, j < a.Mine.Roads.n → (a.Mine.Roads.f j).Closed = true → Q.f j = 0
  qb : ∀ j, j < a.Mine.Roads.n → -1048576 ≤ Q.f j ∧ Q.f j ≤ 1048576
  nt : ∀ i : Nat, i < a.Mine.Places.n → (a.Mine.Places.f i).Surface = false → net a.Mine.Roads Q i a.Mine.Roads.n = 0
theorem afk (R : Sq aB) (q : Sq Int) (k : Int) : ∀ n, net R q k n = sumN (fun j => (if (R.f j).From = k then q.f j else 0) - (if (R.f j).To = k then q.f j else 0)) n := by
  intro n
  induction n with
  | zero => rfl
  | succ n ih =>
    rw [XR, ih]
    show _ = sumN _ n + ((if (R.f n).From = k then q.f n else 0) - (if (R.f n).To = k then q.f n else 0))
    omega
theorem afz {f g h : Nat → Int} {n : Nat} (e : ∀ i, i < n → f i + g i = h i) : sumN f n = sumN h n - sumN g n := by
  have := acz f g n
  rw [jo e] at this
  omega
theorem aji {a : SAir} {s : au} (ok : RtOK a s) {j : Nat} (hj : j < a.Mine.Roads.n) {p q : Int} (q0 : -1048576 ≤ q) (h : p < (cK a s j q).2) : flL a s j p < q := by
  obtain ⟨_, c⟩ := Sz ok hj p
  rcases Int.lt_or_le (flL a s j p) q with k | k
  · exact k
  · exact absurd h (c.f q q0 (by omega))
theorem ajh {a : SAir} {s : au} (ok : RtOK a s) {j : Nat} (hj : j < a.Mine.Roads.n) {p q : Int} (q1 : q ≤ 1048576) (h : (cK a s j q).1 < p) : q < flH a s j p := by
  obtain ⟨_, c⟩ := Sy ok hj p
  rcases Int.lt_or_le q (flH a s j p) with k | k
  · exact k
  · have := c.t q k q1
    omega
theorem akG {a : SAir} {s : au} (ok : RtOK a s) {j : Nat} (hj : j < a.Mine.Roads.n) {p q : Int} (q0 : -1048576 ≤ q) (h : p ≤ (cK a s j q).2) : flL a s j p ≤ q := by
  obtain ⟨_, c⟩ := Sz ok hj p
  have ch := c.hi
  rcases Int.lt_or_le q (flL a s j p) with k | k
  · have l := (CF ok hj (x := q) (y := flL a s j p) (by omega) k (by omega)).2
    have := c.f (flL a s j p) (by omega) (by omega)
    omega
  · exact k
theorem akF {a : SAir} {s : au} (ok : RtOK a s) {j : Nat} (hj : j < a.Mine.Roads.n) {p q : Int} (q1 : q ≤ 1048576) (h : (cK a s j q).1 ≤ p) : q ≤ flH a s j p := by
  obtain ⟨_, c⟩ := Sy ok hj p
  have cl := c.lo
  rcases Int.lt_or_le (flH a s j p) q with k | k
  · have l := (CF ok hj (x := flH a s j p) (y := q) (by omega) k (by omega)).1
    have := c.t (flH a s j p) (Int.le_refl _) (by omega)
    omega
  · exact k
section
variable {a : SAir} {s : au} {L H P Q : Sq Int}
theorem Zd {m : aL} (ok : uV m) {j : Nat} (hj : j < m.Roads.n) (h : (!(m.Roads.f j).Closed) = true) : Edg m.Roads (((m.Roads.f j).From.toNat : Nat) : Int) (((m.Roads.f j).To.toNat : Nat) : Int) := by
  have re := pO ok hj
  refine ⟨j, hj, by simpa using h, .inl ⟨by omega, by omega⟩⟩
theorem aaY (C : Nat → Prop) (hC : ∀ r, r < a.Mine.Roads.n → (!(a.Mine.Roads.f r).Closed) = true → (C (a.Mine.Roads.f r).From.toNat ↔ C (a.Mine.Roads.f r).To.toNat)) {i : Nat} (ha : Aw a.Mine i) (hi : C i) :
    ∃ j, j < a.Mine.Places.n ∧ C j ∧ (a.Mine.Places.f j).Surface = true := by
  obtain ⟨w, w0, w1, c, e⟩ := ha
  refine ⟨w.toNat, by omega, c (fun x => C x.toNat) (fun u v ed hu => ?_) (by rw [aF]; exact hi), e⟩
  obtain ⟨r, hr, ho, h⟩ := ed
  have := hC r hr (by rw [ho]; rfl)
  rcases h with ⟨rfl, rfl⟩ | ⟨rfl, rfl⟩
  · exact this.1 hu
  · exact this.2 hu
theorem aa6.above (h : aa6 a s L H) (f : aia a s P Q) : ∀ i : Nat, i < a.Mine.Places.n → Aw a.Mine i → P.f i ≤ H.f i := by
  have ok := h.r
  have re := fun {j : Nat} (hj : j < a.Mine.Roads.n) => pO ok.m hj
  have main := aaR (n := a.Mine.Places.n) (m := a.Mine.Roads.n) (fr := fun r => (a.Mine.Roads.f r).From.toNat) (to := fun r => (a.Mine.Roads.f r).To.toNat) (o := fun r => !(a.Mine.Roads.f r).Closed)
    (e := fun i => P.f i - H.f i) (u := fun r => flL a s r (H.f (a.Mine.Roads.f r).From.toNat - H.f (a.Mine.Roads.f r).To.toNat) - Q.f r) (v := fun r => flH a s r (H.f (a.Mine.Roads.f r).From.toNat - H.f (a.Mine.Roads.f r).To.toNat) - Q.f r) (A := fun i => Aw a.Mine (i : Int))
    (fun r hr => by have := re hr; omega) (fun r hr => by have := re hr; omega)
    (fun r hr ho => Aw.edge (Zd ok.m hr ho))
    (fun r hr _ => by have := aew ok hr (H.f (a.Mine.Roads.f r).From.toNat - H.f (a.Mine.Roads.f r).To.toNat); omega)
    (fun r hr ho he => by
      have d := f.dr r hr (by simpa using ho)
      have := aji ok hr (p := H.f (a.Mine.Roads.f r).From.toNat - H.f (a.Mine.Roads.f r).To.toNat) (f.qb r hr).1 (by omega)
      omega)
    (fun r hr ho he => by
      have d := f.dr r hr (by simpa using ho)
      have := ajh ok hr (p := H.f (a.Mine.Roads.f r).From.toNat - H.f (a.Mine.Roads.f r).To.toNat) (f.qb r hr).2 (by omega)
      omega)
    (fun i hi ha he => by
      have ns : (a.Mine.Places.f i).Surface = false := by
        cases e : (a.Mine.Places.f i).Surface with
        | false => rfl
        | true =>
          have h1 := f.calm i hi e
          have h2 := (h.z i hi (.inl e)).2
          omega
      rw [afz (g := fun j => (if (a.Mine.Roads.f j).From = (i : Int) then Q.f j else 0) - (if (a.Mine.Roads.f j).To = (i : Int) then Q.f j else 0)) (h := coL a s H i (H.f i)) fun r hr => ?_, ← afk, f.nt i hi ns]
      · have := (h.u i hi ns ha).1
        unfold NL at this
        omega
      · unfold addR coL
        dsimp only
        have q := re hr
        by_cases ec : (a.Mine.Roads.f r).Closed = true
        · rw [if_neg (show ¬ ((!(a.Mine.Roads.f r).Closed) = true) by rw [ec]; decide), if_pos ec, f.cl r hr ec]
          split <;> split <;> rfl
        · rw [if_pos (show (!(a.Mine.Roads.f r).Closed) = true by simpa using ec), if_neg ec]
          by_cases c1 : (a.Mine.Roads.f r).From = (i : Int)
          · have c2 : ¬ (a.Mine.Roads.f r).To = (i : Int) := by omega
            have e1 : (a.Mine.Roads.f r).From.toNat = i := by omega
            rw [if_pos e1, if_neg (show ¬ (a.Mine.Roads.f r).To.toNat = i by omega), if_pos c1, if_neg c2, if_pos c1, e1]; omega
          · rw [if_neg (show ¬ (a.Mine.Roads.f r).From.toNat = i by omega), if_neg c1, if_neg c1]
            by_cases c2 : (a.Mine.Roads.f r).To = (i : Int)
            · have e1 : (a.Mine.Roads.f r).To.toNat = i := by omega
              rw [if_pos e1, if_pos c2, if_pos c2, e1]; omega
            · rw [if_neg (show ¬ (a.Mine.Roads.f r).To.toNat = i by omega), if_neg c2, if_neg c2]; rfl)
    (fun C hC i _ ha hi => by
      obtain ⟨j, hj, cj, e⟩ := aaY C hC ha hi
      refine ⟨j, hj, .surface (by omega) (by omega) (by rw [aF]; exact e), cj, ?_⟩
      have h1 := f.calm j hj e
      have h2 := (h.z j hj (.inl e)).2
      omega)
  intro i hi ha
  have := main i hi ha
  omega
theorem aa6.below (h : aa6 a s L H) (f : aia a s P Q) : ∀ i : Nat, i < a.Mine.Places.n → Aw a.Mine i → L.f i ≤ P.f i := by
  have ok := h.r
  have re := fun {j : Nat} (hj : j < a.Mine.Roads.n) => pO ok.m hj
  have main := aaR (n := a.Mine.Places.n) (m := a.Mine.Roads.n) (fr := fun r => (a.Mine.Roads.f r).From.toNat) (to := fun r => (a.Mine.Roads.f r).To.toNat) (o := fun r => !(a.Mine.Roads.f r).Closed)
    (e := fun i => L.f i - P.f i) (u := fun r => Q.f r - flH a s r (L.f (a.Mine.Roads.f r).From.toNat - L.f (a.Mine.Roads.f r).To.toNat)) (v := fun r => Q.f r - flL a s r (L.f (a.Mine.Roads.f r).From.toNat - L.f (a.Mine.Roads.f r).To.toNat)) (A := fun i => Aw a.Mine (i : Int))
    (fun r hr => by have := re hr; omega) (fun r hr => by have := re hr; omega)
    (fun r hr ho => Aw.edge (Zd ok.m hr ho))
    (fun r hr _ => by have := aew ok hr (L.f (a.Mine.Roads.f r).From.toNat - L.f (a.Mine.Roads.f r).To.toNat); omega)
    (fun r hr ho he => by
      have d := f.dr r hr (by simpa using ho)
      have := ajh ok hr (p := L.f (a.Mine.Roads.f r).From.toNat - L.f (a.Mine.Roads.f r).To.toNat) (f.qb r hr).2 (by omega)
      omega)
    (fun r hr ho he => by
      have d := f.dr r hr (by simpa using ho)
      have := aji ok hr (p := L.f (a.Mine.Roads.f r).From.toNat - L.f (a.Mine.Roads.f r).To.toNat) (f.qb r hr).1 (by omega)
      omega)
    (fun i hi ha he => by
      have ns : (a.Mine.Places.f i).Surface = false := by
        cases e : (a.Mine.Places.f i).Surface with
        | false => rfl
        | true =>
          have h1 := f.calm i hi e
          have h2 := (h.z i hi (.inl e)).1
          omega
      rw [afz (g := coH a s L i (L.f i)) (h := fun j => (if (a.Mine.Roads.f j).From = (i : Int) then Q.f j else 0) - (if (a.Mine.Roads.f j).To = (i : Int) then Q.f j else 0)) fun r hr => ?_, ← afk, f.nt i hi ns]
      · have := (h.u i hi ns ha).2
        unfold NH at this
        omega
      · unfold addR coH
        dsimp only
        have q := re hr
        by_cases ec : (a.Mine.Roads.f r).Closed = true
        · rw [if_neg (show ¬ ((!(a.Mine.Roads.f r).Closed) = true) by rw [ec]; decide), if_pos ec, f.cl r hr ec]
          split <;> split <;> rfl
        · rw [if_pos (show (!(a.Mine.Roads.f r).Closed) = true by simpa using ec), if_neg ec]
          by_cases c1 : (a.Mine.Roads.f r).From = (i : Int)
          · have c2 : ¬ (a.Mine.Roads.f r).To = (i : Int) := by omega
            have e1 : (a.Mine.Roads.f r).From.toNat = i := by omega
            rw [if_pos e1, if_neg (show ¬ (a.Mine.Roads.f r).To.toNat = i by omega), if_pos c1, if_pos c1, if_neg c2, e1]; omega
          · rw [if_neg (show ¬ (a.Mine.Roads.f r).From.toNat = i by omega), if_neg c1, if_neg c1]
            by_cases c2 : (a.Mine.Roads.f r).To = (i : Int)
            · have e1 : (a.Mine.Roads.f r).To.toNat = i := by omega
              rw [if_pos e1, if_pos c2, if_pos c2, e1]; omega
            · rw [if_neg (show ¬ (a.Mine.Roads.f r).To.toNat = i by omega), if_neg c2, if_neg c2]; rfl)
    (fun C hC i _ ha hi => by
      obtain ⟨j, hj, cj, e⟩ := aaY C hC ha hi
      refine ⟨j, hj, .surface (by omega) (by omega) (by rw [aF]; exact e), cj, ?_⟩
      have h1 := f.calm j hj e
      have h2 := (h.z j hj (.inl e)).1
      omega)
  intro i hi ha
  have := main i hi ha
  omega
theorem aa6.flow (h : aa6 a s L H) (f : aia a s P Q) {j : Nat} (hj : j < a.Mine.Roads.n) (ho : (a.Mine.Roads.f j).Closed = false) (ha : Aw a.Mine (a.Mine.Roads.f j).From) :
    flL a s j (L.f (a.Mine.Roads.f j).From.toNat - H.f (a.Mine.Roads.f j).To.toNat) ≤ Q.f j ∧ Q.f j ≤ flH a s j (H.f (a.Mine.Roads.f j).From.toNat - L.f (a.Mine.Roads.f j).To.toNat) := by
  have ok := h.r
  have re := pO ok.m hj
  have ed := Zd ok.m hj (by rw [ho]; rfl)
  rw [show (((a.Mine.Roads.f j).From.toNat : Nat) : Int) = (a.Mine.Roads.f j).From by omega, show (((a.Mine.Roads.f j).To.toNat : Nat) : Int) = (a.Mine.Roads.f j).To by omega] at ed
  have hb := (Aw.edge ed).1 ha
  have d := f.dr j hj ho
  have q := f.qb j hj
  have ha' : Aw a.Mine (((a.Mine.Roads.f j).From.toNat : Nat) : Int) := by rw [show (((a.Mine.Roads.f j).From.toNat : Nat) : Int) = (a.Mine.Roads.f j).From by omega]; exact ha
  have hb' : Aw a.Mine (((a.Mine.Roads.f j).To.toNat : Nat) : Int) := by rw [show (((a.Mine.Roads.f j).To.toNat : Nat) : Int) = (a.Mine.Roads.f j).To by omega]; exact hb
  have a1 := h.above f _ (show (a.Mine.Roads.f j).From.toNat < a.Mine.Places.n by omega) ha'
  have a2 := h.below f _ (show (a.Mine.Roads.f j).From.toNat < a.Mine.Places.n by omega) ha'
  have b1 := h.above f _ (show (a.Mine.Roads.f j).To.toNat < a.Mine.Places.n by omega) hb'
  have b2 := h.below f _ (show (a.Mine.Roads.f j).To.toNat < a.Mine.Places.n by omega) hb'
  exact ⟨akG ok hj q.1 (by omega), akF ok hj q.2 (by omega)⟩
end
end Go.Proofs.YtmfiagdelnddkaaGreat.Ab
