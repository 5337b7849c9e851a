/- The plain evaluator: a region's operations in whatever order they come. -/
import Derived.Test.YthkdmemkjojmoaaZD5
namespace Go.Proofs.Ythkdmemkjojmoaa.Ab
open Go

/-! ### States behind some of the changes -/
section
variable {K X : Type}
/-- The state behind those of the first m changes that L names, in the order of the text. -/
def SL (U : Nat → (K → X) → K → X) (S0 : K → X) : Nat → (Nat → Bool) → K → X
  | 0, _ => S0
  | m + 1, L => match L m with
    | true => U m (SL U S0 m L)
    | false => SL U S0 m L
variable {U : Nat → (K → X) → K → X} {S0 : K → X} {tc : Nat → K → Prop}
structure Chg (U : Nat → (K → X) → K → X) (tc : Nat → K → Prop) : Prop where
  off : ∀ m S k, ¬ tc m k → U m S k = S k
  on : ∀ m S S' k, tc m k → U m S k = U m S' k
theorem SL_eq (h : Chg U tc) {m : Nat} {L L' : Nat → Bool} {k : K} (e : ∀ j, j < m → tc j k → L j = L' j) : SL U S0 m L k = SL U S0 m L' k := by
  induction m with
  | zero => rfl
  | succ m ih =>
    have ih := ih fun j hj => e j (by omega)
    simp only [SL]
    by_cases ht : tc m k
    · rw [e m (by omega) ht]
      cases L' m with
      | true => exact h.on m _ _ k ht
      | false => exact ih
    · have a1 : (match L m with | true => U m (SL U S0 m L) | false => SL U S0 m L) k = SL U S0 m L k := by
        cases L m with
        | true => exact h.off m _ k ht
        | false => rfl
      have a2 : (match L' m with | true => U m (SL U S0 m L') | false => SL U S0 m L') k = SL U S0 m L' k := by
        cases L' m with
        | true => exact h.off m _ k ht
        | false => rfl
      rw [a1, a2, ih]
theorem SL_cut (h : Chg U tc) {m n : Nat} {L : Nat → Bool} {k : K} (hmn : m ≤ n) (e : ∀ j, m ≤ j → j < n → tc j k → L j = false) : SL U S0 n L k = SL U S0 m L k := by
  induction n with
  | zero => obtain rfl : m = 0 := by omega
            rfl
  | succ n ih =>
    by_cases hm : m = n + 1
    · subst hm; rfl
    · rw [← ih (by omega) fun j h1 h2 => e j h1 (by omega)]
      simp only [SL]
      by_cases ht : tc n k
      · rw [e n (by omega) (by omega) ht]
      · cases L n with
        | true => exact h.off n _ k ht
        | false => rfl
theorem SL_put (h : Chg U tc) {i n : Nat} {L L' : Nat → Bool} {k : K} (hi : i < n) (hL : L i = false) (hL' : L' i = true) (hoff : ∀ j, j ≠ i → L' j = L j) (e : tc i k → ∀ j, i < j → j < n → tc j k → L j = false) :
    SL U S0 n L' k = U i (SL U S0 n L) k := by
  by_cases ht : tc i k
  · rw [SL_cut (m := i + 1) h (by omega) fun j h1 h2 h3 => by rw [hoff j (by omega)]; exact e ht j (by omega) h2 h3]
    simp only [SL, hL']
    exact h.on i _ _ k ht
  · rw [h.off i _ k ht]
    refine SL_eq h fun j _ hj => ?_
    by_cases hji : j = i
    · subst hji; exact absurd hj ht
    · exact hoff j hji
end

theorem ups_touch {H H' : Nat → Option Blk} {l : List (Nat × Blk)} {id : Nat} (h : ∃ p ∈ l, p.1 = id) : ups H l id = ups H' l id := by
  induction l generalizing H H' with
  | nil => obtain ⟨p, hp, _⟩ := h; cases hp
  | cons q l ih =>
    simp only [ups]
    by_cases hq : ∃ p ∈ l, p.1 = id
    · exact ih hq
    · have hid : q.1 = id := by
        obtain ⟨p, hp, e⟩ := h
        rcases List.mem_cons.1 hp with rfl | hp
        · exact e
        · exact absurd ⟨p, hp, e⟩ hq
      rw [ups_off (fun p hp e => hq ⟨p, hp, e⟩), ups_off (fun p hp e => hq ⟨p, hp, e⟩), hid, upd_same, upd_same]
theorem chgH (rs : Nat → Rec) : Chg (fun m (H : Nat → Option Blk) => ups H (rs m).wr) (fun m id => ∃ p ∈ (rs m).wr, p.1 = id) :=
  ⟨fun _ _ _ h => ups_off fun p hp e => h ⟨p, hp, e⟩, fun _ _ _ _ h => ups_touch h⟩
theorem chgT (rs : Nat → Rec) : Chg (fun m (T : Nat → AV) => putT T (rs m).dst (rs m).val) (fun m t => (rs m).dst = some t) := by
  refine ⟨fun m S k h => ?_, fun m S S' k h => by simp [putT, h]⟩
  cases e : (rs m).dst with
  | none => simp only [putT]
  | some t => simp only [putT]; exact upd_ne _ _ (fun e2 => h (by rw [e, e2]))

/-! ### What the check says -/
theorem hit_false {xs ys : List Nat} (h : hit xs ys = false) : ∀ x ∈ xs, ∀ y ∈ ys, x ≠ y := by
  intro x hx y hy e
  subst e
  have : hit xs ys = true := List.any_eq_true.2 ⟨x, hx, List.any_eq_true.2 ⟨x, hy, Nat.beq_refl x⟩⟩
  rw [h] at this
  cases this
structure Free (ti : List Nat) (ri : Rec) (tj : List Nat) (rj : Rec) : Prop where
  ww : ∀ p ∈ ri.wr, ∀ q ∈ rj.wr, p.1 ≠ q.1
  wr : ∀ p ∈ ri.wr, ∀ id ∈ rj.rd, p.1 ≠ id
  rw : ∀ p ∈ rj.wr, ∀ id ∈ ri.rd, p.1 ≠ id
  dd : ∀ t, ri.dst = some t → rj.dst ≠ some t
  dt : ∀ t, ri.dst = some t → t ∉ tj
  td : ∀ t, rj.dst = some t → t ∉ ti
theorem free_spec {ti tj : List Nat} {ri rj : Rec} (h : free ti ri tj rj = true) : Free ti ri tj rj := by
  unfold free at h
  simp only [Bool.not_eq_true', Bool.or_eq_false_iff] at h
  obtain ⟨⟨⟨h1, h2⟩, h3⟩, h4⟩ := h
  refine ⟨fun p hp q hq => hit_false h1 p.1 (List.mem_map.2 ⟨p, hp, rfl⟩) q.1 (List.mem_append_right _ (List.mem_map.2 ⟨q, hq, rfl⟩)),
    fun p hp id hid => hit_false h1 p.1 (List.mem_map.2 ⟨p, hp, rfl⟩) id (List.mem_append_left _ hid),
    fun p hp id hid => hit_false h2 p.1 (List.mem_map.2 ⟨p, hp, rfl⟩) id hid, fun t ht ht2 => ?_, fun t ht hm => ?_, fun t ht hm => ?_⟩
  · exact hit_false h3 t (by simp [ht]) t (List.mem_append_right _ (by simp [ht2])) rfl
  · exact hit_false h3 t (by simp [ht]) t (List.mem_append_left _ hm) rfl
  · exact hit_false h4 t (by simp [ht]) t hm rfl
theorem freeAll_spec {m : Nat} {tj : List Nat} {rj : Rec} : ∀ (l : List (List Nat × Rec)) (i j : Nat), freeAll j m tj rj l i = true → ∀ k q, l[k]? = some q → Nat.testBit m (i + k) = true ∨ Free q.1 q.2 tj rj := by
  intro l
  induction l with
  | nil => intro i j _ k q h; simp at h
  | cons p l ih =>
    intro i j h k q hk
    obtain ⟨ti, ri⟩ := p
    unfold freeAll at h
    simp only [Bool.and_eq_true, Bool.or_eq_true] at h
    cases k with
    | zero =>
      simp at hk
      subst hk
      rw [Nat.add_zero]
      exact h.1.imp (fun h => h) free_spec
    | succ k =>
      have := ih (i + 1) j h.2 k q (by simpa using hk)
      rw [show i + (k + 1) = i + 1 + k by omega]
      exact this
theorem indep_spec : ∀ (l done : List (List Nat × Rec)) (ms : List Nat), indep done l ms = true → ∀ (i j : Nat) p q m, (done ++ l)[i]? = some p → i < done.length + j → l[j]? = some q → ms[j]? = some m → Nat.testBit m i = true ∨ Free p.1 p.2 q.1 q.2 := by
  intro l
  induction l with
  | nil => intro done ms _ i j p q m _ _ h; simp at h
  | cons x l ih =>
    intro done ms h i j p q m h1 h2 h3 h4
    obtain ⟨tj, rj⟩ := x
    cases ms with
    | nil => simp at h4
    | cons m0 ms =>
      unfold indep at h
      simp only [Bool.and_eq_true] at h
      cases j with
      | zero =>
        simp at h3 h4
        subst h3 h4
        have hi : i < done.length := by omega
        rw [List.getElem?_append_left hi] at h1
        have := freeAll_spec done 0 _ h.1 i p h1
        rwa [Nat.zero_add] at this
      | succ j =>
        exact ih (done ++ [(tj, rj)]) ms h.2 i j p q m (by simpa using h1) (by simp; omega) (by simpa using h3) (by simpa using h4)
theorem masks_get : ∀ (l : List Oper) (ms : List Nat), ∀ j, ms.length ≤ j → j < ms.length + l.length → (masks l ms)[j]? = some (maskOf ((masks l ms).take j) (l.getD (j - ms.length) default)) ∧ (masks l ms).length = ms.length + l.length ∧ (masks l ms).take ms.length = ms := by
  intro l
  induction l with
  | nil => intro ms j h1 h2; simp at h2; omega
  | cons o l ih =>
    intro ms j h1 h2
    simp only [List.length_cons] at h2
    have hlen : ∀ (l : List Oper) (ms : List Nat), (masks l ms).length = ms.length + l.length ∧ (masks l ms).take ms.length = ms := by
      intro l
      induction l with
      | nil => intro ms; simp [masks]
      | cons o l ih =>
        intro ms
        obtain ⟨a1, a2⟩ := ih (ms ++ [maskOf ms o])
        simp only [masks]
        refine ⟨by rw [a1]; simp; omega, ?_⟩
        have := congrArg (List.take ms.length) a2
        rw [List.take_take] at this
        simpa using this
    obtain ⟨b1, b2⟩ := hlen (o :: l) ms
    refine ⟨?_, b1, b2⟩
    by_cases hj : j = ms.length
    · subst hj
      rw [b2]
      simp only [Nat.sub_self, List.getD_cons_zero, masks]
      obtain ⟨c1, c2⟩ := hlen l (ms ++ [maskOf ms o])
      have h3 : ((masks l (ms ++ [maskOf ms o])).take (ms ++ [maskOf ms o]).length)[ms.length]? = some (maskOf ms o) := by
        rw [c2]; simp
      rw [List.getElem?_take, if_pos (by simp)] at h3
      exact h3
    · have := (ih (ms ++ [maskOf ms o]) j (by simp; omega) (by simp; omega)).1
      simp only [masks]
      rw [this]
      congr 2
      simp only [List.length_append, List.length_cons, List.length_nil]
      rw [show j - ms.length = (j - (ms.length + (0 + 1))) + 1 by omega]
      simp
theorem maskOf_bit {ms : List Nat} {o : Oper} {i : Nat} (h : Nat.testBit (maskOf ms o) i = true) : ∃ e ∈ o.after, Region.binds .any e = true ∧ (e.on = i ∨ Nat.testBit (ms.getD e.on 0) i = true) := by
  unfold maskOf at h
  have gen : ∀ (l : List Edge) (s : Nat), Nat.testBit (l.foldl (fun s e => match Region.binds .any e with | true => s ||| 2 ^ e.on ||| ms.getD e.on 0 | false => s) s) i = true → Nat.testBit s i = true ∨ ∃ e ∈ l, Region.binds .any e = true ∧ (e.on = i ∨ Nat.testBit (ms.getD e.on 0) i = true) := by
    intro l
    induction l with
    | nil => intro s h; exact .inl h
    | cons e l ih =>
      intro s h
      simp only [List.foldl_cons] at h
      rcases ih _ h with h | ⟨e', h1, h2⟩
      · cases hb : Region.binds .any e with
        | false => simp only [hb] at h; exact .inl h
        | true =>
          simp only [hb] at h
          rw [Nat.testBit_or, Nat.testBit_or, Bool.or_eq_true, Bool.or_eq_true] at h
          rcases h with (h | h) | h
          · exact .inl h
          · refine .inr ⟨e, by simp, hb, .inl ?_⟩
            rw [Nat.testBit_two_pow] at h
            exact of_decide_eq_true h
          · exact .inr ⟨e, by simp, hb, .inr h⟩
      · exact .inr ⟨e', by simp [h1], h2⟩
  rcases gen o.after.toList 0 h with h | ⟨e, h1, h2⟩
  · simp at h
  · exact ⟨e, by simpa using h1, h2⟩
theorem forward_spec : ∀ (l : List Oper) (i : Nat), forward l i = true → ∀ j o, l[j]? = some o → ∀ e ∈ o.after, Region.binds .any e = true → e.on < i + j := by
  intro l
  induction l with
  | nil => intro i _ j o h; simp at h
  | cons x l ih =>
    intro i h j o hj e he hb
    unfold forward at h
    simp only [Bool.and_eq_true] at h
    cases j with
    | zero =>
      simp at hj
      subst hj
      have := allB_iff.1 h.1 e (by simpa using he)
      simp only [hb] at this
      exact Nat.le_of_ble_eq_true this
    | succ j =>
      have := ih (i + 1) h.2 j o (by simpa using hj) e he hb
      omega
/-- What comes surely ahead of an operation has come, if all that it waits for has. -/
theorem mask_closed {ops : Array Oper} (hfw : forward ops.toList 0 = true) {L : Nat → Bool} (hL : ∀ (j : Nat) (o : Oper), ops[j]? = some o → L j = true → ∀ e ∈ o.after, Region.binds .any e = true → L e.on = true) :
    ∀ (j : Nat) (o : Oper), ops[j]? = some o → (∀ e ∈ o.after, Region.binds .any e = true → L e.on = true) → ∀ (i m : Nat), (masks ops.toList [])[j]? = some m → Nat.testBit m i = true → L i = true := by
  intro j
  induction j using Nat.strongRecOn with
  | _ j ih =>
    intro o ho hw i m hm hb
    have hj : j < ops.size := (Array.getElem?_eq_some_iff.1 ho).1
    obtain ⟨h1, h2, _⟩ := masks_get ops.toList [] j (Nat.zero_le _) (by simpa using hj)
    rw [hm] at h1
    injection h1 with h1
    have hoo : ops.toList.getD (j - ([] : List Nat).length) default = o := by
      simp only [List.length_nil, Nat.sub_zero]
      rw [List.getD_eq_getElem?_getD, Array.getElem?_toList, ho]; rfl
    rw [hoo] at h1
    subst h1
    obtain ⟨e, he, hbn, h3⟩ := maskOf_bit hb
    have hlt : e.on < j := by
      have := forward_spec ops.toList 0 hfw j o (by rw [Array.getElem?_toList]; exact ho) e he hbn
      omega
    rcases h3 with h3 | h3
    · rw [← h3]; exact hw e he hbn
    · have hen : e.on < ops.size := by omega
      have ho2 : ops[e.on]? = some ops[e.on] := Array.getElem?_eq_getElem hen
      have hlen : e.on < (masks ops.toList []).length := by rw [h2]; simpa using hen
      rw [List.getD_eq_getElem?_getD, List.getElem?_take, if_pos hlt, List.getElem?_eq_getElem hlen] at h3
      exact ih e.on hlt _ ho2 (hL e.on _ ho2 (hw e he hbn)) i _ (List.getElem?_eq_getElem hlen) h3
end Go.Proofs.Ythkdmemkjojmoaa.Ab
