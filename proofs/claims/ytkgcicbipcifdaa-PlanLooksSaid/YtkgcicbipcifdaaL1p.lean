/- Stage 1: sorting, parts, what is cut off. -/
import Derived.Test.YtkgcicbipcifdaaL1m
namespace Go.Proofs.Ytkgcicbipcifdaa.Ab
open Go

/-! ### Lists of places -/
def In (l : Sq Int) (v : Int) : Prop := ∃ j, j < l.n ∧ l.f j = v
def Dis (l : Sq Int) : Prop := ∀ i j, i < l.n → j < l.n → l.f i = l.f j → i = j
theorem php : ∀ (n k : Nat) (f : Nat → Nat), (∀ i, i < k → f i < n) → (∀ i j, i < k → j < k → f i = f j → i = j) → k ≤ n := by
  intro n
  induction n with
  | zero =>
    intro k f h _
    rcases Nat.eq_zero_or_pos k with c | c
    · omega
    · have := h 0 c; omega
  | succ n ih =>
    intro k f h hi
    by_cases c : ∃ i, i < k ∧ f i = n
    · obtain ⟨i0, h0, e0⟩ := c
      have := ih (k - 1) (fun i => f (if i < i0 then i else i + 1)) (fun i hk => by
        split
        · have h1 := h i (by omega)
          have h2 : f i ≠ n := fun e => by have := hi i i0 (by omega) h0 (by omega); omega
          omega
        · have h1 := h (i + 1) (by omega)
          have h2 : f (i + 1) ≠ n := fun e => by have := hi (i + 1) i0 (by omega) h0 (by omega); omega
          omega) (fun i j h1 h2 e => by
        split at e <;> split at e
        · exact hi i j (by omega) (by omega) e
        · have := hi i (j + 1) (by omega) (by omega) e; omega
        · have := hi (i + 1) j (by omega) (by omega) e; omega
        · have := hi (i + 1) (j + 1) (by omega) (by omega) e; omega)
      omega
    · have := ih k f (fun i hk => by
        have h1 := h i hk
        have h2 : f i ≠ n := fun e => c ⟨i, hk, e⟩
        omega) hi
      omega
theorem Dis.le {l : Sq Int} (h : Dis l) {n : Nat} (hb : ∀ v, In l v → 0 ≤ v ∧ v < n) : l.n ≤ n :=
  php n l.n (fun i => (l.f i).toNat) (fun i hi => by have := hb _ ⟨i, hi, rfl⟩; omega) (fun i j hi hj e => by
    have h1 := hb _ ⟨i, hi, rfl⟩
    have h2 := hb _ ⟨j, hj, rfl⟩
    exact h i j hi hj (by omega))
/-! ### Sorting -/
/-- Ascending, each once. -/
def SA (l : Sq Int) : Prop := ∀ i j, i < j → j < l.n → l.f i < l.f j
theorem SA.dis {l : Sq Int} (h : SA l) : Dis l := fun i j hi hj e => by
  rcases Nat.lt_trichotomy i j with c | c | c
  · have := h i j c hj; omega
  · exact c
  · have := h j i c hi; omega
theorem SA.le {l : Sq Int} (h : SA l) {i j : Nat} (hi : i ≤ j) (hj : j < l.n) : l.f i ≤ l.f j := by
  rcases Nat.lt_or_ge i j with c | c
  · have := h i j c hj; omega
  · rw [show i = j by omega]; exact Int.le_refl _
theorem SA.half {r r' : Sq Int} (h : SA r) (h' : SA r') (e : ∀ v, In r v ↔ In r' v) : ∀ n i, i < n → i < r.n → i < r'.n ∧ r.f i = r'.f i := by
  intro n
  induction n with
  | zero => intro i hi; omega
  | succ n ih =>
    intro i hi hr
    obtain ⟨j, hj, ej⟩ := (e (r.f i)).1 ⟨i, hr, rfl⟩
    have ji : i ≤ j := by
      rcases Nat.lt_or_ge j i with c | c
      · have q := (ih j (by omega) (by omega)).2
        have := h j i c hr
        omega
      · exact c
    have hi' : i < r'.n := by omega
    refine ⟨hi', ?_⟩
    rcases Nat.lt_or_ge i j with c | c
    · obtain ⟨k, hk, ek⟩ := (e (r'.f i)).2 ⟨i, hi', rfl⟩
      have lt := h' i j c hj
      have ki : k < i := by
        rcases Nat.lt_or_ge k i with d | d
        · exact d
        · have := h.le d hk; omega
      have q := (ih k (by omega) hk).2
      have := h' k i ki hi'
      omega
    · rw [← ej, show j = i by omega]
/-- There is one such list only. -/
theorem SA.uniq {r r' : Sq Int} (h : SA r) (h' : SA r') (e : ∀ v, In r v ↔ In r' v) : r.n = r'.n ∧ ∀ i, i < r.n → r.f i = r'.f i := by
  have a := h.half h' e
  have b := h'.half h fun v => (e v).symm
  refine ⟨?_, fun i hi => (a r.n i hi hi).2⟩
  have n1 : r.n ≤ r'.n := by
    rcases Nat.eq_zero_or_pos r.n with c | c
    · omega
    · have := (a r.n (r.n - 1) (by omega) (by omega)).1; omega
  have n2 : r'.n ≤ r.n := by
    rcases Nat.eq_zero_or_pos r'.n with c | c
    · omega
    · have := (b r'.n (r'.n - 1) (by omega) (by omega)).1; omega
  omega
set_option maxRecDepth 100000 in
theorem bits0 : math_bits_Len (IntKind.u64.wrap ((0 : Nat) : Int)) = some 0 := by
  have e2 : math_bits_Len64 0 = some 0 := by
    rw [math_bits_Len64_eq]; unfold math_bits_Len64_t
    rw [get_f (decide_eq_false (by omega)), get_f (decide_eq_false (by omega)), get_f (decide_eq_false (by omega)), show IntKind.u8.wrap 0 = 0 by rw [IntKind.wrap_u8]; omega, get_t (decide_eq_true ⟨by omega, Int.lt_of_le_of_lt (show (0 : Int) ≤ 12 by omega) (by decide)⟩)]
    rfl
  rw [math_bits_Len_eq, show IntKind.u64.wrap ((0 : Nat) : Int) = 0 by rw [IntKind.wrap_u64]; omega]; unfold math_bits_Len_t
  rw [get_bind e2]; rfl
theorem mem_zs {l : Sq Int} (v : Int) : v ∈ zsOf l ↔ In l v := by
  unfold zsOf In
  rw [List.mem_map]
  exact ⟨fun ⟨k, hk, e⟩ => ⟨k, List.mem_range.1 hk, e⟩, fun ⟨k, hk, e⟩ => ⟨k, List.mem_range.2 hk, e⟩⟩
theorem mem_srt {l : Sq Int} (v : Int) : v ∈ srt l ↔ In l v := by
  unfold srt
  rw [List.mem_mergeSort, mem_zs]
theorem in_sortS {l : Sq Int} (v : Int) : In (sortS l) v ↔ In l v := by
  refine Iff.trans ?_ (mem_srt v)
  rw [List.mem_iff_getElem?]
  have n := srt_len l
  constructor
  · rintro ⟨k, hk, e⟩
    have hk : k < l.n := hk
    refine ⟨k, ?_⟩
    have e : (srt l).getD k 0 = v := e
    rw [List.getD_eq_getElem?_getD, List.getElem?_eq_getElem (by omega)] at e
    rw [List.getElem?_eq_getElem (by omega)]
    exact congrArg some e
  · rintro ⟨k, e⟩
    have hk := (List.getElem?_eq_some_iff.1 e).1
    refine ⟨k, by show k < l.n; omega, ?_⟩
    show (srt l).getD k 0 = v
    rw [List.getD_eq_getElem?_getD, e]; rfl
theorem sortS_le (l : Sq Int) {i j : Nat} (h : i < j) (hj : j < l.n) : (sortS l).f i ≤ (sortS l).f j := by
  have n := srt_len l
  have s : (srt l).Pairwise (fun a b => decide (a ≤ b) = true) := List.pairwise_mergeSort (le := fun x y : Int => decide (x ≤ y)) (fun a b c h1 h2 => by simp at *; omega) (fun a b => by simp; omega) _
  have := List.pairwise_iff_getElem.1 s i j (by omega) (by omega) h
  show (srt l).getD i 0 ≤ (srt l).getD j 0
  rw [List.getD_eq_getElem?_getD, List.getD_eq_getElem?_getD, List.getElem?_eq_getElem (by omega), List.getElem?_eq_getElem (by omega)]
  exact of_decide_eq_true this
theorem zs_nodup {l : Sq Int} (d : Dis l) : (zsOf l).Nodup := by
  unfold zsOf
  rw [List.nodup_iff_pairwise_ne, List.pairwise_map]
  refine List.Pairwise.imp_of_mem (R := fun a b => a ≠ b) (fun {a b} ha hb h e => h (d a b (List.mem_range.1 ha) (List.mem_range.1 hb) e)) ?_
  rw [← List.nodup_iff_pairwise_ne]
  exact List.nodup_range
/-- The numbers ascend afterwards, each once, if each was there once. -/
theorem sort_ex (l : Sq Int) (hn : l.n ≤ 1000) (d : Dis l) : ∃ r, slices_Sort l = some r ∧ SA r ∧ ∀ v, In r v ↔ In l v := by
  rw [slices_Sort_eq]; unfold slices_Sort_t
  by_cases c : l.n = 0
  · rw [get_t (decide_eq_true c)]
    refine ⟨l, ?_, fun i j _ hj => by omega, fun _ => Iff.rfl⟩
    unfold slices_Sort_w_t
    have ei : slices_insertionSortOrdered l 0 l.n = some l := by
      rw [slices_insertionSortOrdered_eq]; unfold slices_insertionSortOrdered_t
      have e1 : slices_insertionSortOrdered_l1 0 l.n (wr ((0 : Int) + 1)) l = some (.inl l) := by
        rw [slices_insertionSortOrdered_l1_eq]
        refine fixO_get (x := .l l) ?_
        unfold slices_insertionSortOrdered_l1_step
        rw [show wr ((0 : Int) + 1) = 1 by decide, get_f (decide_eq_false (by dsimp only; omega))]; rfl
      rw [get_sum e1]; rfl
    have ep : slices_pdqsortOrdered l 0 l.n 0 = some l := by
      rw [slices_pdqsortOrdered_eq]; unfold slices_pdqsortOrdered_t
      have k : slices_pdqsortOrdered_l2 0 l.n 0 l = some (.inl l) := by
        rw [slices_pdqsortOrdered_l2_eq]
        refine fixO_get (x := .l l) ?_
        unfold slices_pdqsortOrdered_l2_step
        rw [wr_ok (by omega) (by omega), get_t (decide_eq_true (by omega)), get_bind ei]; rfl
      rw [get_sum k]; rfl
    have eb : math_bits_Len (IntKind.u64.wrap ((l.n : Nat) : Int)) = some 0 := by rw [c]; exact bits0
    rw [get_bind eb, get_bind ep]; rfl
  · rw [get_f (decide_eq_false c), get_t (decide_eq_true (by omega))]
    refine ⟨_, rfl, fun i j hij hj => ?_, in_sortS⟩
    have hj : j < l.n := hj
    have n := srt_len l
    have le := sortS_le l hij hj
    have nd : (srt l).Nodup := (List.Perm.nodup_iff (List.mergeSort_perm (zsOf l) _)).2 (zs_nodup d)
    have ne : (sortS l).f i ≠ (sortS l).f j := fun e => by
      have e : (srt l).getD i 0 = (srt l).getD j 0 := e
      rw [List.getD_eq_getElem?_getD, List.getD_eq_getElem?_getD, List.getElem?_eq_getElem (by omega), List.getElem?_eq_getElem (by omega)] at e
      exact List.pairwise_iff_getElem.1 (List.nodup_iff_pairwise_ne.1 nd) i j (by omega) (by omega) hij (by simpa using e)
    omega
/-! ### What open roads connect -/
def Edg (R : Sq SRoad) (u v : Int) : Prop := ∃ i, i < R.n ∧ (R.f i).Closed = false ∧ (((R.f i).From = u ∧ (R.f i).To = v) ∨ ((R.f i).From = v ∧ (R.f i).To = u))
theorem Edg.symm {R : Sq SRoad} {u v : Int} (h : Edg R u v) : Edg R v u := by
  obtain ⟨i, h1, h2, h3⟩ := h
  exact ⟨i, h1, h2, h3.symm⟩
def Cl (R : Sq SRoad) (C : Int → Prop) : Prop := ∀ u v, Edg R u v → C u → C v
def Conn (R : Sq SRoad) (u v : Int) : Prop := ∀ C, Cl R C → C u → C v
theorem Conn.refl (R : Sq SRoad) (u : Int) : Conn R u u := fun _ _ h => h
theorem Conn.trans {R : Sq SRoad} {u v w : Int} (h : Conn R u v) (k : Conn R v w) : Conn R u w := fun C hC hu => k C hC (h C hC hu)
theorem Conn.edg {R : Sq SRoad} {u v w : Int} (h : Conn R u v) (k : Edg R v w) : Conn R u w := fun C hC hu => hC _ _ k (h C hC hu)
theorem Conn.symm {R : Sq SRoad} {u v : Int} (h : Conn R u v) : Conn R v u :=
  h (fun x => Conn R x u) (fun _ _ e hx C hC hy => hx C hC (hC _ _ e.symm hy)) (.refl R u)
theorem Conn.cl (R : Sq SRoad) (u : Int) : Cl R (Conn R u) := fun _ _ e h => h.edg e
/-- Fewer open roads connect less. -/
theorem Conn.mono {R R' : Sq SRoad} (h : ∀ u v, Edg R u v → Edg R' u v) {u v : Int} (k : Conn R u v) : Conn R' u v := fun C hC hu => k C (fun a b e => hC a b (h a b e)) hu
/-- A part as it grows: places that are found, not of S. -/
structure BB (R : Sq SRoad) (n : Nat) (S : Int → Prop) (first : Int) (s : Sq Bool) (l : Sq Int) : Prop where
  sn : s.n = n
  d : Dis l
  f : In l first
  v : ∀ v, In l v → 0 ≤ v ∧ v < n ∧ ¬ S v ∧ Conn R first v
  s : ∀ v : Nat, v < n → (s.f v = true ↔ S v ∨ In l v)
theorem BB.le {R : Sq SRoad} {n : Nat} {S : Int → Prop} {first : Int} {s : Sq Bool} {l : Sq Int} (h : BB R n S first s l) : l.n ≤ n := h.d.le fun v hv => ⟨(h.v v hv).1, (h.v v hv).2.1⟩
theorem BB.add {R : Sq SRoad} {n : Nat} {S : Int → Prop} {first : Int} {s : Sq Bool} {l : Sq Int} (h : BB R n S first s l) {w : Int} (w0 : 0 ≤ w) (w1 : w < n) (hs : s.f w.toNat = false) (hc : Conn R first w) {s' : Sq Bool} {l' : Sq Int}
    (es : s'.n = s.n) (fs : ∀ k, s'.f k = cond (Nat.beq k w.toNat) true (s.f k)) (el : l'.n = l.n + 1) (fl : ∀ k, l'.f k = if k < l.n then l.f k else w) : BB R n S first s' l' := by
  have hw := h.s w.toNat (by omega)
  rw [hs, show ((w.toNat : Nat) : Int) = w by omega] at hw
  have nS : ¬ S w := fun q => by have := hw.2 (.inl q); cases this
  have nI : ¬ In l w := fun q => by have := hw.2 (.inr q); cases this
  have e1 : ∀ k, k < l.n → l'.f k = l.f k := fun k hk => by rw [fl, if_pos hk]
  have e2 : l'.f l.n = w := by rw [fl, if_neg (Nat.lt_irrefl _)]
  have hin : ∀ v, In l' v ↔ In l v ∨ v = w := fun v => by
    constructor
    · rintro ⟨j, hj, e⟩
      by_cases c : j < l.n
      · exact .inl ⟨j, c, by rw [← e1 j c]; exact e⟩
      · obtain rfl : j = l.n := by omega
        rw [e2] at e; exact .inr e.symm
    · rintro (⟨j, hj, e⟩ | rfl)
      · exact ⟨j, by omega, by rw [e1 j hj]; exact e⟩
      · exact ⟨l.n, by omega, e2⟩
  refine ⟨by rw [es, h.sn], fun i j hi hj e => ?_, (hin _).2 (.inl h.f), fun v hv => ?_, fun v hv => ?_⟩
  · by_cases c1 : i < l.n
    · by_cases c2 : j < l.n
      · rw [e1 i c1, e1 j c2] at e; exact h.d i j c1 c2 e
      · obtain rfl : j = l.n := by omega
        rw [e1 i c1, e2] at e; exact absurd ⟨i, c1, e⟩ nI
    · obtain rfl : i = l.n := by omega
      by_cases c2 : j < l.n
      · rw [e1 j c2, e2] at e; exact absurd ⟨j, c2, e.symm⟩ nI
      · omega
  · rcases (hin v).1 hv with q | rfl
    · exact h.v v q
    · exact ⟨w0, w1, nS, hc⟩
  · rw [fs, hin]
    by_cases c : v = w.toNat
    · rw [beq_t c]
      exact ⟨fun _ => .inr (.inr (by omega)), fun _ => rfl⟩
    · rw [beq_f c]
      show s.f v = true ↔ _
      rw [h.s v hv]
      exact ⟨fun q => q.imp_right .inl, fun q => q.imp_right fun q => q.resolve_right (by omega)⟩
theorem part_l7_ex {m : SMine} (ok : MineOK m) {S : Int → Prop} {first u : Int} {rd : Sq Int} (hr : RdsOK m.Roads u m.Roads.n rd) {i : Nat} {s0 : Sq Bool} {l0 : Sq Int} (hB : BB m.Roads m.Places.n S first s0 l0) (hi : i < l0.n) (hu : l0.f i = u) :
    ∃ y, plan_part_l7 m.Places m.Roads rd i s0 l0 0 = some (.inl y) ∧ BB m.Roads m.Places.n S first y.1 y.2 ∧ l0.n ≤ y.2.n ∧ (∀ k, k < l0.n → y.2.f k = l0.f k) ∧ (∀ v, s0.f v = true → y.1.f v = true) ∧ ∀ v : Int, Edg m.Roads u v → y.1.f v.toNat = true := by
  have nr := ok.nr
  have np := ok.np
  have hrn := hr.n
  have key := loop_ex (step := fun v : Sq Bool × Sq Int × Int => plan_part_l7_step m.Places m.Roads rd i v.1 v.2.1 v.2.2)
    (fun v => ∃ j : Nat, v.2.2 = j ∧ j ≤ rd.n ∧ BB m.Roads m.Places.n S first v.1 v.2.1 ∧ l0.n ≤ v.2.1.n ∧ (∀ k, k < l0.n → v.2.1.f k = l0.f k) ∧ (∀ w, s0.f w = true → v.1.f w = true) ∧
      ∀ k, k < j → (m.Roads.f (rd.f k).toNat).Closed = false → ∀ w : Int, ((m.Roads.f (rd.f k).toNat).From = u ∧ (m.Roads.f (rd.f k).toNat).To = w) ∨ ((m.Roads.f (rd.f k).toNat).From = w ∧ (m.Roads.f (rd.f k).toNat).To = u) → v.1.f w.toNat = true)
    (fun v => rd.n - v.2.2.toNat)
    (fun z => ∃ y, z = .inl y ∧ BB m.Roads m.Places.n S first y.1 y.2 ∧ l0.n ≤ y.2.n ∧ (∀ k, k < l0.n → y.2.f k = l0.f k) ∧ (∀ v, s0.f v = true → y.1.f v = true) ∧ ∀ v : Int, Edg m.Roads u v → y.1.f v.toNat = true) (fun v hv => by
      obtain ⟨s, l, x⟩ := v
      obtain ⟨j, rfl, hj, b, h1, h2, h3, h4⟩ := hv
      dsimp only at b h1 h2 h3 h4 ⊢
      have bn := b.sn
      have bl := b.le
      unfold plan_part_l7_step
      by_cases c : j < rd.n
      · have hf := hr.f j c
        have hri : (rd.f j).toNat < m.Roads.n := by omega
        obtain ⟨f0, f1, t0, t1, ne⟩ := road_ends ok hri
        have eu : l.f i = u := by rw [h2 i hi]; exact hu
        have eo := plan_Other_v (m := m) nr hri (pl := u) hf.2.2
        rw [show (((rd.f j).toNat : Nat) : Int) = rd.f j by omega] at eo
        rw [get_t (dlt c), get_t (dix c), get_t (dix (by omega)), toNat_nat, toNat_nat, eu, get_bind eo, get_t (decide_eq_true ⟨by omega, by omega⟩), wr_next (by omega)]
        have adv : ∀ {s' : Sq Bool} {l' : Sq Int}, BB m.Roads m.Places.n S first s' l' → l0.n ≤ l'.n → (∀ k, k < l0.n → l'.f k = l0.f k) → (∀ w, s.f w = true → s'.f w = true) →
            ((m.Roads.f (rd.f j).toNat).Closed = false → s'.f (if (m.Roads.f (rd.f j).toNat).From = u then (m.Roads.f (rd.f j).toNat).To else (m.Roads.f (rd.f j).toNat).From).toNat = true) →
            ∃ x : Sq Bool × Sq Int × Int, x = (s', l', ((j + 1 : Nat) : Int)) ∧ (∃ j' : Nat, x.2.2 = j' ∧ j' ≤ rd.n ∧ BB m.Roads m.Places.n S first x.1 x.2.1 ∧ l0.n ≤ x.2.1.n ∧ (∀ k, k < l0.n → x.2.1.f k = l0.f k) ∧ (∀ w, s0.f w = true → x.1.f w = true) ∧
              ∀ k, k < j' → (m.Roads.f (rd.f k).toNat).Closed = false → ∀ w : Int, ((m.Roads.f (rd.f k).toNat).From = u ∧ (m.Roads.f (rd.f k).toNat).To = w) ∨ ((m.Roads.f (rd.f k).toNat).From = w ∧ (m.Roads.f (rd.f k).toNat).To = u) → x.1.f w.toNat = true) ∧ rd.n - x.2.2.toNat < rd.n - j := by
          intro s' l' b' n' p' g' q'
          refine ⟨_, rfl, ⟨j + 1, rfl, by omega, b', n', p', fun w hw => g' w (h3 w hw), fun k hk hcl w hw => ?_⟩, by dsimp only; omega⟩
          by_cases ck : k < j
          · exact g' _ (h4 k ck hcl w hw)
          · obtain rfl : k = j := by omega
            have := q' hcl
            rcases hw with ⟨a1, a2⟩ | ⟨a1, a2⟩
            · rw [if_pos a1, a2] at this; exact this
            · rw [if_neg (by omega), a1] at this; exact this
        have hR : 0 ≤ (if (m.Roads.f (rd.f j).toNat).From = u then (m.Roads.f (rd.f j).toNat).To else (m.Roads.f (rd.f j).toNat).From) ∧ (if (m.Roads.f (rd.f j).toNat).From = u then (m.Roads.f (rd.f j).toNat).To else (m.Roads.f (rd.f j).toNat).From) < m.Places.n := by split <;> omega
        have hE : (m.Roads.f (rd.f j).toNat).Closed = false → Edg m.Roads u (if (m.Roads.f (rd.f j).toNat).From = u then (m.Roads.f (rd.f j).toNat).To else (m.Roads.f (rd.f j).toNat).From) := fun hcl => by
          refine ⟨_, hri, hcl, ?_⟩
          split
          · rename_i q; exact .inl ⟨q, rfl⟩
          · rename_i q; exact .inr ⟨rfl, hf.2.2.resolve_left q⟩
        generalize (if (m.Roads.f (rd.f j).toNat).From = u then (m.Roads.f (rd.f j).toNat).To else (m.Roads.f (rd.f j).toNat).From) = o at adv hR hE ⊢
        by_cases cl : (m.Roads.f (rd.f j).toNat).Closed = true
        · rw [get_f (by rw [cl]; rfl)]
          obtain ⟨x, rfl, hx⟩ := adv b h1 h2 (fun _ h => h) (fun q => by rw [cl] at q; cases q)
          exact ⟨_, rfl, hx⟩
        · have cl' : (m.Roads.f (rd.f j).toNat).Closed = false := by simpa using cl
          rw [get_t (by rw [cl']; rfl), get_t (decide_eq_true ⟨hR.1, by omega⟩)]
          by_cases cs : s.f o.toNat = true
          · rw [get_f (by rw [cs]; rfl)]
            obtain ⟨x, rfl, hx⟩ := adv b h1 h2 (fun _ h => h) (fun _ => cs)
            exact ⟨_, rfl, hx⟩
          · have cs' : s.f o.toNat = false := by simpa using cs
            rw [get_t (by rw [cs']; rfl), get_t (decide_eq_true ⟨hR.1, by omega⟩), get_t (decide_eq_true ⟨by omega, by omega⟩)]
            have cn : Conn m.Roads first o := (b.v u ⟨i, by omega, eu⟩).2.2.2.edg (hE cl')
            have b' := b.add hR.1 hR.2 cs' cn (s' := ⟨s.n, fun k => cond (Nat.beq k o.toNat) true (s.f k)⟩) (l' := ⟨l.n + 1, fun k => cond (Nat.blt k l.n) (l.f k) o⟩) rfl (fun _ => rfl) rfl (fun _ => cond_blt _ _ _ _)
            obtain ⟨x, rfl, hx⟩ := adv b' (by dsimp only; omega) (fun k hk => by dsimp only; rw [cond_blt, if_pos (by omega)]; exact h2 k hk) (fun w hw => by dsimp only; cases hb : Nat.beq w o.toNat <;> simp [hw]) (fun _ => by dsimp only; rw [beq_t rfl]; rfl)
            exact ⟨_, rfl, hx⟩
      · obtain rfl : j = rd.n := by omega
        rw [get_f (dge (Nat.le_refl _))]
        refine ⟨_, rfl, _, rfl, b, h1, h2, h3, fun w hw => ?_⟩
        obtain ⟨q, q1, q2, q3⟩ := hw
        obtain ⟨k, k1, k2⟩ := hr.c q q1 (q3.elim (fun z => .inl z.1) (fun z => .inr z.2))
        exact h4 k k1 (by rw [k2]; exact q2) w (by rw [k2]; exact q3))
    (s0, l0, 0) ⟨0, rfl, by omega, hB, Nat.le_refl _, fun _ _ => rfl, fun _ h => h, fun k hk => absurd hk (Nat.not_lt_zero _)⟩
  obtain ⟨z, hz, y, rfl, g⟩ := key
  exact ⟨y, by rw [plan_part_l7_eq]; exact hz, g⟩
/-- What a part is. -/
theorem part_ex {m : SMine} (ok : MineOK m) {S : Int → Prop} (hS : Cl m.Roads S) {first : Int} (f0 : 0 ≤ first) (f1 : first < m.Places.n) (hf : ¬ S first) {s : Sq Bool} (sn : s.n = m.Places.n) (hs : ∀ v : Nat, v < m.Places.n → (s.f v = true ↔ S v)) :
    ∃ l s', plan_part m first s = some (l, s') ∧ s'.n = m.Places.n ∧ SA l ∧ (∀ v, In l v ↔ 0 ≤ v ∧ v < m.Places.n ∧ Conn m.Roads first v) ∧ ∀ v : Nat, v < m.Places.n → (s'.f v = true ↔ S v ∨ Conn m.Roads first v) := by
  have np := ok.np
  have b0 : BB m.Roads m.Places.n S first ⟨s.n, fun k => cond (Nat.beq k first.toNat) true (s.f k)⟩ ⟨1, fun _ => first⟩ := by
    have hin : ∀ v, In ⟨1, fun _ => first⟩ v ↔ v = first := fun v => ⟨fun ⟨j, _, e⟩ => e.symm, fun e => ⟨0, Nat.one_pos, e.symm⟩⟩
    refine ⟨sn, fun i j hi hj _ => by dsimp only at hi hj; omega, (hin _).2 rfl, fun v hv => ?_, fun v hv => ?_⟩
    · rw [(hin v).1 hv]; exact ⟨f0, f1, hf, .refl _ _⟩
    · dsimp only
      rw [hin]
      by_cases c : v = first.toNat
      · rw [beq_t c]; exact ⟨fun _ => .inr (by omega), fun _ => rfl⟩
      · rw [beq_f c]
        show s.f v = true ↔ _
        rw [hs v hv]
        exact ⟨.inl, fun q => q.resolve_right (by omega)⟩
  have key := loop_ex (step := fun v : Sq Bool × Sq Int × Int => plan_part_l4_step m.Places m.Roads v.1 v.2.1 v.2.2)
    (fun v => ∃ i : Nat, v.2.2 = i ∧ i ≤ v.2.1.n ∧ BB m.Roads m.Places.n S first v.1 v.2.1 ∧ ∀ k, k < i → ∀ w : Int, Edg m.Roads (v.2.1.f k) w → v.1.f w.toNat = true)
    (fun v => m.Places.n - v.2.2.toNat)
    (fun z => ∃ y, z = .inl y ∧ BB m.Roads m.Places.n S first y.1 y.2 ∧ ∀ k, k < y.2.n → ∀ w : Int, Edg m.Roads (y.2.f k) w → y.1.f w.toNat = true) (fun v hv => by
      obtain ⟨s, l, x⟩ := v
      obtain ⟨i, rfl, hi, b, h⟩ := hv
      dsimp only at hi b h ⊢
      have bl := b.le
      unfold plan_part_l4_step
      by_cases c : i < l.n
      · obtain ⟨rd, er, hr⟩ := plan_Roads_ex (m := m) ok.nr (l.f i)
        obtain ⟨y, ey, b', n', p', g', q'⟩ := part_l7_ex ok hr b c rfl
        rw [get_t (dlt c), get_t (dix c), toNat_nat, get_bind er, get_sum ey, wr_next (by omega)]
        refine ⟨_, rfl, ⟨i + 1, rfl, by dsimp only; omega, b', fun k hk w hw => ?_⟩, by dsimp only; omega⟩
        dsimp only at hw ⊢
        rw [p' k (by omega)] at hw
        by_cases ck : k < i
        · exact g' _ (h k ck w hw)
        · obtain rfl : k = i := by omega
          exact q' w hw
      · obtain rfl : i = l.n := by omega
        rw [get_f (dge (Nat.le_refl _))]
        exact ⟨_, rfl, _, rfl, b, h⟩)
    (⟨s.n, fun k => cond (Nat.beq k first.toNat) true (s.f k)⟩, ⟨1, fun _ => first⟩, 0) ⟨0, rfl, Nat.zero_le _, b0, fun k hk => absurd hk (Nat.not_lt_zero _)⟩
  obtain ⟨z, hz, y, rfl, b, hy⟩ := key
  have bl := b.le
  have closed : Cl m.Roads (fun v => In y.2 v) := fun u v e hu => by
    obtain ⟨k, hk, rfl⟩ := hu
    have h1 := hy k hk v e
    have hv : 0 ≤ v ∧ v < m.Places.n := by
      obtain ⟨i, i1, i2, i3⟩ := e
      have := road_ends ok i1
      rcases i3 with ⟨_, rfl⟩ | ⟨rfl, _⟩ <;> omega
    have h2 := (b.s v.toNat (by omega)).1 h1
    rw [show ((v.toNat : Nat) : Int) = v by omega] at h2
    rcases h2 with q | q
    · exact absurd (hS _ _ e.symm q) (b.v _ ⟨k, hk, rfl⟩).2.2.1
    · exact q
  have hin : ∀ v, In y.2 v ↔ 0 ≤ v ∧ v < m.Places.n ∧ Conn m.Roads first v := fun v =>
    ⟨fun q => ⟨(b.v v q).1, (b.v v q).2.1, (b.v v q).2.2.2⟩, fun q => q.2.2 _ closed b.f⟩
  obtain ⟨r, er, sa, hr⟩ := sort_ex y.2 (by omega) b.d
  rw [plan_part_eq]; unfold plan_part_t
  rw [get_t (decide_eq_true ⟨f0, by omega⟩), get_sum (by rw [plan_part_l4_eq]; exact hz)]
  dsimp only [Sum.elim]
  rw [get_bind er]
  refine ⟨r, y.1, rfl, b.sn, sa, fun v => by rw [hr, hin], fun v hv => ?_⟩
  rw [b.s v hv, hin]
  exact ⟨fun q => q.imp_right fun q => q.2.2, fun q => q.imp_right fun q => ⟨by omega, by omega, q⟩⟩
end Go.Proofs.Ytkgcicbipcifdaa.Ab
