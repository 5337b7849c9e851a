/- The plain evaluator's operations are right: new blocks, blocks that are given up, stores. -/
import Derived.Test.YthkdmemkjojmoaaZC5
namespace Go.Proofs.Ythkdmemkjojmoaa.Ab
open Go

theorem ups_append (H : Nat → Option Blk) (l r : List (Nat × Blk)) : ups H (l ++ r) = ups (ups H l) r := by
  induction l generalizing H with
  | nil => rfl
  | cons p ps ih => exact ih _
theorem upd_comm {α : Type} (f : Nat → α) {i j : Nat} (x y : α) (h : i ≠ j) : upd (upd f i x) j y = upd (upd f j y) i x := by
  funext k
  simp only [upd]
  split <;> split <;> simp_all
theorem upd_self {α : Type} (f : Nat → α) (i : Nat) : upd f i (f i) = f := by
  funext k
  simp only [upd]
  split <;> simp_all
theorem ups_off {H : Nat → Option Blk} {l : List (Nat × Blk)} {id : Nat} (h : ∀ p ∈ l, p.1 ≠ id) : ups H l id = H id := by
  induction l generalizing H with
  | nil => rfl
  | cons p ps ih =>
    rw [ups, ih (fun q hq => h q (by simp [hq])), upd_ne _ _ (fun e => h p (by simp) e.symm)]
theorem ups_upd {H : Nat → Option Blk} {l : List (Nat × Blk)} {id : Nat} {b : Blk} (h : ∀ p ∈ l, p.1 ≠ id) : ups (upd H id (some b)) l = upd (ups H l) id (some b) := by
  induction l generalizing H with
  | nil => rfl
  | cons p ps ih =>
    rw [ups, ups, upd_comm _ _ _ (fun e => h p (by simp) e.symm), ih (fun q hq => h q (by simp [hq]))]
theorem number_ge {c : Nat} {bs : List Blk} : ∀ p ∈ number c bs, c ≤ p.1 ∧ p.1 < c + bs.length := by
  induction bs generalizing c with
  | nil => intro p hp; simp [number] at hp
  | cons b bs ih =>
    intro p hp
    rw [number] at hp
    rcases List.mem_cons.1 hp with rfl | hp
    · simp
    · have := ih p hp
      simp; omega

section
variable {P : Program} {F : Fr} {H : Nat → Option Blk} {σ : Nat → Value} {w : World}
/-- The state of the run: its blocks and what has grown since (w1). -/
abbrev Now (F : Fr) (w : World) (H : Nat → Option Blk) (σ : Nat → Value) (w' : World) (H' : Nat → Option Blk) (σ' : Nat → Value) : Prop :=
  RelH F H' σ' w' ∧ Grow w (Mut F H σ) σ (Ver H) w' (Mut F H' σ') σ' (Ver H')
theorem RelH.now (rel : RelH F H σ w) : Now F w H σ w H σ := ⟨rel, .refl _ _ _ _⟩
theorem Now.trans {w' w'' : World} {H' H'' : Nat → Option Blk} {σ' σ'' : Nat → Value} (h : Now F w H σ w' H' σ') (k : Now F w' H' σ' w'' H'' σ'') : Now F w H σ w'' H'' σ'' := ⟨k.1, h.2.trans k.2⟩

/-- A nil slice gets a number. -/
theorem RelH.addNil (rel : RelH F H σ w) (id : Nat) (hn : H id = none) : Now F w H σ w (upd H id (some (.nilrow 0))) (upd σ id (.slice none 0 0)) :=
  rel.chg id (.nilrow 0) (.slice none 0 0) rfl rfl rfl (Nat.le_refl _) (fun _ _ _ => rfl) (fun g _ h => by simp [blkOf] at h) (fun b h => by rw [hn] at h; cases h) (fun _ => upd_same _ _ _)
theorem RelH.addNils : ∀ (n : Nat) {H : Nat → Option Blk} {σ : Nat → Value} (c : Nat), RelH F H σ w → (∀ j, j < n → H (c + j) = none) →
    ∃ σ', Now F w H σ w (ups H (number c (nilrows n))) σ' ∧ ∀ j, j < n → ups H (number c (nilrows n)) (c + j) = some (.nilrow 0) ∧ σ' (c + j) = .slice none 0 0 := by
  intro n
  induction n with
  | zero => intro H σ c rel _; exact ⟨σ, rel.now, fun j hj => by omega⟩
  | succ n ih =>
    intro H σ c rel hn
    have h1 := rel.addNil c (by simpa using hn 0 (by omega))
    obtain ⟨σ', h2, h3⟩ := ih (c + 1) h1.1 (fun j hj => by rw [upd_ne _ _ (by omega), show c + 1 + j = c + (j + 1) by omega]; exact hn (j + 1) (by omega))
    refine ⟨σ', h1.trans h2, fun j hj => ?_⟩
    cases j with
    | zero =>
      rw [Nat.add_zero]
      have e : ups H (number c (nilrows (n + 1))) c = some (.nilrow 0) := by
        show ups (upd H c (some (.nilrow 0))) (number (c + 1) (nilrows n)) c = _
        rw [ups_off (fun p hp => by have := (number_ge p hp).1; omega), upd_same]
      refine ⟨e, ?_⟩
      have := h2.1.bl c (.nilrow 0) e
      exact this
    | succ j =>
      have := h3 j (by omega)
      rw [show c + 1 + j = c + (j + 1) by omega] at this
      exact this
theorem nils_len (n : Nat) : (nilrows n).length = n := by induction n with
  | zero => rfl
  | succ n ih => simp [nilrows, ih]
theorem alloc_old (w : World) (o : Obj) (g : Nat) (h : g < w.heap.size) : (w.alloc o).heap[g]? = w.heap[g]? := by
  simp only [World.alloc]
  rw [Array.getElem?_push_lt h, Array.getElem?_eq_getElem h]
/-- A variable gets a number, and a block. -/
theorem RelH.addVar (rel : RelH F H σ w) (id : Nat) (hn : H id = none) (cells : List AV) (vs : Array Value) (T : TypeId) (hl : vs.size = cells.length)
    (hc : ∀ j, j < cells.length → VR w (Mut F H σ) σ (Ver H) (cells.getD j .undef) (vs.getD j Go.undef) ∧ (vs.getD j Go.undef).oneCell' = true) :
    Now F w H σ (w.alloc (.cells vs T)) (upd H id (some (.var cells))) (upd σ id (.pointer (some ⟨w.heap.size, 0, none⟩))) := by
  refine rel.chg id (.var cells) (.pointer (some ⟨w.heap.size, 0, none⟩)) rfl rfl rfl (by simp) (fun g hg _ => alloc_old w _ g hg) (fun g _ h => ?_) (fun b h => by rw [hn] at h; cases h) (fun G => ?_)
  · simp only [blkOf, Option.some.injEq] at h
    subst h
    exact ⟨by simp, .inl (Nat.le_refl _)⟩
  · exact ⟨w.heap.size, vs, T, upd_same _ _ _, heap_alloc_new w _, hl, fun j hj => ⟨(hc j hj).1.grow G, (hc j hj).2⟩⟩
/-- A row gets a number, and a block. -/
theorem RelH.addRow (rel : RelH F H σ w) (id : Nat) (hn : H id = none) (sz n cap : Nat) (e : TypeId) (f : Nat → List AV) (vs : Array Value) (hsz : 0 < sz) (hnc : n ≤ cap) (hm : cap ≤ maxLen) (hl : vs.size = cap * sz) (hf : ∀ k, k < n → (f k).length = sz)
    (hc : ∀ k j, k < n → j < sz → PR w (Mut F H σ) ((f k).getD j .undef) (vs.getD (k * sz + j) Go.undef) ∧ (vs.getD (k * sz + j) Go.undef).oneCell' = true) :
    Now F w H σ (w.alloc (.cells vs e)) (upd H id (some (.row 0 sz n e f))) (upd σ id (.slice (some ⟨w.heap.size, 0, none⟩) n cap)) := by
  refine rel.chg id (.row 0 sz n e f) (.slice (some ⟨w.heap.size, 0, none⟩) n cap) rfl rfl rfl (by simp) (fun g hg _ => alloc_old w _ g hg) (fun g _ h => ?_) (fun b h => by rw [hn] at h; cases h) (fun G => ?_)
  · simp only [blkOf, Option.some.injEq] at h
    subst h
    exact ⟨by simp, .inl (Nat.le_refl _)⟩
  · have hle : n * sz ≤ cap * sz := Nat.mul_le_mul_right _ hnc
    refine ⟨vs.toList.take (n * sz), hsz, ⟨by simp; omega, .inr ⟨w.heap.size, cap, vs, upd_same _ _ _, Nat.zero_le _, heap_alloc_new w _, hnc, hm, hl, rfl⟩⟩, hf, fun k j hk hj => ?_⟩
    have hlt : k * sz + j < n * sz := by
      have h2 : (k + 1) * sz ≤ n * sz := Nat.mul_le_mul_right _ hk
      rw [Nat.add_mul, Nat.one_mul] at h2
      omega
    have e1 : (vs.toList.take (n * sz)).getD (k * sz + j) Go.undef = vs.getD (k * sz + j) Go.undef := by
      have hs : k * sz + j < vs.size := by omega
      simp [List.getD_eq_getElem?_getD, hlt, Array.getD, hs]
    rw [e1]
    exact ⟨(hc k j hk hj).1.grow G.keep G.mutd, (hc k j hk hj).2⟩

/-- A listed slice gets a number, and a block. -/
theorem RelH.addLrow (rel : RelH F H σ w) (id : Nat) (hn : H id = none) (sz n : Nat) (e : TypeId) (cells : List AV) (vs : Array Value) (hsz : 0 < sz) (hn0 : 0 < n) (hm : n ≤ maxLen) (hl : vs.size = n * sz) (hcl : cells.length = n * sz)
    (hc : ∀ j, j < n * sz → VR w (Mut F H σ) σ (Ver H) (cells.getD j .undef) (vs.getD j Go.undef) ∧ (vs.getD j Go.undef).oneCell' = true) :
    Now F w H σ (w.alloc (.cells vs e)) (upd H id (some (.lrow 0 sz n e cells))) (upd σ id (.slice (some ⟨w.heap.size, 0, none⟩) n n)) := by
  refine rel.chg id (.lrow 0 sz n e cells) (.slice (some ⟨w.heap.size, 0, none⟩) n n) rfl rfl rfl (by simp) (fun g hg _ => alloc_old w _ g hg) (fun g _ h => ?_) (fun b h => by rw [hn] at h; cases h) (fun G => ?_)
  · simp only [blkOf, Option.some.injEq] at h
    subst h
    exact ⟨by simp, .inl (Nat.le_refl _)⟩
  · refine ⟨vs.toList.take (n * sz), hsz, hn0, ⟨by simp; omega, .inr ⟨w.heap.size, n, vs, upd_same _ _ _, Nat.zero_le _, heap_alloc_new w _, Nat.le_refl _, hm, hl, rfl⟩⟩, hcl, fun j hj => ?_⟩
    have e1 : (vs.toList.take (n * sz)).getD j Go.undef = vs.getD j Go.undef := by
      have hs : j < vs.size := by omega
      simp [List.getD_eq_getElem?_getD, hj, Array.getD, hs]
    rw [e1]
    exact ⟨(hc j hj).1.grow G, (hc j hj).2⟩

/-- A block without a number. -/
theorem RelH.addFree (rel : RelH F H σ w) (o : Obj) : Now F w H σ (w.alloc o) H σ :=
  rel.chgs (fun _ => False) (fun _ _ => rfl) (fun _ _ => rfl) rfl rfl rfl (by simp) (fun g hg _ => alloc_old w _ g hg) (fun _ _ _ h => h.elim) (fun _ _ _ _ _ _ h => h.elim) (fun _ _ h => h.elim) (fun _ _ _ h => h.elim)

/-- Numbers are given up. -/
theorem RelH.kill (rel : RelH F H σ w) (u : List (Nat × Blk)) (hu : ∀ p ∈ u, ∃ b, H p.1 = some b ∧ b.live ∧ p.2 = .dead (b.ver + 1)) :
    Now F w H σ w (ups H u) σ ∧ (∀ p ∈ u, ∀ g, blkOf (σ p.1) = some g → ¬ Mut F (ups H u) σ g) ∧ ∀ g, Mut F (ups H u) σ g → Mut F H σ g := by
  have hat : ∀ id, (∃ p ∈ u, p.1 = id) → ∃ b, H id = some b ∧ b.live ∧ ups H u id = some (.dead (b.ver + 1)) := by
    clear rel
    have gen : ∀ (u : List (Nat × Blk)) (H0 : Nat → Option Blk), (∀ p ∈ u, ∃ b, H p.1 = some b ∧ b.live ∧ p.2 = .dead (b.ver + 1)) → ∀ id, (∃ p ∈ u, p.1 = id) → ∃ b, H id = some b ∧ b.live ∧ ups H0 u id = some (.dead (b.ver + 1)) := by
      intro u
      induction u with
      | nil => intro H0 _ id h; obtain ⟨p, hp, _⟩ := h; cases hp
      | cons p ps ih =>
        intro H0 hu id h
        by_cases hq : ∃ q ∈ ps, q.1 = id
        · exact ih _ (fun q hq => hu q (by simp [hq])) id hq
        · obtain ⟨b, h1, h2, h3⟩ := hu p (by simp)
          have hid : p.1 = id := by
            obtain ⟨q, hq1, hq2⟩ := h
            rcases List.mem_cons.1 hq1 with rfl | hq1
            · exact hq2
            · exact absurd ⟨q, hq1, hq2⟩ hq
          subst hid
          refine ⟨b, h1, h2, ?_⟩
          rw [ups, ups_off (fun q hq1 e => hq ⟨q, hq1, e⟩), upd_same, h3]
    exact gen u H hu
  have hoff : ∀ id, ¬ (∃ p ∈ u, p.1 = id) → ups H u id = H id := fun id h => ups_off fun p hp e => h ⟨p, hp, e⟩
  have main := rel.chgs (H' := ups H u) (σ' := σ) (w' := w) (fun id => ∃ p ∈ u, p.1 = id) hoff (fun _ _ => rfl) rfl rfl rfl (Nat.le_refl _) (fun _ _ _ => rfl)
    (fun id b' g hi h1 h2 _ => by
      obtain ⟨b, _, _, e3⟩ := hat id hi
      rw [h1] at e3; injection e3 with e3; subst e3; exact h2.elim)
    (fun id id' b b' g _ hi _ h1 _ h2 _ _ _ => by
      obtain ⟨b0, _, _, e3⟩ := hat id hi
      rw [h1] at e3; injection e3 with e3; subst e3; exact h2.elim)
    (fun id b hi h1 => by
      obtain ⟨b0, e1, e2, e3⟩ := hat id hi
      rw [h1] at e1; injection e1 with e1; subst e1
      exact ⟨_, e3, by simp [Blk.ver], fun _ => rfl, fun _ _ => rfl⟩)
    (fun _ id b' hi h1 => by
      obtain ⟨b0, _, _, e3⟩ := hat id hi
      rw [h1] at e3; injection e3 with e3; subst e3; trivial)
  refine ⟨main, fun p hp g hg hm => ?_, fun g hm => ?_⟩
  · obtain ⟨b, e1, e2, _⟩ := hat p.1 ⟨p, hp, rfl⟩
    rcases hm with hm | ⟨id, b', h1, h2, h3⟩
    · exact (rel.new p.1 b g e1 e2 hg).2.2 hm
    · by_cases hi : ∃ q ∈ u, q.1 = id
      · obtain ⟨b0, _, _, e3⟩ := hat id hi
        rw [h1] at e3; injection e3 with e3; subst e3; exact h2
      · rw [hoff id hi] at h1
        exact rel.ds p.1 id b b' g (fun e => hi ⟨p, hp, e⟩) e1 h1 e2 h2 hg h3
  · rcases hm with hm | ⟨id, b', h1, h2, h3⟩
    · exact .inl hm
    · by_cases hi : ∃ q ∈ u, q.1 = id
      · obtain ⟨b0, _, _, e3⟩ := hat id hi
        rw [h1] at e3; injection e3 with e3; subst e3; exact h2.elim
      · rw [hoff id hi] at h1
        exact .inr ⟨id, b', h1, h2, h3⟩

theorem setRow_at {w : World} {g : Nat} {cur new : Array Value} {t : TypeId} (hg : w.heap[g]? = some (.cells cur t (0, 0))) : (w.setRow g new).heap[g]? = some (.cells new t (0, 0)) := setRow_heap w g cur new t (0, 0) hg
/-- Cells of a variable are written. -/
theorem RelH.setVar (rel : RelH F H σ w) (id : Nat) (cells : List AV) (hid : H id = some (.var cells)) (off : Nat) (xs : List AV) (us : List Value) (hx : us.length = xs.length) (hle : off + xs.length ≤ cells.length)
    (hc : ∀ j, j < xs.length → VR w (Mut F H σ) σ (Ver H) (xs.getD j .undef) (us.getD j Go.undef) ∧ (us.getD j Go.undef).oneCell' = true) (t : TypeId) (inf : TypeInfo) (hi : P.info? t = some inf) (hs : inf.size = xs.length) (v : Value) (hv : v.cells.toList = us) :
    ∃ g w', σ id = .pointer (some ⟨g, 0, none⟩) ∧ (Instr.storeAt t (.pointer (some ⟨g, off, none⟩)) v).run P w = .ok () w' ∧ Now F w H σ w' (upd H id (some (.var (setAt cells off xs)))) σ := by
  obtain ⟨g, vs, T, h1, h2, h3, h4⟩ := rel.bl id _ hid
  have hg : g < w.heap.size := (Array.getElem?_eq_some_iff.1 h2).1
  have h1c : ∀ u ∈ us, u.oneCell' = true := fun u hu => by
    obtain ⟨j, hj, e⟩ := List.mem_iff_getElem.1 hu
    have := (hc j (by omega)).2
    rw [List.getD_eq_getElem?_getD, List.getElem?_eq_getElem hj] at this
    simpa [e] using this
  have hst := run_storeCells_at P g off T us 0 vs w h2 (by omega) h1c
  simp only [Nat.add_zero] at hst
  refine ⟨g, w.setRow g (vs.toList.take off ++ us ++ vs.toList.drop (off + us.length)).toArray, h1, ?_, ?_⟩
  · have hsz : v.cells.size = inf.size := by rw [← Array.length_toList, hv, hx, hs]
    simp only [Instr.storeAt, Instr.sureAddr, Sem.run_bind, Sem.run_pure, Result.andThen_ok, storeVar, run_sizeOf hi, hsz, ne_eq, not_true_eq_false, if_false, hv, hst]
  · have key := rel.chg id (.var (setAt cells off xs)) (σ id) (w' := w.setRow g (vs.toList.take off ++ us ++ vs.toList.drop (off + us.length)).toArray) rfl rfl rfl (by simp) (fun g' _ hk => ?_) (fun g' _ h => ?_) (fun b h => ⟨by rw [hid] at h; injection h with h; subst h; simp [Blk.ver], fun _ => rfl, fun _ _ => rfl⟩) (fun G => ?_)
    · rw [upd_self] at key; exact key
    · exact setRow_other w g g' _ (fun e => hk _ hid trivial (by rw [h1, e]; rfl))
    · rw [h1] at h; simp only [blkOf, Option.some.injEq] at h; subst h
      exact ⟨by simpa using hg, .inr ⟨_, hid, trivial, by rw [h1]; rfl⟩⟩
    · rw [upd_self] at G ⊢
      have hsl : (setAt cells off xs).length = cells.length := by simp [setAt]; omega
      refine ⟨g, _, T, h1, setRow_at h2, by rw [hsl]; simp; omega, fun j hj => ?_⟩
      rw [hsl] at hj
      have hjv : j < vs.size := by omega
      by_cases c1 : j < off
      · have e1 : (setAt cells off xs).getD j .undef = cells.getD j .undef := by
          rw [setAt, List.append_assoc, List.getD_eq_getElem?_getD, List.getElem?_append_left (by simp; omega), List.getElem?_take, if_pos c1, List.getD_eq_getElem?_getD]
        have e2 : (vs.toList.take off ++ us ++ vs.toList.drop (off + us.length)).toArray.getD j Go.undef = vs.getD j Go.undef := by
          rw [Array.getD_eq_getD_getElem?, List.getElem?_toArray, List.append_assoc, List.getElem?_append_left (by simp; omega), List.getElem?_take, if_pos c1, Array.getElem?_toList, Array.getD_eq_getD_getElem?]
        rw [e1, e2]
        exact ⟨(h4 j (by omega)).1.grow G, (h4 j (by omega)).2⟩
      · by_cases c2 : j < off + xs.length
        · have e1 : (setAt cells off xs).getD j .undef = xs.getD (j - off) .undef := by
            rw [setAt, List.append_assoc, List.getD_eq_getElem?_getD, List.getElem?_append_right (by simp; omega), List.getElem?_append_left (by simp; omega), List.getD_eq_getElem?_getD]
            congr 3; simp; omega
          have e2 : (vs.toList.take off ++ us ++ vs.toList.drop (off + us.length)).toArray.getD j Go.undef = us.getD (j - off) Go.undef := by
            rw [Array.getD_eq_getD_getElem?, List.getElem?_toArray, List.append_assoc, List.getElem?_append_right (by simp; omega), List.getElem?_append_left (by simp; omega), List.getD_eq_getElem?_getD]
            congr 3; simp; omega
          rw [e1, e2]
          exact ⟨(hc _ (by omega)).1.grow G, (hc _ (by omega)).2⟩
        · have e1 : (setAt cells off xs).getD j .undef = cells.getD j .undef := by
            rw [setAt, List.getD_eq_getElem?_getD, List.getElem?_append_right (by simp; omega), List.getElem?_drop, List.getD_eq_getElem?_getD]
            congr 3; simp; omega
          have e2 : (vs.toList.take off ++ us ++ vs.toList.drop (off + us.length)).toArray.getD j Go.undef = vs.getD j Go.undef := by
            rw [Array.getD_eq_getD_getElem?, List.getElem?_toArray, List.getElem?_append_right (by simp; omega), List.getElem?_drop, Array.getElem?_toList, Array.getD_eq_getD_getElem?]
            congr 2; simp; omega
          rw [e1, e2]
          exact ⟨(h4 j (by omega)).1.grow G, (h4 j (by omega)).2⟩
end
end Go.Proofs.Ythkdmemkjojmoaa.Ab
