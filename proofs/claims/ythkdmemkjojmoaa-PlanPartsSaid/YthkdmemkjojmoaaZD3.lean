/- The plain evaluator: a call is right. -/
import Derived.Test.YthkdmemkjojmoaaZD2
namespace Go.Proofs.Ythkdmemkjojmoaa.Ab
open Go

theorem trIns_get (t : Tr) : ∀ (bs : List Blk) (j : Nat), (trIns t bs)[j]? = (bs[j]?).map (Blk.tr t 0) := by
  intro bs
  induction bs with
  | nil => intro j; simp [trIns]
  | cons b bs ih => intro j; cases j with
    | zero => simp [trIns]
    | succ j => simpa [trIns] using ih j
theorem trIns_len (t : Tr) : ∀ (bs : List Blk), (trIns t bs).length = bs.length := by
  intro bs
  induction bs with
  | nil => rfl
  | cons b bs ih => simp [trIns, ih]
theorem back_ver (t : Tr) (b b' : Blk) : (b.isVar = false ∧ b'.isVar = false ∧ (back t b b').ver = b.ver + b'.ver) ∨ (back t b b').ver = b.ver + 1 ∨ (b.isVar = true ∧ b'.isVar = true ∧ back t b b' = b'.tr t 0 ∧ (back t b b').ver = 0 ∧ b.ver = 0) := by
  unfold back
  cases h1 : b.isVar <;> cases h2 : b'.isVar <;> simp only
  · left; refine ⟨trivial, trivial, ?_⟩; rw [tr_ver, h2]; rfl
  · right; left; rfl
  · right; left; rfl
  · right; right; refine ⟨trivial, trivial, trivial, by rw [tr_ver, h2]; rfl, by cases b <;> simp [Blk.isVar] at h1; rfl⟩
theorem back_live {t : Tr} {b b' : Blk} (h : (back t b b').live) : b'.live ∧ ∃ ver, back t b b' = b'.tr t ver := by
  unfold back at h ⊢
  cases h1 : b.isVar <;> cases h2 : b'.isVar <;> simp only [h1, h2] at h ⊢
  · exact ⟨tr_live.1 h, _, rfl⟩
  · exact h.elim
  · exact h.elim
  · exact ⟨tr_live.1 h, _, rfl⟩
theorem ups_updOut (t : Tr) : ∀ (ids : List Nat) (bs outs : List Blk) (H : Nat → Option Blk), ids.Nodup → bs.length = ids.length → ids.length ≤ outs.length →
    (∀ (j id : Nat) (b b' : Blk), ids[j]? = some id → bs[j]? = some b → outs[j]? = some b' → ups H (updOut t ids bs outs) id = some (back t b b')) ∧ ∀ id, id ∉ ids → ups H (updOut t ids bs outs) id = H id := by
  intro ids
  induction ids with
  | nil => intro bs outs H _ _ _; exact ⟨fun j id b b' h => by simp at h, fun id _ => by simp [updOut, ups]⟩
  | cons i ids ih =>
    intro bs outs H hn hl hl2
    obtain ⟨b0, bs, rfl⟩ : ∃ b bs', bs = b :: bs' := by cases bs with
      | nil => simp at hl
      | cons b bs' => exact ⟨b, bs', rfl⟩
    obtain ⟨o0, outs, rfl⟩ : ∃ b bs', outs = b :: bs' := by cases outs with
      | nil => simp at hl2
      | cons b bs' => exact ⟨b, bs', rfl⟩
    have hn' := List.nodup_cons.1 hn
    obtain ⟨h1, h2⟩ := ih bs outs (upd H i (some (back t b0 o0))) hn'.2 (by simpa using hl) (by simpa using hl2)
    simp only [updOut, ups]
    refine ⟨fun j id b b' e1 e2 e3 => ?_, fun id hid => ?_⟩
    · cases j with
      | zero =>
        simp at e1 e2 e3
        subst e1 e2 e3
        rw [h2 _ hn'.1, upd_same]
      | succ j => exact h1 j id b b' (by simpa using e1) (by simpa using e2) (by simpa using e3)
    · rw [h2 id (fun h => hid (by simp [h])), upd_ne _ _ (fun e => hid (by simp [e]))]
theorem ups_number : ∀ (bs : List Blk) (c : Nat) (H : Nat → Option Blk), (∀ j, j < bs.length → ups H (number c bs) (c + j) = bs[j]?) ∧ ∀ id, ¬ (c ≤ id ∧ id < c + bs.length) → ups H (number c bs) id = H id := by
  intro bs
  induction bs with
  | nil => intro c H; exact ⟨fun j hj => by simp at hj, fun id _ => rfl⟩
  | cons b bs ih =>
    intro c H
    obtain ⟨h1, h2⟩ := ih (c + 1) (upd H c (some b))
    simp only [number, ups]
    refine ⟨fun j hj => ?_, fun id hid => ?_⟩
    · cases j with
      | zero => rw [h2 _ (by omega)]; simp
      | succ j =>
        have := h1 j (by simpa using hj)
        rw [show c + 1 + j = c + (j + 1) by omega] at this
        simpa using this
    · simp only [List.length_cons] at hid
      rw [h2 id (by omega), upd_ne _ _ (by omega)]
theorem ups_deads : ∀ (bor : List (Nat × Nat)) (H : Nat → Option Blk), (∀ p ∈ bor, ∀ q ∈ bor, p.1 = q.1 → p.2 = q.2) →
    (∀ p ∈ bor, ups H (bor.map fun p => (p.1, Blk.dead (p.2 + 1))) p.1 = some (.dead (p.2 + 1))) ∧ ∀ id, (∀ p ∈ bor, p.1 ≠ id) → ups H (bor.map fun p => (p.1, Blk.dead (p.2 + 1))) id = H id := by
  intro bor
  induction bor with
  | nil => intro H _; exact ⟨fun p hp => (by cases hp), fun id _ => rfl⟩
  | cons q bor ih =>
    intro H hq
    obtain ⟨h1, h2⟩ := ih (upd H q.1 (some (.dead (q.2 + 1)))) (fun p hp r hr => hq p (by simp [hp]) r (by simp [hr]))
    simp only [List.map_cons, ups]
    refine ⟨fun p hp => ?_, fun id hid => ?_⟩
    · by_cases hm : ∃ r ∈ bor, r.1 = p.1
      · obtain ⟨r, hr, e⟩ := hm
        have e2 : r.2 = p.2 := by
          rcases List.mem_cons.1 hp with rfl | hp'
          · exact hq r (by simp [hr]) p (by simp) e
          · exact hq r (by simp [hr]) p (by simp [hp']) e
        rw [← e, ← e2]
        exact h1 r hr
      · have : p = q := by
          rcases List.mem_cons.1 hp with rfl | hp'
          · rfl
          · exact absurd ⟨p, hp', rfl⟩ hm
        subst this
        rw [h2 _ (fun r hr e => hm ⟨r, hr, e⟩), upd_same]
    · rw [h2 id (fun p hp => hid p (by simp [hp])), upd_ne _ _ (fun e => hid q (by simp) e.symm)]

section
variable {P : Program} {F : Fr} {H : Nat → Option Blk} {σ : Nat → Value} {w : World} {c : Nat}
/-- What a callee starts from. -/
theorem call_in (rel : RelH F H σ w) (ids : List Nat) (hnd : ids.Nodup) (bs : List Blk) (hbl : bs.length = ids.length) (hbs : ∀ (j id : Nat), ids[j]? = some id → ∃ b : Blk, bs[j]? = some b ∧ H id = some b) (bor : List (Nat × Nat)) (hbor : BorOK H bor) (hni : ∀ p ∈ bor, p.1 ∉ ids)
    (xs : List AV) (us : List Value) (hxs : ∀ j, j < xs.length → Lent F H σ w bor (xs.getD j .undef) (us.getD j Go.undef)) :
    let t := trIn ids (bs.map Blk.ver)
    let ins := trIns t bs
    let σc := fun j => σ (ids.getD j 0)
    let Fc : Fr := ⟨w, Own (Hof ins) σc, fun g => Mut F H σ g ∧ (∀ id ∈ ids, ∀ b, H id = some b → b.live → blkOf (σ id) ≠ some g) ∧ ∀ p ∈ bor, blkOf (σ p.1) ≠ some g, σc, bs.length, False⟩
    RelH Fc (Hof ins) σc w ∧ (∀ j, j < xs.length → VR w (Mut Fc (Hof ins) σc) σc (Ver (Hof ins)) ((AV.trL t xs).getD j .undef) (us.getD j Go.undef)) ∧
    (∀ (j : Nat) b', Hof ins j = some b' → ∃ (id : Nat) (b : Blk), ids[j]? = some id ∧ H id = some b ∧ bs[j]? = some b ∧ b' = b.tr t 0) := by
  intro t ins σc Fc
  have hin : ∀ (j : Nat) b', Hof ins j = some b' → ∃ (id : Nat) (b : Blk), ids[j]? = some id ∧ H id = some b ∧ bs[j]? = some b ∧ b' = b.tr t 0 := by
    intro j b' h
    have h : (trIns t bs)[j]? = some b' := h
    rw [trIns_get] at h
    obtain ⟨b, hb, rfl⟩ := Option.map_eq_some_iff.1 h
    have hj : j < ids.length := by rw [← hbl]; exact (List.getElem?_eq_some_iff.1 hb).1
    obtain ⟨b2, e1, e2⟩ := hbs j ids[j] (List.getElem?_eq_getElem hj)
    rw [hb] at e1; injection e1 with e1; subst e1
    exact ⟨ids[j], b, List.getElem?_eq_getElem hj, e2, hb, rfl⟩
  have hσ : ∀ (j id : Nat), ids[j]? = some id → σc j = σ id := by
    intro j id h
    show σ (ids.getD j 0) = _
    rw [List.getD_eq_getElem?_getD, h]; rfl
  have hown : ∀ g, Own (Hof ins) σc g → ∃ id ∈ ids, ∃ b, H id = some b ∧ b.live ∧ blkOf (σ id) = some g := by
    rintro g ⟨j, b', h1, h2, h3⟩
    obtain ⟨id, b, e1, e2, e3, rfl⟩ := hin j b' h1
    exact ⟨id, List.mem_of_getElem? e1, b, e2, tr_live.1 h2, by rw [← hσ j id e1]; exact h3⟩
  have hM : ∀ g, Mut Fc (Hof ins) σc g → Mut F H σ g := by
    rintro g (h | h)
    · exact h.1
    · obtain ⟨id, _, b, h1, h2, h3⟩ := hown g h
      exact .inr ⟨id, b, h1, h2, h3⟩
  have hMb : ∀ p ∈ bor, ∀ g, blkOf (σ p.1) = some g → ¬ Mut Fc (Hof ins) σc g := by
    rintro p hp g hg (h | h)
    · exact h.2.2 p hp hg
    · obtain ⟨id, hid, b, h1, h2, h3⟩ := hown g h
      obtain ⟨b0, e1, e2, _⟩ := hbor p hp
      exact rel.ds p.1 id b0 b g (fun e => hni p hp (e ▸ hid)) e1 h1 e2 h2 hg h3
  have hp : ∀ id i m, Ver H id = some m → t.gp id = some i → (∃ m', Ver (Hof ins) i = some m') ∧ ∀ g, σ id = .pointer (some g) → σc i = σ id := by
    intro id i m _ hg
    have hi := idx_some hg
    obtain ⟨b, e1, e2⟩ := hbs i id hi
    exact ⟨⟨(b.tr t 0).ver, ver_of (show (trIns t bs)[i]? = _ by rw [trIns_get, e1]; rfl)⟩, fun g _ => hσ i id hi⟩
  have ho : ∀ id ver i ver' m, Ver H id = some m → ver ≤ m → t.go id ver = some (i, ver') → ∃ m', Ver (Hof ins) i = some m' ∧ ver' ≤ m' ∧ (ver' = m' → ver = m ∧ σc i = σ id) := by
    intro id ver i ver' m hV _ hg
    have hg : (match idx ids id with | some j => (match Nat.beq ver ((bs.map Blk.ver).getD j 0) with | true => some (j, 0) | false => none) | none => none) = some (i, ver') := hg
    cases hi : idx ids id with
    | none => simp [hi] at hg
    | some j =>
      simp only [hi] at hg
      cases hb : Nat.beq ver ((bs.map Blk.ver).getD j 0) with
      | false => rw [hb] at hg; cases hg
      | true =>
        rw [hb] at hg
        simp only [Option.some.injEq, Prod.mk.injEq] at hg
        obtain ⟨rfl, rfl⟩ := hg
        have hi := idx_some hi
        obtain ⟨b, e1, e2⟩ := hbs j id hi
        have hbv := Nat.eq_of_beq_eq_true hb
        rw [List.getD_eq_getElem?_getD, List.getElem?_map, e1] at hbv
        simp only [Option.map_some, Option.getD_some] at hbv
        rw [ver_of e2] at hV
        injection hV with hV
        refine ⟨(b.tr t 0).ver, ver_of (show (trIns t bs)[j]? = _ by rw [trIns_get, e1]; rfl), Nat.zero_le _, fun _ => ⟨by omega, hσ j id hi⟩⟩
  refine ⟨⟨rfl, rfl, rfl, Nat.le_refl _, fun _ _ _ => rfl, fun j b' h => ?_, fun j j' b b' g hne h1 h2 l1 l2 k1 k2 => ?_, fun j b' g h1 h2 h3 => ?_, fun g h => ?_⟩, fun j hj => ?_, hin⟩
  · obtain ⟨id, b, e1, e2, e3, rfl⟩ := hin j b' h
    exact (rel.bl id b e2).tr hM hp ho (hσ j id e1)
  · obtain ⟨id, b0, e1, e2, e3, rfl⟩ := hin j b h1
    obtain ⟨id', b0', f1, f2, f3, rfl⟩ := hin j' b' h2
    rw [hσ j id e1] at k1
    rw [hσ j' id' f1] at k2
    refine rel.ds id id' b0 b0' g (fun e => hne ?_) e2 f2 (tr_live.1 l1) (tr_live.1 l2) k1 k2
    subst e
    have := idx_nodup hnd e1
    rw [idx_nodup hnd f1] at this
    injection this with this; exact this.symm
  · refine ⟨?_, .inr ⟨j, b', h1, h2, h3⟩, fun hm => ?_⟩
    · obtain ⟨id, b, e1, e2, e3, rfl⟩ := hin j b' h1
      rw [hσ j id e1] at h3
      exact (rel.new id b g e2 (tr_live.1 h2) h3).1
    · obtain ⟨id, hid, b, f1, f2, f3⟩ := hown g ⟨j, b', h1, h2, h3⟩
      exact hm.2.1 id hid b f1 f2 f3
  · rcases h.1 with h | ⟨id, b, h1, h2, h3⟩
    · exact Nat.lt_of_lt_of_le (rel.mxl g h) rel.size
    · exact (rel.new id b g h1 h2 h3).1
  · rw [trL_getD]
    exact (hxs j hj (Mut Fc (Hof ins) σc) hM hMb).tr (fun _ h => h) hp ho

/-- What a caller has behind the call. -/
theorem call_out (rel : RelH F H σ w) (hn : ∀ j, j < 64 → H (c + j) = none) (ids : List Nat) (hnd : ids.Nodup) (bs : List Blk) (hbl : bs.length = ids.length) (hbs : ∀ (j id : Nat), ids[j]? = some id → ∃ b : Blk, bs[j]? = some b ∧ H id = some b) (bor : List (Nat × Nat)) (hbor : BorOK H bor) (hni : ∀ p ∈ bor, p.1 ∉ ids)
    (outs : List Blk) (hol : ids.length ≤ outs.length) (h64 : outs.length - ids.length ≤ 64) (hov : ∀ (j : Nat) b, outs[j]? = some b → b.ver ≤ 1 ∧ (ids.length ≤ j → b.ver = 0)) (x : AV) (v : Value) (w' : World) (σ1 : Nat → Value) (fl : Bool) (hfl : fl = true → AV.flat x = true ∧ ∀ b ∈ outs, b.flat) (deads : List (Nat × Blk))
    (hdeads : (bor = [] ∧ deads = []) ∨ (fl = true ∧ deads = []) ∨ deads = bor.map fun p => (p.1, .dead (p.2 + 1)))
    (Fc : Fr) (σc : Nat → Value) (ins : List Blk) (hins : ∀ (j : Nat) b', Hof ins j = some b' → ∃ (id : Nat) (b : Blk), ids[j]? = some id ∧ H id = some b ∧ bs[j]? = some b ∧ (b'.live → b.live)) (hσc : ∀ (j id : Nat), ids[j]? = some id → σc j = σ id)
    (hw0 : Fc.w0 = w) (hm0 : ∀ g, Fc.m0 g ↔ Own (Hof ins) σc g) (hmx : Fc.mx = fun g => Mut F H σ g ∧ (∀ id ∈ ids, ∀ b, H id = some b → b.live → blkOf (σ id) ≠ some g) ∧ ∀ p ∈ bor, blkOf (σ p.1) ≠ some g)
    (relc : RelH Fc (Hof outs) σ1 w') (hv : VR w' (Mut Fc (Hof outs) σ1) σ1 (Ver (Hof outs)) x v) (hptr : ∀ (id : Nat) g, id < ids.length → σc id = .pointer (some g) → σ1 id = σc id)
    (hkeep : ∀ (id : Nat) b, id < ids.length → outs[id]? = some b → b.ver = 0 → b.isVar = false → σ1 id = σc id) :
    let t := trOut ids bs c
    let H' := ups H (updOut t ids bs outs ++ deads ++ number c ((outs.drop ids.length).map (Blk.tr t 0)))
    ∃ σ', Now F w H σ w' H' σ' ∧ VR w' (Mut F H' σ') σ' (Ver H') (x.tr t) v := by
  intro t H'
  have hc : ∀ j, j < 64 → (c + j) ∉ ids := fun j hj hm => by
    obtain ⟨i, hi⟩ := List.getElem?_of_mem hm
    obtain ⟨b, _, h2⟩ := hbs i _ hi
    rw [hn j hj] at h2; cases h2
  have hcb : ∀ j, j < 64 → ∀ p ∈ bor, p.1 ≠ c + j := fun j hj p hp e => by
    obtain ⟨b, h2, _⟩ := hbor p hp
    rw [e, hn j hj] at h2; cases h2
  have hbu : ∀ p ∈ bor, ∀ q ∈ bor, p.1 = q.1 → p.2 = q.2 := fun p hp q hq e => by
    obtain ⟨b1, h1, _, h2⟩ := hbor p hp
    obtain ⟨b2, h3, _, h4⟩ := hbor q hq
    rw [e, h3] at h1; injection h1 with h1; subst h1
    omega
  have hdk : ∀ q ∈ deads, ∃ p ∈ bor, q = (p.1, .dead (p.2 + 1)) := by
    intro q hq
    rcases hdeads with ⟨_, h⟩ | ⟨_, h⟩ | h
    · rw [h] at hq; cases hq
    · rw [h] at hq; cases hq
    · rw [h] at hq
      obtain ⟨p, hp, rfl⟩ := List.mem_map.1 hq
      exact ⟨p, hp, rfl⟩
  let N := outs.length - ids.length
  -- what the numbers are behind it
  have Hin : ∀ (j id : Nat) (b b' : Blk), ids[j]? = some id → bs[j]? = some b → outs[j]? = some b' → H' id = some (back t b b') := by
    intro j id b b' h1 h2 h3
    have hid := List.mem_of_getElem? h1
    show ups H (updOut t ids bs outs ++ deads ++ number c ((outs.drop ids.length).map (Blk.tr t 0))) id = _
    rw [ups_append, (ups_number _ c _).2 id ?_, ups_append, ups_off ?_, (ups_updOut t ids bs outs H hnd hbl hol).1 j id b b' h1 h2 h3]
    · intro q hq e
      obtain ⟨p, hp, rfl⟩ := hdk q hq
      exact hni p hp (e ▸ hid)
    · simp only [List.length_map, List.length_drop]
      rintro ⟨h4, h5⟩
      exact hc (id - c) (by omega) (by rw [show c + (id - c) = id by omega]; exact hid)
  have Hnew : ∀ (j : Nat) (b' : Blk), ids.length ≤ j → outs[j]? = some b' → H' (c + (j - ids.length)) = some (b'.tr t 0) := by
    intro j b' h1 h2
    have hjl : j < outs.length := (List.getElem?_eq_some_iff.1 h2).1
    show ups H (updOut t ids bs outs ++ deads ++ number c ((outs.drop ids.length).map (Blk.tr t 0))) _ = _
    rw [ups_append, (ups_number _ c _).1 (j - ids.length) (by simp; omega)]
    rw [List.getElem?_map, List.getElem?_drop, show ids.length + (j - ids.length) = j by omega, h2]
    rfl
  have Hoff : ∀ id, id ∉ ids → ¬ (c ≤ id ∧ id < c + N) → (∀ q ∈ deads, q.1 ≠ id) → H' id = H id := by
    intro id h1 h2 h3
    show ups H (updOut t ids bs outs ++ deads ++ number c ((outs.drop ids.length).map (Blk.tr t 0))) id = _
    rw [ups_append, (ups_number _ c _).2 id (by simp only [List.length_map, List.length_drop]; exact h2), ups_append, ups_off h3, (ups_updOut t ids bs outs H hnd hbl hol).2 id h1]
  have Hdead : ∀ q ∈ deads, ∃ p ∈ bor, q.1 = p.1 ∧ H' p.1 = some (.dead (p.2 + 1)) := by
    intro q hq
    obtain ⟨p, hp, rfl⟩ := hdk q hq
    refine ⟨p, hp, rfl, ?_⟩
    have hd : deads = bor.map fun p => (p.1, Blk.dead (p.2 + 1)) := by
      rcases hdeads with ⟨_, h⟩ | ⟨_, h⟩ | h
      · rw [h] at hq; cases hq
      · rw [h] at hq; cases hq
      · exact h
    show ups H (updOut t ids bs outs ++ deads ++ number c ((outs.drop ids.length).map (Blk.tr t 0))) p.1 = _
    rw [ups_append, (ups_number _ c _).2 p.1 ?_, ups_append, hd, (ups_deads bor _ hbu).1 p hp]
    simp only [List.length_map, List.length_drop]
    rintro ⟨h4, h5⟩
    exact hcb (p.1 - c) (by omega) p hp (by omega)
  let σ' : Nat → Value := fun id => match idx ids id with
    | some j => σ1 j
    | none => if c ≤ id ∧ id < c + N then σ1 (ids.length + (id - c)) else σ id
  have Sin : ∀ (j id : Nat), ids[j]? = some id → σ' id = σ1 j := fun j id h => by
    show (match idx ids id with | some j => σ1 j | none => _) = _
    rw [idx_nodup hnd h]
  have Snew : ∀ j, ids.length ≤ j → j < outs.length → σ' (c + (j - ids.length)) = σ1 j := by
    intro j h1 h2
    have hni' : idx ids (c + (j - ids.length)) = none := by
      cases hi : idx ids (c + (j - ids.length)) with
      | none => rfl
      | some i => exact absurd (List.mem_of_getElem? (idx_some hi)) (hc _ (by omega))
    show (match idx ids (c + (j - ids.length)) with | some j => σ1 j | none => _) = _
    rw [hni']
    dsimp only
    rw [if_pos (by omega)]
    congr 1; omega
  have Soff : ∀ id, id ∉ ids → ¬ (c ≤ id ∧ id < c + N) → σ' id = σ id := by
    intro id h1 h2
    have hni' : idx ids id = none := by
      cases hi : idx ids id with
      | none => rfl
      | some i => exact absurd (List.mem_of_getElem? (idx_some hi)) h1
    show (match idx ids id with | some j => σ1 j | none => _) = _
    rw [hni']
    dsimp only
    rw [if_neg h2]
  -- each number of the change is a place of the answer, or given up
  let I : Nat → Prop := fun id => id ∈ ids ∨ (c ≤ id ∧ id < c + N) ∨ ∃ q ∈ deads, q.1 = id
  have place : ∀ id b', I id → H' id = some b' → b'.live → ∃ (j : Nat) (b0 : Blk) (ver : Nat), outs[j]? = some b0 ∧ b0.live ∧ b' = b0.tr t ver ∧ σ' id = σ1 j ∧ (ids[j]? = some id ∨ (ids.length ≤ j ∧ id = c + (j - ids.length))) := by
    rintro id b' (hid | hid | ⟨q, hq, rfl⟩) h1 h2
    · obtain ⟨j, hj⟩ := List.getElem?_of_mem hid
      obtain ⟨b, e1, e2⟩ := hbs j id hj
      have hjl : j < outs.length := Nat.lt_of_lt_of_le (List.getElem?_eq_some_iff.1 hj).1 hol
      rw [Hin j id b outs[j] hj e1 (List.getElem?_eq_getElem hjl)] at h1
      injection h1 with h1; subst h1
      obtain ⟨l1, ver, l2⟩ := back_live h2
      exact ⟨j, outs[j], ver, List.getElem?_eq_getElem hjl, l1, l2, Sin j id hj, .inl hj⟩
    · have hjl : ids.length + (id - c) < outs.length := by omega
      have e : id = c + (ids.length + (id - c) - ids.length) := by omega
      have := Hnew (ids.length + (id - c)) _ (by omega) (List.getElem?_eq_getElem hjl)
      rw [← e, h1] at this
      injection this with this; subst this
      refine ⟨_, _, 0, List.getElem?_eq_getElem hjl, tr_live.1 h2, rfl, ?_, .inr ⟨by omega, e⟩⟩
      have := Snew (ids.length + (id - c)) (by omega) hjl
      rwa [← e] at this
    · obtain ⟨p, hp, e1, e2⟩ := Hdead q hq
      rw [e1, e2] at h1
      injection h1 with h1; subst h1
      exact h2.elim
  have m0own : ∀ g, Fc.m0 g → ∃ id ∈ ids, ∃ b, H id = some b ∧ b.live ∧ blkOf (σ id) = some g := by
    intro g hg
    obtain ⟨j, b', h1, h2, h3⟩ := (hm0 g).1 hg
    obtain ⟨id, b, e1, e2, e3, e4⟩ := hins j b' h1
    exact ⟨id, List.mem_of_getElem? e1, b, e2, e4 h2, by rw [← hσc j id e1]; exact h3⟩
  -- which blocks may be written behind it
  let M2 : Nat → Prop := fun g => Mut Fc (Hof outs) σ1 g ∨ (fl = true ∧ ∃ p ∈ bor, blkOf (σ p.1) = some g)
  have hM2 : ∀ g, Mut F H' σ' g → M2 g := by
    rintro g (h | ⟨id, b', h1, h2, h3⟩)
    · left; left
      rw [hmx]
      exact ⟨.inl h, fun id _ b e1 e2 e3 => (rel.new id b g e1 e2 e3).2.2 h, fun p hp e => by
        obtain ⟨b, e1, e2, _⟩ := hbor p hp
        exact (rel.new p.1 b g e1 e2 e).2.2 h⟩
    · by_cases hI : I id
      · obtain ⟨j, b0, ver, e1, e2, e3, e4, _⟩ := place id b' hI h1 h2
        left; right
        exact ⟨j, b0, e1, e2, by rw [← e4]; exact h3⟩
      · have q1 : id ∉ ids := fun h => hI (.inl h)
        have q2 : ¬ (c ≤ id ∧ id < c + N) := fun h => hI (.inr (.inl h))
        have q3 : ∀ q ∈ deads, q.1 ≠ id := fun q hq e => hI (.inr (.inr ⟨q, hq, e⟩))
        rw [Hoff id q1 q2 q3] at h1
        rw [Soff id q1 q2] at h3
        by_cases hb : ∃ p ∈ bor, blkOf (σ p.1) = some g
        · obtain ⟨p, hp, e⟩ := hb
          rcases hdeads with ⟨hh, _⟩ | ⟨hh, _⟩ | hh
          · rw [hh] at hp; cases hp
          · exact .inr ⟨hh, p, hp, e⟩
          · exfalso
            obtain ⟨b, f1, f2, _⟩ := hbor p hp
            have hne : p.1 ≠ id := fun e => q3 (p.1, .dead (p.2 + 1)) (by rw [hh]; exact List.mem_map.2 ⟨p, hp, rfl⟩) e
            exact rel.ds p.1 id b b' g hne f1 h1 f2 h2 e h3
        · left; left
          rw [hmx]
          exact ⟨.inr ⟨id, b', h1, h2, h3⟩, fun id0 hid0 b e1 e2 e3 => rel.ds id id0 b' b g (fun e => q1 (e ▸ hid0)) h1 e1 h2 e2 h3 e3, fun p hp e => hb ⟨p, hp, e⟩⟩
  have hvM : ∀ {y : AV} {u : Value}, (fl = true → y.flat = true) → VR w' (Mut Fc (Hof outs) σ1) σ1 (Ver (Hof outs)) y u → VR w' M2 σ1 (Ver (Hof outs)) y u := by
    intro y u hy h
    cases hq : fl with
    | true => exact h.flat (hy hq)
    | false => exact h.grow ⟨Nat.le_refl _, fun _ _ _ => rfl, fun g _ hg => hg.resolve_right (fun hh => by simp [hq] at hh), fun _ m h => ⟨m, h, Nat.le_refl _, fun _ => rfl⟩, fun _ _ _ _ _ => rfl⟩
  have hbM : ∀ {j : Nat} {b : Blk}, (fl = true → b.flat) → BR w' (Mut Fc (Hof outs) σ1) σ1 (Ver (Hof outs)) j b → BR w' M2 σ1 (Ver (Hof outs)) j b := by
    intro j b hb h
    cases hq : fl with
    | true => exact h.flat (hb hq)
    | false => exact h.grow ⟨Nat.le_refl _, fun _ _ _ => rfl, fun g _ hg => hg.resolve_right (fun hh => by simp [hq] at hh), fun _ m h => ⟨m, h, Nat.le_refl _, fun _ => rfl⟩, fun _ _ _ _ _ => rfl⟩ rfl (fun _ _ _ _ => rfl)
  have hgp : ∀ j i m, Ver (Hof outs) j = some m → t.gp j = some i → (∃ m', Ver H' i = some m') ∧ ∀ g, σ1 j = .pointer (some g) → σ' i = σ1 j := by
    intro j i m hV hg
    have hg : some (match ids[j]? with | some id => id | none => c + (j - ids.length)) = some i := hg
    obtain ⟨b', hb', _⟩ := Option.map_eq_some_iff.1 hV
    have hb' : outs[j]? = some b' := hb'
    have hjl : j < outs.length := (List.getElem?_eq_some_iff.1 hb').1
    cases hi : ids[j]? with
    | some id =>
      simp only [hi, Option.some.injEq] at hg
      subst hg
      obtain ⟨b, e1, e2⟩ := hbs j id hi
      exact ⟨⟨_, ver_of (Hin j id b b' hi e1 hb')⟩, fun g _ => Sin j id hi⟩
    | none =>
      simp only [hi, Option.some.injEq] at hg
      subst hg
      have hle : ids.length ≤ j := List.getElem?_eq_none_iff.1 hi
      exact ⟨⟨_, ver_of (Hnew j b' hle hb')⟩, fun g _ => Snew j hle hjl⟩
  have hgo : ∀ j ver i ver' m, Ver (Hof outs) j = some m → ver ≤ m → t.go j ver = some (i, ver') → ∃ m', Ver H' i = some m' ∧ ver' ≤ m' ∧ (ver' = m' → ver = m ∧ σ' i = σ1 j) := by
    intro j ver i ver' m hV hvm hg
    obtain ⟨b', hb', hbv⟩ := Option.map_eq_some_iff.1 hV
    have hb' : outs[j]? = some b' := hb'
    have hov' := hov j b' hb'
    have hjl : j < outs.length := (List.getElem?_eq_some_iff.1 hb').1
    have hg : (match ids[j]? with | some id => (match bs[j]? with | some b => (match b.isVar with | true => none | false => some (id, b.ver + ver)) | none => none) | none => some (c + (j - ids.length), 0)) = some (i, ver') := hg
    cases hi : ids[j]? with
    | some id =>
      obtain ⟨b, e1, e2⟩ := hbs j id hi
      simp only [hi, e1] at hg
      cases hbvar : b.isVar with
      | true => simp [hbvar] at hg
      | false =>
        simp only [hbvar, Option.some.injEq, Prod.mk.injEq] at hg
        obtain ⟨rfl, rfl⟩ := hg
        refine ⟨_, ver_of (Hin j id b b' hi e1 hb'), ?_, fun e => ⟨?_, Sin j id hi⟩⟩
        · rcases back_ver t b b' with ⟨_, _, h⟩ | h | h
          · omega
          · omega
          · rw [hbvar] at h; cases h.1
        · rcases back_ver t b b' with ⟨_, _, h⟩ | h | h
          · omega
          · have : b'.ver = 0 ∨ b'.isVar = false := by cases b' <;> first | exact .inl rfl | exact .inr rfl
            rcases this with h0 | h0
            · omega
            · have h2 : (back t b b').ver = b.ver + b'.ver := by unfold back; rw [hbvar, h0]; show (b'.tr t _).ver = _; rw [tr_ver, h0]; rfl
              omega
          · rw [hbvar] at h; cases h.1
    | none =>
      simp only [hi, Option.some.injEq, Prod.mk.injEq] at hg
      obtain ⟨rfl, rfl⟩ := hg
      have hle : ids.length ≤ j := List.getElem?_eq_none_iff.1 hi
      have := hov'.2 hle
      exact ⟨_, ver_of (Hnew j b' hle hb'), Nat.zero_le _, fun _ => ⟨by omega, Snew j hle hjl⟩⟩
  have main := rel.chgs (H' := H') (σ' := σ') (w' := w') I
    (fun id hI => Hoff id (fun h => hI (.inl h)) (fun h => hI (.inr (.inl h))) (fun q hq e => hI (.inr (.inr ⟨q, hq, e⟩))))
    (fun id hI => Soff id (fun h => hI (.inl h)) (fun h => hI (.inr (.inl h))))
    (by rw [relc.os, hw0]) (by rw [relc.tape, hw0]) (by rw [relc.output, hw0]) (by have := relc.size; rw [hw0] at this; exact this)
    (fun g hg hk => by
      have := relc.old g (by rw [hw0]; exact hg) (fun hm => by
        obtain ⟨id, hid, b, e1, e2, e3⟩ := m0own g hm
        exact hk id b (.inl hid) e1 e2 e3)
      rw [hw0] at this; exact this)
    (fun id b' g hI h1 h2 h3 => by
      obtain ⟨j, b0, ver, e1, e2, e3, e4, _⟩ := place id b' hI h1 h2
      rw [e4] at h3
      obtain ⟨f1, f2, _⟩ := relc.new j b0 g e1 e2 h3
      rw [hw0] at f2
      refine ⟨f1, f2.imp_right fun hm => ?_⟩
      obtain ⟨id0, hid0, b, q1, q2, q3⟩ := m0own g hm
      exact ⟨id0, b, .inl hid0, q1, q2, q3⟩)
    (fun id id' b b' g hne hI hI' h1 h2 l1 l2 k1 k2 => by
      obtain ⟨j, b0, ver, e1, e2, e3, e4, e5⟩ := place id b hI h1 l1
      obtain ⟨j', b0', ver', f1, f2, f3, f4, f5⟩ := place id' b' hI' h2 l2
      rw [e4] at k1
      rw [f4] at k2
      refine relc.ds j j' b0 b0' g (fun e => hne ?_) e1 f1 e2 f2 k1 k2
      subst e
      rcases e5 with e5 | ⟨e5, e6⟩ <;> rcases f5 with f5 | ⟨f5, f6⟩
      · rw [e5] at f5; injection f5
      · have := (List.getElem?_eq_some_iff.1 e5).1; omega
      · have := (List.getElem?_eq_some_iff.1 f5).1; omega
      · rw [e6, f6])
    (fun id b hI h1 => by
      rcases hI with hid | hid | ⟨q, hq, rfl⟩
      · obtain ⟨j, hj⟩ := List.getElem?_of_mem hid
        obtain ⟨b2, e1, e2⟩ := hbs j id hj
        rw [h1] at e2; injection e2 with e2; subst e2
        have hjl0 : j < ids.length := (List.getElem?_eq_some_iff.1 hj).1
        have hjl : j < outs.length := Nat.lt_of_lt_of_le hjl0 hol
        have hptr' : ∀ g, σ id = .pointer (some g) → σ' id = σ id := fun g hg => by
          rw [Sin j id hj, hptr j g hjl0 (by rw [hσc j id hj]; exact hg), hσc j id hj]
        refine ⟨_, Hin j id b outs[j] hj e1 (List.getElem?_eq_getElem hjl), ?_⟩
        rcases back_ver t b outs[j] with ⟨k1, k2, h⟩ | h | ⟨q1, q2, q3, q4, q5⟩
        · exact ⟨by omega, fun e => by rw [Sin j id hj, hkeep j outs[j] hjl0 (List.getElem?_eq_getElem hjl) (by omega) k2, hσc j id hj], hptr'⟩
        · exact ⟨by omega, fun e => by omega, hptr'⟩
        · refine ⟨by omega, fun _ => ?_, hptr'⟩
          cases b with
          | var cells =>
            obtain ⟨g, _, _, k1, _⟩ := rel.bl id _ h1
            exact hptr' _ k1
          | _ => simp [Blk.isVar] at q1
      · have := hn (id - c) (by omega)
        rw [show c + (id - c) = id by omega, h1] at this; cases this
      · obtain ⟨p, hp, e1, e2⟩ := Hdead q hq
        obtain ⟨b0, f1, f2, f3⟩ := hbor p hp
        rw [e1, f1] at h1
        injection h1 with h1; subst h1
        have hs : σ' q.1 = σ q.1 := by
          rw [e1]
          refine Soff p.1 (hni p hp) ?_
          rintro ⟨h4, h5⟩
          exact hcb (p.1 - c) (by omega) p hp (by omega)
        exact ⟨_, by rw [e1]; exact e2, (by show b0.ver ≤ p.2 + 1; omega), fun _ => hs, fun _ _ => hs⟩)
    (fun _ id b' hI h1 => by
      by_cases hl : b'.live
      · obtain ⟨j, b0, ver, e1, e2, e3, e4, _⟩ := place id b' hI h1 hl
        subst e3
        exact (hbM (fun hq => (hfl hq).2 b0 (List.mem_of_getElem? e1)) (relc.bl j b0 e1)).tr hM2 hgp hgo e4
      · cases b' with
        | dead v => trivial
        | _ => exact absurd trivial hl)
  exact ⟨σ', main, (hvM (fun hq => (hfl hq).1) hv).tr hM2 hgp hgo⟩
end
end Go.Proofs.Ythkdmemkjojmoaa.Ab
