/- The plain evaluator: regions are right, in every order. -/
import Derived.Test.YthkdmemkjojmoaaZD6
namespace Go.Proofs.Ythkdmemkjojmoaa.Ab
open Go

section
variable {P : Program} {F : Fr} {nt : Nat} {ops : Array Oper} {c0 : Nat}
/-- The records of a region's operations, in the order of the text. -/
def Chain (P : Program) (F : Fr) (nt : Nat) (ops : Array Oper) (c0 : Nat) : Nat → (Nat → AV) → (Nat → Option Blk) → List Rec → Prop
  | i, _, _, [] => i = ops.size
  | i, T, H, r :: rest => ∃ o, ops[i]? = some o ∧ LocOK P F nt ops i (c0 + 64 * i) o T H r ∧ r.dst = o.dst ∧ (∀ p ∈ r.wr, H p.1 ≠ none ∨ (c0 + 64 * i ≤ p.1 ∧ p.1 < c0 + 64 * i + 64)) ∧
      Chain P F nt ops c0 (i + 1) (putT T r.dst r.val) (ups H r.wr) rest
def endT (T : Nat → AV) : List Rec → Nat → AV
  | [] => T
  | r :: rest => endT (putT T r.dst r.val) rest
def endH (H : Nat → Option Blk) : List Rec → Nat → Option Blk
  | [] => H
  | r :: rest => endH (ups H r.wr) rest
theorem aops_spec {R : Type} {E : Env} (hE : E.tt = ttOf P) (hP : POK P) (hfs : ∀ f, Tells P f (E.fs f)) {k : St → List Rec → Option R} {r : R} : ∀ (l : List Oper) (i : Nat) (st : St) (rs : List Rec), ops.toList.drop i = l → i ≤ ops.size → aops E ops l (c0 + 64 * i) st rs k = some r →
    ∃ rest st', k st' (rs ++ rest) = some r ∧ Chain P F E.nt ops c0 i (aget st.tm) (hget st.hp) rest ∧ aget st'.tm = endT (aget st.tm) rest ∧ hget st'.hp = endH (hget st.hp) rest ∧ rest.length = l.length := by
  intro l
  induction l with
  | nil =>
    intro i st rs hd hi h
    refine ⟨[], st, by unfold aops at h; simpa using h, ?_, rfl, rfl, rfl⟩
    have : ops.toList.length ≤ i := List.drop_eq_nil_iff.1 hd
    simp only [Array.length_toList] at this
    show i = ops.size
    omega
  | cons o l ih =>
    intro i st rs hd hi h
    have hlt : i < ops.size := by
      rcases Nat.lt_or_ge i ops.size with h2 | h2
      · exact h2
      · rw [List.drop_of_length_le (by simpa using h2)] at hd; cases hd
    have hoi : ops[i]? = some o := by
      rw [← Array.getElem?_toList]
      have : (ops.toList.drop i)[0]? = some o := by rw [hd]; rfl
      simpa using this
    have hd2 : ops.toList.drop (i + 1) = l := by
      have := congrArg (List.drop 1) hd
      simpa [List.drop_drop] using this
    unfold aops at h
    obtain ⟨rc, st1, h1, h2, h3, h4, h5, h6, h7⟩ := step_spec (F := F) hE hP hfs hoi h
    rw [show c0 + 64 * i + 64 = c0 + 64 * (i + 1) by omega] at h1
    obtain ⟨rest, st', g1, g2, g3, g4, g5⟩ := ih (i + 1) st1 (rs ++ [rc]) hd2 (by omega) h1
    refine ⟨rc :: rest, st', by simpa using g1, ⟨o, hoi, h2, h6, h7, ?_⟩, by rw [g3, h3]; rfl, by rw [g4, h4]; rfl, by simp [g5]⟩
    rw [← h3, ← h4]
    exact g2

/-- In the order of the text. -/
theorem seq_ok {Q : Exit → Act → World → Prop} : ∀ (rest : List Rec) (i : Nat) (T : Nat → AV) (H : Nat → Option Blk) (σ : Nat → Value) (a : Act) (w : World), Chain P F nt ops c0 i T H rest → RelA F nt T H σ a w → (∀ id, H id ≠ none → id < c0 + 64 * i) →
    (∀ a' w' σ', RelA F nt (endT T rest) (endH H rest) σ' a' w' → (∀ id, endH H rest id ≠ none → id < c0 + 64 * ops.size) → Q .normal a' w') → wpOps P ops Q (List.range' i rest.length) a w := by
  intro rest
  induction rest with
  | nil =>
    intro i T H σ a w hc R hf hQ
    have hc : i = ops.size := hc
    exact hQ a w σ R (by rw [← hc]; exact hf)
  | cons r rest ih =>
    intro i T H σ a w hc R hf hQ
    obtain ⟨o, h1, h2, h3, h4, h5⟩ := hc
    simp only [List.length_cons, List.range'_succ]
    rw [wpOps_cons]
    refine h2 Q T H σ a w (fun _ _ => rfl) (fun _ _ => rfl) (fun j hj => ?_) R _ fun a' w' σ' R' => ?_
    · cases hh : H (c0 + 64 * i + j) with
      | none => rfl
      | some b => have := hf _ (by rw [hh]; simp); omega
    · refine ih (i + 1) _ _ σ' a' w' h5 R' (fun id hid => ?_) hQ
      by_cases ht : ∃ p ∈ r.wr, p.1 = id
      · obtain ⟨p, hp, rfl⟩ := ht
        rcases h4 p hp with h | h
        · have := hf _ h; omega
        · omega
      · rw [ups_off fun p hp e => ht ⟨p, hp, e⟩] at hid
        have := hf id hid
        omega

def dfl : Rec := ⟨none, .void, [], []⟩
theorem chain_get {T0 : Nat → AV} {H0 : Nat → Option Blk} {rs : List Rec} : ∀ (rest : List Rec) (i : Nat), rs.drop i = rest → i ≤ rs.length →
    Chain P F nt ops c0 i (SL (fun m T => putT T (rs.getD m dfl).dst (rs.getD m dfl).val) T0 i fun _ => true) (SL (fun m H => ups H (rs.getD m dfl).wr) H0 i fun _ => true) rest →
    (∀ j, i ≤ j → j < rs.length → ∃ o, ops[j]? = some o ∧ (rs.getD j dfl).dst = o.dst ∧
      LocOK P F nt ops j (c0 + 64 * j) o (SL (fun m T => putT T (rs.getD m dfl).dst (rs.getD m dfl).val) T0 j fun _ => true) (SL (fun m H => ups H (rs.getD m dfl).wr) H0 j fun _ => true) (rs.getD j dfl) ∧
      ∀ p ∈ (rs.getD j dfl).wr, SL (fun m H => ups H (rs.getD m dfl).wr) H0 j (fun _ => true) p.1 ≠ none ∨ (c0 + 64 * j ≤ p.1 ∧ p.1 < c0 + 64 * j + 64)) ∧
    endT (SL (fun m T => putT T (rs.getD m dfl).dst (rs.getD m dfl).val) T0 i fun _ => true) rest = SL (fun m T => putT T (rs.getD m dfl).dst (rs.getD m dfl).val) T0 rs.length (fun _ => true) ∧
    endH (SL (fun m H => ups H (rs.getD m dfl).wr) H0 i fun _ => true) rest = SL (fun m H => ups H (rs.getD m dfl).wr) H0 rs.length (fun _ => true) ∧ rs.length = ops.size := by
  intro rest
  induction rest with
  | nil =>
    intro i hd hi hc
    have hc : i = ops.size := hc
    have : rs.length ≤ i := List.drop_eq_nil_iff.1 hd
    have e : i = rs.length := by omega
    subst e
    exact ⟨fun j h1 h2 => by omega, rfl, rfl, hc⟩
  | cons r rest ih =>
    intro i hd hi hc
    have hlt : i < rs.length := by
      rcases Nat.lt_or_ge i rs.length with h2 | h2
      · exact h2
      · rw [List.drop_of_length_le h2] at hd; cases hd
    have hr : rs.getD i dfl = r := by
      rw [List.getD_eq_getElem?_getD]
      have : (rs.drop i)[0]? = some r := by rw [hd]; rfl
      have : rs[i]? = some r := by simpa using this
      rw [this]; rfl
    have hd2 : rs.drop (i + 1) = rest := by
      have := congrArg (List.drop 1) hd
      simpa [List.drop_drop] using this
    obtain ⟨o, h1, h2, h3, h4, h5⟩ := hc
    have eT : putT (SL (fun m T => putT T (rs.getD m dfl).dst (rs.getD m dfl).val) T0 i fun _ => true) r.dst r.val = SL (fun m T => putT T (rs.getD m dfl).dst (rs.getD m dfl).val) T0 (i + 1) fun _ => true := by
      simp only [SL, hr]
    have eH : ups (SL (fun m H => ups H (rs.getD m dfl).wr) H0 i fun _ => true) r.wr = SL (fun m H => ups H (rs.getD m dfl).wr) H0 (i + 1) fun _ => true := by
      simp only [SL, hr]
    rw [eT, eH] at h5
    obtain ⟨g1, g2, g3, g4⟩ := ih (i + 1) hd2 (by omega) h5
    refine ⟨fun j hj hj2 => ?_, by simp only [endT]; rw [eT]; exact g2, by simp only [endH]; rw [eH]; exact g3, g4⟩
    by_cases hji : j = i
    · subst hji
      rw [hr]
      exact ⟨o, h1, h3, h2, h4⟩
    · exact g1 j (by omega) hj2

/-- In any order. -/
theorem any_ok {Q : Exit → Act → World → Prop} {T0 : Nat → AV} {H0 : Nat → Option Blk} {rs : List Rec} (hc : Chain P F nt ops c0 0 T0 H0 rs) (hok : okAny ops rs = true) (hf0 : ∀ id, H0 id ≠ none → id < c0)
    (hQ : ∀ a' w' σ', RelA F nt (endT T0 rs) (endH H0 rs) σ' a' w' → (∀ id, endH H0 rs id ≠ none → id < c0 + 64 * ops.size) → Q .normal a' w') {σ : Nat → Value} {a : Act} {w : World} (R : RelA F nt T0 H0 σ a w) :
    wpAny P .any ops Q ops.size (Array.replicate ops.size false) a w := by
  let UT : Nat → (Nat → AV) → Nat → AV := fun m T => putT T (rs.getD m dfl).dst (rs.getD m dfl).val
  let UH : Nat → (Nat → Option Blk) → Nat → Option Blk := fun m H => ups H (rs.getD m dfl).wr
  obtain ⟨loc, eT, eH, hlen⟩ := chain_get (rs := rs) rs 0 (by simp) (Nat.zero_le _) hc
  have loc : ∀ j, j < ops.size → ∃ o, ops[j]? = some o ∧ (rs.getD j dfl).dst = o.dst ∧ LocOK P F nt ops j (c0 + 64 * j) o (SL UT T0 j fun _ => true) (SL UH H0 j fun _ => true) (rs.getD j dfl) ∧
      ∀ p ∈ (rs.getD j dfl).wr, SL UH H0 j (fun _ => true) p.1 ≠ none ∨ (c0 + 64 * j ≤ p.1 ∧ p.1 < c0 + 64 * j + 64) := fun j hj => loc j (Nat.zero_le _) (by omega)
  have eT : endT T0 rs = SL UT T0 ops.size fun _ => true := by rw [← hlen]; exact eT
  have eH : endH H0 rs = SL UH H0 ops.size fun _ => true := by rw [← hlen]; exact eH
  unfold okAny at hok
  simp only [Bool.and_eq_true] at hok
  obtain ⟨hfw, hind⟩ := hok
  have pair : ∀ i j, i < j → j < ops.size → (∃ m, (masks ops.toList [])[j]? = some m ∧ Nat.testBit m i = true) ∨ Free (tmpsOf ops (ops.getD i default)) (rs.getD i dfl) (tmpsOf ops (ops.getD j default)) (rs.getD j dfl) := by
    intro i j hij hj
    obtain ⟨h1, _, _⟩ := masks_get ops.toList [] j (Nat.zero_le _) (by simpa using hj)
    have zi : ∀ i, i < ops.size → ((ops.toList.map (tmpsOf ops)).zip rs)[i]? = some (tmpsOf ops (ops.getD i default), rs.getD i dfl) := by
      intro i hi
      have hi2 : i < rs.length := by omega
      have e : ops.getD i default = ops[i] := by simp [Array.getD, hi]
      rw [List.getElem?_zip_eq_some]
      refine ⟨?_, ?_⟩
      · rw [List.getElem?_map, Array.getElem?_toList, Array.getElem?_eq_getElem hi, e]; rfl
      · rw [List.getD_eq_getElem?_getD, List.getElem?_eq_getElem hi2]; rfl
    rcases indep_spec _ [] _ hind i j _ _ _ (zi i (by omega)) (by simpa using hij) (zi j hj) h1 with h | h
    · exact .inl ⟨_, h1, h⟩
    · exact .inr h
  -- what may not be there yet
  have hdom : ∀ j, j ≤ ops.size → ∀ id, SL UH H0 j (fun _ => true) id ≠ none → H0 id ≠ none ∨ ∃ m, m < j ∧ (c0 + 64 * m ≤ id ∧ id < c0 + 64 * m + 64) ∧ ∃ p ∈ (rs.getD m dfl).wr, p.1 = id := by
    intro j
    induction j with
    | zero => intro _ id h; exact .inl h
    | succ j ih =>
      intro hj id h
      have h : ups (SL UH H0 j fun _ => true) (rs.getD j dfl).wr id ≠ none := h
      by_cases ht : ∃ p ∈ (rs.getD j dfl).wr, p.1 = id
      · obtain ⟨p, hp, rfl⟩ := ht
        obtain ⟨o, _, _, _, h4⟩ := loc j (by omega)
        rcases h4 p hp with h4 | h4
        · exact (ih (by omega) _ h4).imp_right fun ⟨m, a1, a2, a3⟩ => ⟨m, by omega, a2, a3⟩
        · exact .inr ⟨j, by omega, h4, p, hp, rfl⟩
      · rw [ups_off fun p hp e => ht ⟨p, hp, e⟩] at h
        exact (ih (by omega) _ h).imp_right fun ⟨m, a1, a2, a3⟩ => ⟨m, by omega, a2, a3⟩
  have hend : ∀ id, endH H0 rs id ≠ none → id < c0 + 64 * ops.size := by
    intro id hid
    rw [eH] at hid
    rcases hdom ops.size (Nat.le_refl _) id hid with h | ⟨m, a1, a2, _⟩
    · have := hf0 id h; omega
    · omega
  have main : ∀ (fuel : Nat) (listed : Array Bool) (σ : Nat → Value) (a : Act) (w : World), listed.size = ops.size → (∀ (j : Nat) (o : Oper), ops[j]? = some o → listed.getD j false = true → ∀ e ∈ o.after, Region.binds .any e = true → listed.getD e.on false = true) →
      (listed.toList.countP fun b => !b) ≤ fuel → RelA F nt (SL UT T0 ops.size fun j => listed.getD j false) (SL UH H0 ops.size fun j => listed.getD j false) σ a w → wpAny P .any ops Q fuel listed a w := by
    intro fuel
    induction fuel with
    | zero =>
      intro listed σ a w hsz hcl hcnt R
      have hall : ∀ j, j < ops.size → listed.getD j false = true := by
        intro j hj
        have hj2 : j < listed.size := by omega
        have := List.countP_eq_zero.1 (by omega : (listed.toList.countP fun b => !b) = 0) listed[j] (by simp)
        simpa [Array.getD, hj2] using this
      refine ⟨?_, hQ a w σ ?_ hend⟩
      · unfold Region.ready
        rw [List.filter_eq_nil_iff]
        intro i hi
        have hi : i < ops.size := List.mem_range.1 hi
        have h := hall i hi
        have h2 : listed.getD i true = true := by
          have hj2 : i < listed.size := by omega
          simpa [Array.getD, hj2] using h
        simp [h2]
      · rw [eT, eH]
        have q1 : SL UT T0 ops.size (fun j => listed.getD j false) = SL UT T0 ops.size fun _ => true := funext fun k => SL_eq (chgT fun m => rs.getD m dfl) fun j hj _ => hall j hj
        have q2 : SL UH H0 ops.size (fun j => listed.getD j false) = SL UH H0 ops.size fun _ => true := funext fun k => SL_eq (chgH fun m => rs.getD m dfl) fun j hj _ => hall j hj
        rw [q1, q2] at R
        exact R
    | succ fuel ih =>
      intro listed σ a w hsz hcl hcnt R
      have closed := mask_closed (L := fun j => listed.getD j false) hfw hcl
      refine ⟨fun hr => ?_, fun i hi => ?_⟩
      · -- nothing is left
        have hall : ∀ j, j < ops.size → listed.getD j false = true := by
          intro j
          induction j using Nat.strongRecOn with
          | _ j ihj =>
            intro hj
            cases hl : listed.getD j false with
            | true => rfl
            | false =>
              exfalso
              have hj2 : j < listed.size := by omega
              have hl2 : listed.getD j true = false := by simpa [Array.getD, hj2] using hl
              have : j ∈ Region.ready .any ops listed := by
                unfold Region.ready
                refine List.mem_filter.2 ⟨List.mem_range.2 hj, ?_⟩
                rw [hl2, Array.getElem?_eq_getElem hj]
                simp only [Bool.not_false, Bool.true_and, Option.map_some, Option.getD_some]
                rw [Array.all_eq_true]
                intro x hx
                cases hb : Region.binds .any ops[j].after[x] with
                | false => rfl
                | true =>
                  have := forward_spec ops.toList 0 hfw j ops[j] (by simp [hj]) ops[j].after[x] (by simp) hb
                  simpa using ihj ops[j].after[x].on (by omega) (by omega)
              rw [hr] at this
              cases this
        refine hQ a w σ ?_ hend
        rw [eT, eH]
        have q1 : SL UT T0 ops.size (fun j => listed.getD j false) = SL UT T0 ops.size fun _ => true := funext fun k => SL_eq (chgT fun m => rs.getD m dfl) fun j hj _ => hall j hj
        have q2 : SL UH H0 ops.size (fun j => listed.getD j false) = SL UH H0 ops.size fun _ => true := funext fun k => SL_eq (chgH fun m => rs.getD m dfl) fun j hj _ => hall j hj
        rw [q1, q2] at R
        exact R
      · unfold Region.ready at hi
        obtain ⟨hi1, hi2⟩ := List.mem_filter.1 hi
        have hin : i < ops.size := List.mem_range.1 hi1
        have hin2 : i < listed.size := by omega
        simp only [Bool.and_eq_true, Bool.not_eq_true'] at hi2
        have hLi : listed.getD i false = false := by simpa [Array.getD, hin2] using hi2.1
        have hedges : ∀ e ∈ (ops[i]).after, Region.binds .any e = true → listed.getD e.on false = true := by
          have := hi2.2
          rw [Array.getElem?_eq_getElem hin] at this
          simp only [Option.map_some, Option.getD_some] at this
          rw [Array.all_eq_true] at this
          intro e he hb
          obtain ⟨x, hx, rfl⟩ := Array.mem_iff_getElem.1 he
          have := this x hx
          rw [hb] at this
          simpa using this
        have hoi : ops[i]? = some ops[i] := Array.getElem?_eq_getElem hin
        obtain ⟨o, h1, h2, h3, h4⟩ := loc i hin
        rw [hoi] at h1; injection h1 with h1; subst h1
        have before : ∀ j m, j < i → (masks ops.toList [])[i]? = some m → Nat.testBit m j = true → listed.getD j false = true := fun j m hj hm hb => closed i _ hoi hedges j m hm hb
        have behind : ∀ j m, i < j → j < ops.size → (masks ops.toList [])[j]? = some m → Nat.testBit m i = true → listed.getD j false = false := by
          intro j m hj hjn hm hb
          cases hl : listed.getD j false with
          | false => rfl
          | true =>
            have : listed.getD i false = true := closed j _ (Array.getElem?_eq_getElem hjn) (hcl j _ (Array.getElem?_eq_getElem hjn) hl) i m hm hb
            rw [hLi] at this; cases this
        have eo : ops.getD i default = ops[i] := by simp [Array.getD, hin]
        -- a place that it reads or writes: those that write it have come, if they are ahead, and not, if they are behind
        have sameH : ∀ id, ((∃ p ∈ (rs.getD i dfl).wr, p.1 = id) ∨ id ∈ (rs.getD i dfl).rd) → ∀ j, j < ops.size → (∃ p ∈ (rs.getD j dfl).wr, p.1 = id) → (j < i → listed.getD j false = true) ∧ (i < j → listed.getD j false = false) := by
          intro id hid j hjn ht
          obtain ⟨q, hq, hqe⟩ := ht
          refine ⟨fun hji => ?_, fun hij => ?_⟩
          · rcases pair j i hji hin with ⟨m, hm, hb⟩ | hfr
            · exact before j m hji hm hb
            · rcases hid with ⟨p, hp, hpe⟩ | hid
              · exact absurd (hqe.trans hpe.symm) (hfr.ww q hq p hp)
              · exact absurd hqe (hfr.wr q hq id hid)
          · rcases pair i j hij hjn with ⟨m, hm, hb⟩ | hfr
            · exact behind j m hij hjn hm hb
            · rcases hid with ⟨p, hp, hpe⟩ | hid
              · exact absurd (hpe.trans hqe.symm) (hfr.ww p hp q hq)
              · exact absurd hqe (hfr.rw q hq id hid)
        have sameT : ∀ t, ((rs.getD i dfl).dst = some t ∨ t ∈ tmpsOf ops ops[i]) → ∀ j, j < ops.size → (rs.getD j dfl).dst = some t → (j < i → listed.getD j false = true) ∧ (i < j → listed.getD j false = false) := by
          intro t htt j hjn ht
          refine ⟨fun hji => ?_, fun hij => ?_⟩
          · rcases pair j i hji hin with ⟨m, hm, hb⟩ | hfr
            · exact before j m hji hm hb
            · rw [eo] at hfr
              rcases htt with htt | htt
              · exact absurd htt (hfr.dd t ht)
              · exact absurd htt (hfr.dt t ht)
          · rcases pair i j hij hjn with ⟨m, hm, hb⟩ | hfr
            · exact behind j m hij hjn hm hb
            · rw [eo] at hfr
              rcases htt with htt | htt
              · exact absurd ht (hfr.dd t htt)
              · exact absurd htt (hfr.td t ht)
        have agreeH : ∀ id, ((∃ p ∈ (rs.getD i dfl).wr, p.1 = id) ∨ id ∈ (rs.getD i dfl).rd) → SL UH H0 ops.size (fun j => listed.getD j false) id = SL UH H0 i (fun _ => true) id := by
          intro id hid
          rw [SL_cut (m := i) (chgH fun m => rs.getD m dfl) (by omega) fun j h1 h2 h3 => by
            by_cases hji : j = i
            · subst hji; exact hLi
            · exact (sameH id hid j h2 h3).2 (by omega)]
          exact SL_eq (chgH fun m => rs.getD m dfl) fun j hj ht => (sameH id hid j (by omega) ht).1 hj
        have agreeT : ∀ t, ((rs.getD i dfl).dst = some t ∨ t ∈ tmpsOf ops ops[i]) → SL UT T0 ops.size (fun j => listed.getD j false) t = SL UT T0 i (fun _ => true) t := by
          intro t htt
          rw [SL_cut (m := i) (chgT fun m => rs.getD m dfl) (by omega) fun j h1 h2 h3 => by
            by_cases hji : j = i
            · subst hji; exact hLi
            · exact (sameT t htt j h2 h3).2 (by omega)]
          exact SL_eq (chgT fun m => rs.getD m dfl) fun j hj ht => (sameT t htt j (by omega) ht).1 hj
        have fresh : ∀ j, j < 64 → SL UH H0 ops.size (fun j => listed.getD j false) (c0 + 64 * i + j) = none := by
          intro j hj
          -- whoever has written there is behind i
          have none_of : ∀ m, m ≤ ops.size → SL UH H0 m (fun j => listed.getD j false) (c0 + 64 * i + j) = none := by
            intro m
            induction m with
            | zero =>
              intro _
              show H0 (c0 + 64 * i + j) = none
              cases hh : H0 (c0 + 64 * i + j) with
              | none => rfl
              | some b => have := hf0 _ (by rw [hh]; simp); omega
            | succ m ihm =>
              intro hm
              show (match listed.getD m false with | true => UH m (SL UH H0 m fun j => listed.getD j false) | false => SL UH H0 m fun j => listed.getD j false) (c0 + 64 * i + j) = none
              cases hlm : listed.getD m false with
              | false => exact ihm (by omega)
              | true =>
                show ups _ (rs.getD m dfl).wr (c0 + 64 * i + j) = none
                by_cases ht : ∃ p ∈ (rs.getD m dfl).wr, p.1 = c0 + 64 * i + j
                · exfalso
                  obtain ⟨p, hp, hpe⟩ := ht
                  obtain ⟨_, _, _, _, hw⟩ := loc m (by omega)
                  rcases hw p hp with hw | hw
                  · rcases hdom m (by omega) p.1 hw with h5 | ⟨m2, b1, b2, b3⟩
                    · have := hf0 _ h5; omega
                    · have hm2 : m2 = i := by omega
                      subst hm2
                      have := (sameH (c0 + 64 * m2 + j) (.inl (by obtain ⟨q, hq, hqe⟩ := b3; exact ⟨q, hq, by omega⟩)) m (by omega) ⟨p, hp, hpe⟩).2 b1
                      rw [hlm] at this; cases this
                  · have : m = i := by omega
                    subst this
                    rw [hLi] at hlm; cases hlm
                · rw [ups_off fun p hp e => ht ⟨p, hp, e⟩]
                  exact ihm (by omega)
          exact none_of ops.size (Nat.le_refl _)
        refine h3 Q _ _ σ a w (fun t ht => agreeT t (.inr ht)) (fun id hid => agreeH id (.inr hid)) fresh R _ fun a' w' σ' R' => ?_
        have hL'i : (listed.setIfInBounds i true).getD i false = true := by simp [Array.getD, hin2]
        have hL'o : ∀ j, j ≠ i → (listed.setIfInBounds i true).getD j false = listed.getD j false := by
          intro j hj
          rw [Array.getD_eq_getD_getElem?, Array.getElem?_setIfInBounds_ne (Ne.symm hj), ← Array.getD_eq_getD_getElem?]
        have eT2 : putT (SL UT T0 ops.size fun j => listed.getD j false) (rs.getD i dfl).dst (rs.getD i dfl).val = SL UT T0 ops.size fun j => (listed.setIfInBounds i true).getD j false := by
          funext t
          exact (SL_put (chgT fun m => rs.getD m dfl) hin hLi hL'i hL'o fun ht j hj hjn htj => (sameT t (.inl ht) j hjn htj).2 hj).symm
        have eH2 : ups (SL UH H0 ops.size fun j => listed.getD j false) (rs.getD i dfl).wr = SL UH H0 ops.size fun j => (listed.setIfInBounds i true).getD j false := by
          funext id
          exact (SL_put (chgH fun m => rs.getD m dfl) hin hLi hL'i hL'o fun ht j hj hjn htj => (sameH id (.inl ht) j hjn htj).2 hj).symm
        rw [eT2, eH2] at R'
        refine ih _ σ' a' w' (by simpa using hsz) (fun j o hj hl e he hb => ?_) ?_ R'
        · by_cases hji : j = i
          · subst hji
            rw [hoi] at hj; injection hj with hj; subst hj
            have := hedges e he hb
            by_cases hei : e.on = j
            · rw [hei]; exact hL'i
            · rw [hL'o _ hei]; exact this
          · rw [hL'o j hji] at hl
            have := hcl j o hj hl e he hb
            by_cases hei : e.on = i
            · rw [hei]; exact hL'i
            · rw [hL'o _ hei]; exact this
        · have e1 : (listed.setIfInBounds i true).toList = listed.toList.set i true := by simp
          rw [e1]
          have hlt : i < listed.toList.length := by simpa using hin2
          have hbi : listed.toList[i] = false := by
            have := hLi
            simpa [Array.getD, hin2] using this
          have := List.countP_set (p := fun b => !b) (l := listed.toList) (i := i) (a := true) hlt
          rw [this]
          simp only [hbi, Bool.not_false, Bool.not_true, if_true, Bool.false_eq_true, if_false]
          omega
  refine main ops.size _ σ a w (by simp) (fun j o _ hl => ?_) (by have := List.countP_le_length (p := fun b => !b) (l := (Array.replicate ops.size false).toList); simpa using this) ?_
  · exfalso
    rw [Array.getD_eq_getD_getElem?, Array.getElem?_replicate] at hl
    split at hl <;> cases hl
  · have hl0 : ∀ j, (Array.replicate ops.size false).getD j false = false := by
      intro j
      rw [Array.getD_eq_getD_getElem?, Array.getElem?_replicate]
      split <;> rfl
    have q1 : SL UT T0 ops.size (fun j => (Array.replicate ops.size false).getD j false) = T0 := by
      funext k
      rw [SL_cut (m := 0) (chgT fun m => rs.getD m dfl) (Nat.zero_le _) fun j _ _ _ => hl0 j]
      rfl
    have q2 : SL UH H0 ops.size (fun j => (Array.replicate ops.size false).getD j false) = H0 := by
      funext k
      rw [SL_cut (m := 0) (chgH fun m => rs.getD m dfl) (Nat.zero_le _) fun j _ _ _ => hl0 j]
      rfl
    rw [q1, q2]
    exact R
end
end Go.Proofs.Ythkdmemkjojmoaa.Ab
