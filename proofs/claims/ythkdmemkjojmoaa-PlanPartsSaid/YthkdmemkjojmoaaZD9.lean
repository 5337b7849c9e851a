/- The plain evaluator: a function's run is right. -/
import Derived.Test.YthkdmemkjojmoaaZD8
namespace Go.Proofs.Ythkdmemkjojmoaa.Ab
open Go

theorem hget_number : ∀ (bs : List Blk) (c id : Nat), hget (number c bs) id = if c ≤ id then bs[id - c]? else none := by
  intro bs
  induction bs with
  | nil => intro c id; simp [number, hget]
  | cons b bs ih =>
    intro c id
    simp only [number, hget]
    cases hb : Nat.beq c id with
    | true => obtain rfl := Nat.eq_of_beq_eq_true hb; simp
    | false =>
      have hne : c ≠ id := fun e => by rw [e, Nat.beq_refl] at hb; cases hb
      simp only
      rw [ih]
      by_cases h : c ≤ id
      · rw [if_pos (by omega), if_pos h, show id - c = (id - (c + 1)) + 1 by omega]
        simp
      · rw [if_neg (by omega), if_neg h]
theorem aget_args : ∀ (vs : List AV) (i t : Nat), aget (args i vs) t = if i ≤ t then vs.getD (t - i) .undef else .undef := by
  intro vs
  induction vs with
  | nil => intro i t; simp [args, aget]
  | cons v vs ih =>
    intro i t
    simp only [args, aget]
    cases hb : Nat.beq i t with
    | true => obtain rfl := Nat.eq_of_beq_eq_true hb; simp
    | false =>
      have hne : i ≠ t := fun e => by rw [e, Nat.beq_refl] at hb; cases hb
      simp only
      rw [ih]
      by_cases h : i ≤ t
      · rw [if_pos (by omega), if_pos h, show t - i = (t - (i + 1)) + 1 by omega]
        simp
      · rw [if_neg (by omega), if_neg h]

section
variable {P : Program} {F : Fr} {nt : Nat}
def resOf (tmps : Array Value) : ResultVar → Go.Sem Value
  | .tmp t => pure (tmps.getD t Go.undef)
  | .cell b t => do loadVar t (← asAddr (tmps.getD b Go.undef))
theorem results_eq (fn : Func) (tmps : Array Value) : results fn tmps = (do let vs ← fn.results.mapM (resOf tmps); pure (if h : vs.size = 1 then vs[0] else .tuple vs)) := by
  unfold results
  congr 1
theorem getRes_ok {E : Env} (hE : E.tt = ttOf P) {st : St} {σ : Nat → Value} {a : Act} {w : World} (R : RelA F nt (aget st.tm) (hget st.hp) σ a w) : ∀ (rv : List ResultVar) (vs : List AV), getRes E st rv = some vs →
    ∃ us : List Value, (rv.mapM (resOf a.tmps)).run P w = .ok us w ∧ us.length = vs.length ∧
      ∀ j, j < vs.length → VR w (Mut F (hget st.hp) σ) σ (Ver (hget st.hp)) (vs.getD j .undef) (us.getD j Go.undef) := by
  intro rv
  induction rv with
  | nil =>
    intro vs h
    simp only [getRes, Option.some.injEq] at h
    subst h
    exact ⟨[], by simp, rfl, fun j hj => by simp at hj⟩
  | cons x rv ih =>
    intro vs h
    cases x with
    | tmp t =>
      unfold getRes at h
      cases hr : getRes E st rv with
      | none => simp [hr] at h
      | some vs' =>
        simp only [hr, Option.some.injEq] at h
        subst h
        obtain ⟨us, h1, h2, h3⟩ := ih vs' hr
        refine ⟨a.tmps.getD t Go.undef :: us, by rw [List.mapM_cons]; simp only [resOf, Sem.run_bind, Sem.run_pure, Result.andThen_ok, h1], by simp [h2], fun j hj => ?_⟩
        cases j with
        | zero => exact R.tm t
        | succ j => simpa using h3 j (by simpa using hj)
    | cell b T =>
      unfold getRes at h
      cases hb : aget st.tm b with
      | ptr id off =>
        cases ht : E.tt T with
        | none => simp [hb, ht] at h
        | some ti =>
          simp only [hb, ht] at h
          cases hh : hget st.hp id with
          | none => simp [hh] at h
          | some bk =>
            cases bk with
            | var cells =>
              simp only [hh] at h
              cases hp : apart ti cells off with
              | none => simp [hp] at h
              | some v =>
                simp only [hp] at h
                cases hr : getRes E st rv with
                | none => simp [hr] at h
                | some vs' =>
                  simp only [hr, Option.some.injEq] at h
                  subst h
                  obtain ⟨us, h1, h2, h3⟩ := ih vs' hr
                  rw [hE] at ht
                  have hb2 := R.tm b
                  rw [hb] at hb2
                  obtain ⟨g, k1, k2, _⟩ := hb2.ptr_inv
                  obtain ⟨g', T', ws, q1, q2, q3, q4⟩ := (R.rel.bl id _ hh).var_cells
                  rw [k1] at q1
                  injection q1 with q1; injection q1 with q1; injection q1 with q1
                  subst q1
                  obtain ⟨u, e1, e2⟩ := apart_rel (P := P) ht hp g 0 (fun j => ws.getD j Go.undef) (fun j hj => ⟨by rw [Nat.zero_add]; exact (q4 j hj).1, (q4 j hj).2.1⟩)
                  rw [Nat.zero_add] at e1
                  have e3 : (loadVar T ⟨g, off, none⟩).run P w = .ok u w := by
                    simpa [Instr.loadAt, Instr.sureAddr] using e1
                  have hA : (asAddr (a.tmps.getD b Go.undef)).run P w = .ok ⟨g, off, none⟩ w := by rw [k2]; rfl
                  refine ⟨u :: us, by rw [List.mapM_cons]; simp only [resOf, Sem.run_bind, hA, Sem.run_pure, Result.andThen_ok, e3, h1], by simp [h2], fun j hj => ?_⟩
                  cases j with
                  | zero => exact e2
                  | succ j => simpa using h3 j (by simpa using hj)
            | _ => simp [hh] at h
      | _ => simp [hb] at h
theorem results_ok {E : Env} (hE : E.tt = ttOf P) {fn : Func} {st : St} {σ : Nat → Value} {a : Act} {w : World} (R : RelA F nt (aget st.tm) (hget st.hp) σ a w) {vs : List AV} (h : getRes E st fn.results.toList = some vs) :
    ∃ u, (results fn a.tmps).run P w = .ok u w ∧ VR w (Mut F (hget st.hp) σ) σ (Ver (hget st.hp)) (pack vs) u := by
  obtain ⟨us, h1, h2, h3⟩ := getRes_ok hE R fn.results.toList vs h
  rw [results_eq, Array.mapM_eq_mapM_toList]
  simp only [Sem.run_bind, Sem.run_map, h1, Result.andThen_ok, Sem.run_pure]
  by_cases h4 : us.toArray.size = 1
  · have h5 : us.length = 1 := by simpa using h4
    obtain ⟨u, rfl⟩ := List.length_eq_one_iff.1 h5
    obtain ⟨v, rfl⟩ := List.length_eq_one_iff.1 (show vs.length = 1 by omega)
    refine ⟨u, by simp, ?_⟩
    exact h3 0 (by simp)
  · refine ⟨.tuple us.toArray, by rw [dif_neg h4], ?_⟩
    have hp : pack vs = .tup vs := by
      cases vs with
      | nil => rfl
      | cons v vs =>
        cases vs with
        | nil => simp at h2 h4; omega
        | cons v2 vs => rfl
    rw [hp]
    refine .tup vs us.toArray (by simp [h2]) fun j hj => ?_
    have := h3 j hj
    rw [List.getD_eq_getElem?_getD] at this
    rw [Array.getD_eq_getD_getElem?, List.getElem?_toArray]
    rwa [List.getD_eq_getElem?_getD] at this

theorem expBlk_spec {kv : Nat → Bool} {m : Nat} {t : Tr} {h : List (Nat × Blk)} : ∀ {ids : List Nat} {bs : List Blk} {i0 : Nat}, expBlk kv m t h i0 ids = some bs → bs.length = ids.length ∧ ∀ (j id : Nat), ids[j]? = some id → ∃ b, hget h id = some b ∧ bs[j]? = some (b.tr t (expV (kv (i0 + j)) m (i0 + j) b.ver)) := by
  intro ids
  induction ids with
  | nil => intro bs i0 he; simp only [expBlk, Option.some.injEq] at he; subst he; exact ⟨rfl, fun j id hj => by simp at hj⟩
  | cons i ids ih =>
    intro bs i0 he
    unfold expBlk at he
    cases hb : hget h i with
    | none => simp [hb] at he
    | some b =>
      simp only [hb] at he
      cases hr : expBlk kv m t h (i0 + 1) ids with
      | none => simp [hr] at he
      | some bs' =>
        simp only [hr, Option.some.injEq] at he
        subst he
        obtain ⟨h1, h2⟩ := ih hr
        refine ⟨by simp [h1], fun j id hj => ?_⟩
        cases j with
        | zero => simp at hj; subst hj; exact ⟨b, hb, rfl⟩
        | succ j =>
          obtain ⟨b', e1, e2⟩ := h2 j id (by simpa using hj)
          exact ⟨b', e1, by rw [show i0 + (j + 1) = i0 + 1 + j by omega]; simpa using e2⟩
theorem addNew_pre {ids : List Nat} {y : Nat} : ∃ l, addNew ids y = ids ++ l := by
  unfold addNew
  cases idx ids y with
  | some i => exact ⟨[], by simp⟩
  | none => exact ⟨[y], rfl⟩
theorem fold_pre : ∀ (l ids : List Nat), ∃ m, l.foldl addNew ids = ids ++ m := by
  intro l
  induction l with
  | nil => intro ids; exact ⟨[], by simp⟩
  | cons y l ih =>
    intro ids
    obtain ⟨m1, h1⟩ := addNew_pre (ids := ids) (y := y)
    obtain ⟨m2, h2⟩ := ih (addNew ids y)
    exact ⟨m1 ++ m2, by rw [List.foldl_cons, h2, h1, List.append_assoc]⟩

/-- What a function's run gives back. -/
theorem finish_ok {E : Env} (hE : E.tt = ttOf P) {fn : Func} {m : Nat} {st : St} {x : AV × List Blk} (h : afinish E fn.results.toList m st = some x) (hmm : F.mm = m) (hkv : E.mm.isSome = true → F.kv) {σ : Nat → Value} {a : Act} {w : World} (R : RelS F nt st σ a w) :
    ∃ v σ', (results fn a.tmps).run P w = .ok v w ∧ RelH F (Hof x.2) σ' w ∧ VR w (Mut F (Hof x.2) σ') σ' (Ver (Hof x.2)) x.1 v ∧ m ≤ x.2.length ∧ (∀ (j : Nat) b, x.2[j]? = some b → b.ver ≤ 1 ∧ (m ≤ j → b.ver = 0)) ∧ (∀ id g, id < m → F.s0 id = .pointer (some g) → σ' id = F.s0 id) ∧
      ∀ (id : Nat) b, id < m → x.2[id]? = some b → b.ver = 0 → b.isVar = false → σ' id = F.s0 id := by
  unfold afinish at h
  cases hg : getRes E st fn.results.toList with
  | none => simp [hg] at h
  | some vs =>
    simp only [hg] at h
    obtain ⟨u, r1, r2⟩ := results_ok (P := P) hE R.ra hg
    obtain ⟨l1, hl1⟩ := fold_pre (AV.ptrsL vs ++ AV.ownsL vs) (List.range m)
    have hnd0 : ((AV.ptrsL vs ++ AV.ownsL vs).foldl addNew (List.range m)).Nodup := fold_nodup _ _ List.nodup_range
    generalize (AV.ptrsL vs ++ AV.ownsL vs).foldl addNew (List.range m) = ids0 at h hl1 hnd0
    have more : ∀ ids, ids.Nodup → (∃ l, ids = List.range m ++ l) → (moreIds st.hp ids).Nodup ∧ ∃ l, moreIds st.hp ids = List.range m ++ l := by
      rintro ids hn ⟨l, rfl⟩
      refine ⟨fold_nodup _ _ hn, ?_⟩
      obtain ⟨l2, h2⟩ := fold_pre ((List.range m ++ l).flatMap fun id => match hget st.hp id with | some b => Blk.owns b ++ Blk.ptrs b | none => []) (List.range m ++ l)
      have h3 : moreIds st.hp (List.range m ++ l) = List.range m ++ l ++ l2 := h2
      exact ⟨l ++ l2, by rw [h3, List.append_assoc]⟩
    obtain ⟨n1, p1⟩ := more ids0 hnd0 ⟨l1, hl1⟩
    obtain ⟨hnd, l, hpre⟩ := more _ n1 p1
    generalize moreIds st.hp (moreIds st.hp ids0) = ids at h hnd hpre
    cases he : expBlk (kvOf E) m (expTr (kvOf E) m ids st.hp) st.hp 0 ids with
    | none => simp [he] at h
    | some bs =>
      simp only [he, Option.some.injEq] at h
      subst h
      obtain ⟨hbl, hbs⟩ := expBlk_spec he
      have rel := R.ra.rel
      let σ' : Nat → Value := fun j => σ (ids.getD j 0)
      have hσ : ∀ (j id : Nat), ids[j]? = some id → σ' j = σ id := fun j id hj => by
        show σ (ids.getD j 0) = _
        rw [List.getD_eq_getElem?_getD, hj]; rfl
      have hin : ∀ (j : Nat) b', Hof bs j = some b' → ∃ (id : Nat) (b : Blk), ids[j]? = some id ∧ hget st.hp id = some b ∧ b' = b.tr (expTr (kvOf E) m ids st.hp) (expV (kvOf E j) m j b.ver) := by
        intro j b' h
        have h : bs[j]? = some b' := h
        have hj : j < ids.length := by rw [← hbl]; exact (List.getElem?_eq_some_iff.1 h).1
        obtain ⟨b, e1, e2⟩ := hbs j ids[j] (List.getElem?_eq_getElem hj)
        rw [h, Nat.zero_add] at e2; injection e2 with e2
        exact ⟨ids[j], b, List.getElem?_eq_getElem hj, e1, e2⟩
      have hM : ∀ g, Mut F (Hof bs) σ' g → Mut F (hget st.hp) σ g := by
        rintro g (h | ⟨j, b', h1, h2, h3⟩)
        · exact .inl h
        · obtain ⟨id, b, e1, e2, rfl⟩ := hin j b' h1
          exact .inr ⟨id, b, e2, tr_live.1 h2, by rw [← hσ j id e1]; exact h3⟩
      have hp : ∀ id i v, Ver (hget st.hp) id = some v → (expTr (kvOf E) m ids st.hp).gp id = some i → (∃ m', Ver (Hof bs) i = some m') ∧ ∀ g, σ id = .pointer (some g) → σ' i = σ id := by
        intro id i v _ hg
        have hi := idx_some hg
        obtain ⟨b, e1, e2⟩ := hbs i id hi
        exact ⟨⟨_, ver_of e2⟩, fun _ _ => hσ i id hi⟩
      have ho : ∀ id ver i ver' v, Ver (hget st.hp) id = some v → ver ≤ v → (expTr (kvOf E) m ids st.hp).go id ver = some (i, ver') → ∃ m', Ver (Hof bs) i = some m' ∧ ver' ≤ m' ∧ (ver' = m' → ver = v ∧ σ' i = σ id) := by
        intro id ver i ver' v hV _ hg
        have hg : (match idx ids id with | some j => (match hget st.hp id with | some b => (match Nat.beq ver b.ver && !b.isVar with | true => some (j, expV (kvOf E j) m j ver) | false => none) | none => none) | none => none) = some (i, ver') := hg
        cases hi : idx ids id with
        | none => rw [hi] at hg; cases hg
        | some j =>
          rw [hi] at hg
          obtain ⟨b, hb2, hb3⟩ := Option.map_eq_some_iff.1 hV
          simp only [hb2] at hg
          cases hq : (Nat.beq ver b.ver && !b.isVar) with
          | false => rw [hq] at hg; cases hg
          | true =>
            rw [hq] at hg
            simp only [Option.some.injEq, Prod.mk.injEq] at hg
            obtain ⟨rfl, rfl⟩ := hg
            have hi := idx_some hi
            obtain ⟨b2, e1, e2⟩ := hbs j id hi
            rw [Bool.and_eq_true] at hq
            have hv := Nat.eq_of_beq_eq_true hq.1
            rw [hb2] at e1
            injection e1 with e1
            subst e1
            have hn : b.isVar = false := by cases h : b.isVar <;> simp [h] at hq; rfl
            refine ⟨_, ver_of e2, ?_, fun _ => ⟨by omega, hσ j id hi⟩⟩
            rw [tr_ver, hn, Nat.zero_add, hv]; exact Nat.le_refl _
      refine ⟨u, σ', r1, ⟨rel.os, rel.tape, rel.output, rel.size, rel.old, fun j b' h => ?_, fun j j' b b' g hne h1 h2 q1 q2 k1 k2 => ?_, fun j b' g h1 h2 h3 => ?_, rel.mxl⟩, r2.tr hM hp ho, ?_, fun j b hb => ?_, fun id g hid hs => ?_, fun id b hid hb h0 hn => ?_⟩
      · obtain ⟨id, b, e1, e2, rfl⟩ := hin j b' h
        exact (rel.bl id b e2).tr hM hp ho (hσ j id e1)
      · obtain ⟨id, b0, e1, e2, rfl⟩ := hin j b h1
        obtain ⟨id', b0', f1, f2, rfl⟩ := hin j' b' h2
        rw [hσ j id e1] at k1
        rw [hσ j' id' f1] at k2
        refine rel.ds id id' b0 b0' g (fun e => hne ?_) e2 f2 (tr_live.1 q1) (tr_live.1 q2) k1 k2
        subst e
        have := idx_nodup hnd e1
        rw [idx_nodup hnd f1] at this
        injection this with this; exact this.symm
      · obtain ⟨id, b, e1, e2, rfl⟩ := hin j b' h1
        rw [hσ j id e1] at h3
        exact rel.new id b g e2 (tr_live.1 h2) h3
      · rw [hbl, hpre]; simp
      · obtain ⟨id, b0, e1, e2, rfl⟩ := hin j b hb
        rw [tr_ver]
        refine ⟨?_, fun hj => ?_⟩
        · split
          · omega
          · unfold expV
            repeat' split
            all_goals omega
        · split
          · rfl
          · unfold expV
            rw [show Nat.blt j m = false from by
              cases h : Nat.blt j m with
              | false => rfl
              | true => exact absurd (Nat.le_of_ble_eq_true h) (by omega)]
      · have hj : ids[id]? = some id := by
          rw [hpre, List.getElem?_append_left (by simpa using hid), List.getElem?_range hid]
        rw [hσ id id hj]
        exact (R.ra.pt id g (by omega) hs).1
      · have hj : ids[id]? = some id := by
          rw [hpre, List.getElem?_append_left (by simpa using hid), List.getElem?_range hid]
        obtain ⟨id', b0, e1, e2, rfl⟩ := hin id b hb
        rw [hj] at e1
        injection e1 with e1
        subst e1
        rw [tr_isVar] at hn
        rw [tr_ver, hn] at h0
        have h0 : expV (kvOf E id) m id b0.ver = 0 := h0
        unfold expV at h0
        rw [show Nat.blt id m = true from Nat.ble_eq_true_of_le (by omega)] at h0
        rw [hσ id id hj]
        obtain ⟨v, k1, k2⟩ := R.ra.kp id (by omega)
        rw [ver_of e2] at k1
        injection k1 with k1
        cases hs : kvOf E id with
        | false => rw [hs] at h0; cases h0
        | true =>
          have hs' : E.mm.isSome = true := by
            unfold kvOf at hs
            cases he : E.mm with
            | none => rw [he] at hs; cases hs
            | some _ => rfl
          rw [hs] at h0
          cases hv : b0.ver with
          | zero => exact k2 (by omega) (hkv hs')
          | succ _ => rw [hv] at h0; cases h0

/-- The theorem of the evaluator. -/
theorem arun_tells {E : Env} (hE : E.tt = ttOf P) (hP : POK P) (hfs : ∀ f, Tells P f (E.fs f)) {f : FuncId} {fn : Func} (hf : P.funcs[f]? = some fn) (hl : ∀ c, fn.body = some c → LoopsOK { E with nt := fn.ntmps } c) :
    Tells P f fun xs ins => some (runAns E fn xs ins) := by
  intro xs ins r x hr hx
  injection hr with hr
  subst hr
  have hx : arun E fn xs ins = some x := hx
  unfold arun at hx
  cases hb : fn.body with
  | none => simp [hb] at hx
  | some c =>
    simp only [hb] at hx
    cases hle : Nat.ble xs.length fn.ntmps with
    | false => simp [hle] at hx
    | true =>
      simp only [hle] at hx
      have hle := Nat.le_of_ble_eq_true hle
      have hmm : ∀ m, E.mm = some m → ins.length ≤ m := by
        intro m hm
        rw [hm] at hx
        cases hb : Nat.beq ins.length m with
        | true => exact Nat.le_of_eq (Nat.eq_of_beq_eq_true hb)
        | false => simp [hb] at hx
      replace hx : aexec { E with nt := fn.ntmps } c ⟨args 0 xs, number 0 ins, ins.length⟩ (fun | .normal, st => afinish E fn.results.toList ins.length (doPre (E.pre 2000000) st) | .ret, st => afinish E fn.results.toList ins.length (doPre (E.pre 2000000) st) | _, _ => none) = some x := by
        cases hm : E.mm with
        | none => rw [hm] at hx; exact hx
        | some m =>
          rw [hm] at hx
          cases hb : Nat.beq ins.length m with
          | true => simp only [hb] at hx; exact hx
          | false => simp [hb] at hx
      refine ⟨⟨fn, hf, by simp [hb]⟩, fun F σ w vs hw0 hm0 rel hvl hv => ?_⟩
      let F' : Fr := { F with s0 := σ, mm := ins.length, kv := E.mm.isSome = true }
      have rel' : RelH F' (Hof ins) σ w := ⟨rel.os, rel.tape, rel.output, rel.size, rel.old, rel.bl, rel.ds, rel.new, rel.mxl⟩
      obtain ⟨ax, st', h1, _, h2⟩ := exec_ok (F := F') (E := { E with nt := fn.ntmps }) hE hP hfs hmm (fun h => h) c (hl c hb) _ _ x (show F'.mm ≤ ins.length from Nat.le_refl _) hx
      have hH : hget (number 0 ins) = Hof ins := by
        funext id
        rw [hget_number, if_pos (Nat.zero_le _)]
        rfl
      refine calls_of_wp hf hb (h2 σ _ w _ ⟨⟨?_, fun t => ?_, rfl, by simp; omega, fun id g hid hs => ⟨rfl, ?_⟩, fun id hid => ?_⟩, fun id hid => ?_, Nat.le_refl _⟩ fun a' w' σ' R' => ?_)
      · dsimp only
        rw [hH]
        exact rel'
      · dsimp only
        rw [hH, aget_args, if_pos (Nat.zero_le _), Nat.sub_zero]
        by_cases ht : t < xs.length
        · have e : (vs ++ Array.replicate (fn.ntmps - vs.size) Go.undef).getD t Go.undef = vs.getD t Go.undef := by
            rw [Array.getD_eq_getD_getElem?, Array.getElem?_append_left (by omega), ← Array.getD_eq_getD_getElem?]
          rw [e]
          exact hv t ht
        · rw [List.getD_eq_getElem?_getD, List.getElem?_eq_none (by omega)]
          exact .pure (.undef _)
      · dsimp only
        rw [hH]
        have hid : id < ins.length := hid
        exact ⟨_, ver_of (show ins[id]? = _ from List.getElem?_eq_getElem hid)⟩
      · dsimp only
        rw [hH]
        have hid : id < ins.length := hid
        exact ⟨_, ver_of (show ins[id]? = _ from List.getElem?_eq_getElem hid), fun _ _ => rfl⟩
      · dsimp only at hid ⊢
        rw [hH] at hid
        rcases Nat.lt_or_ge id ins.length with h | h
        · exact h
        · exact absurd (List.getElem?_eq_none h) hid
      · have fin : afinish E fn.results.toList ins.length (doPre (E.pre 2000000) st') = some x → ∃ v, (results fn a'.tmps).run P w' = .ok v w' ∧ ∃ v' σ'', Ending.returned v = .returned v' ∧ RelH F (Hof x.2) σ'' w' ∧ VR w' (Mut F (Hof x.2) σ'') σ'' (Ver (Hof x.2)) x.1 v' ∧
            ins.length ≤ x.2.length ∧ (∀ (j : Nat) b, x.2[j]? = some b → b.ver ≤ 1 ∧ (ins.length ≤ j → b.ver = 0)) ∧ (∀ id g, id < ins.length → σ id = .pointer (some g) → σ'' id = σ id) ∧
            ∀ (id : Nat) b, id < ins.length → x.2[id]? = some b → b.ver = 0 → b.isVar = false → σ'' id = σ id := by
          intro hfin
          obtain ⟨v, σ'', q1, q2, q3, q4, q5, q6⟩ := finish_ok (P := P) (F := F') hE hfin rfl (fun h => h) (doPre_ok _ R')
          exact ⟨v, q1, v, σ'', rfl, ⟨q2.os, q2.tape, q2.output, q2.size, q2.old, q2.bl, q2.ds, q2.new, q2.mxl⟩, q3, q4, q5, q6⟩
        cases ax with
        | normal =>
          obtain ⟨v, q1, q2⟩ := fin h1
          exact ⟨R'.ra.df, v, q1, q2⟩
        | ret =>
          obtain ⟨v, q1, q2⟩ := fin h1
          exact ⟨R'.ra.df, v, q1, q2⟩
        | exit id => cases h1
theorem Tells.none_ (f : FuncId) : Tells P f fun _ _ => none := fun _ _ _ _ h => by cases h
theorem loops_none {E : Env} (h : ∀ n, E.loops n = none) : ∀ c, LoopsOK E c := by
  intro c
  induction c with
  | seq a b iha ihb => exact ⟨iha, ihb⟩
  | cond c a b iha ihb => exact ⟨iha, ihb⟩
  | block id a ih => exact ih
  | loop a ih => exact ⟨ih, fun f hf => by rw [h] at hf; cases hf⟩
  | _ => trivial
/-- Callees that are run themselves. -/
theorem envN_tells (hP : POK P) (fuel : Nat) : ∀ n f, Tells P f ((envN P fuel n).fs f) := by
  intro n
  induction n with
  | zero => intro f; exact Tells.none_ f
  | succ n ih =>
    intro f xs ins r x hr hx
    have hr : (match P.funcs[f]? with | some fn => some (runAns (envN P fuel n) fn xs ins) | none => none) = some r := hr
    cases hf : P.funcs[f]? with
    | none => simp [hf] at hr
    | some fn =>
      simp only [hf] at hr
      have hE : (envN P fuel n).tt = ttOf P := by cases n <;> rfl
      have hln : ∀ k, (envN P fuel n).loops k = none := by cases n <;> (intro k; rfl)
      rw [← hf]
      exact arun_tells hE hP ih hf (fun c _ => loops_none (E := { envN P fuel n with nt := fn.ntmps }) hln c) xs ins r x hr hx
end
end Go.Proofs.Ythkdmemkjojmoaa.Ab
