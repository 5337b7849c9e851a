/- The plain evaluator: one operation of a region, in any state that looks the same to it. -/
import Derived.Test.YthkdmemkjojmoaaZD4
import Derived.Orders
namespace Go.Proofs.Ythkdmemkjojmoaa.Ab
open Go

theorem hget_hset (h : List (Nat × Blk)) (id : Nat) (b : Blk) : hget (hset h id b) = upd (hget h) id (some b) := by
  induction h with
  | nil =>
    funext j
    simp only [hset, hget, upd]
    by_cases e : j = id
    · subst e; simp [Nat.beq_refl]
    · have : Nat.beq id j = false := by
        cases hb : Nat.beq id j with
        | false => rfl
        | true => exact absurd (Nat.eq_of_beq_eq_true hb).symm e
      simp [this, e]
  | cons p h ih =>
    obtain ⟨k, x⟩ := p
    funext j
    unfold hset
    cases hk : Nat.beq k id with
    | true =>
      obtain rfl := Nat.eq_of_beq_eq_true hk
      simp only [hget, upd]
      cases hj : Nat.beq k j with
      | true => obtain rfl := Nat.eq_of_beq_eq_true hj; simp
      | false =>
        have : j ≠ k := fun e => by rw [e, Nat.beq_refl] at hj; cases hj
        simp [this]
    | false =>
      have hne : k ≠ id := fun e => by rw [e, Nat.beq_refl] at hk; cases hk
      simp only [hget, upd]
      cases hj : Nat.beq k j with
      | true => obtain rfl := Nat.eq_of_beq_eq_true hj; simp [hne]
      | false => rw [ih]; rfl
theorem hget_hsets : ∀ (l : List (Nat × Blk)) (h : List (Nat × Blk)), hget (hsets h l) = ups (hget h) l := by
  intro l
  induction l with
  | nil => intro h; rfl
  | cons p l ih => intro h; obtain ⟨id, b⟩ := p; simp only [hsets, ups]; rw [ih, hget_hset]
theorem aget_cons (t : Nat) (v : AV) (tm : List (Nat × AV)) : aget ((t, v) :: tm) = upd (aget tm) t v := by
  funext j
  simp only [aget, upd]
  cases hj : Nat.beq t j with
  | true => obtain rfl := Nat.eq_of_beq_eq_true hj; simp
  | false =>
    have : j ≠ t := fun e => by rw [e, Nat.beq_refl] at hj; cases hj
    simp [this]
def putT (T : Nat → AV) (d : Option Nat) (v : AV) : Nat → AV :=
  match d with
  | some t => upd T t v
  | none => T
theorem aget_putTmp (tm : List (Nat × AV)) (d : Option Nat) (v : AV) : aget (putTmp tm d v) = putT (aget tm) d v := by
  cases d with
  | none => rfl
  | some t => exact aget_cons t v tm
/-- Operands, where temporaries are a function. -/
def ev (T : Nat → AV) : Operand → AV
  | .tmp t => T t
  | .const v => constAV v
  | .func f => .fn f []
  | .global _ => .undef
theorem aev_ev (tm : List (Nat × AV)) : aev tm = ev (aget tm) := by
  funext x
  cases x <;> rfl
theorem ev_congr {T T' : Nat → AV} {x : Operand} (h : ∀ t, x = .tmp t → T t = T' t) : ev T x = ev T' x := by
  cases x with
  | tmp t => exact h t rfl
  | _ => rfl
theorem aop_congr {E : Env} {o : Oper} {ρ ρ' : Operand → AV} {c : Nat} (h : ∀ x ∈ o.op.operands, ρ x = ρ' x) : aop E o ρ c = aop E o ρ' c := by
  obtain ⟨dst, op, type, pos, after, guard⟩ := o
  have lst : ∀ (xs : List Operand), (∀ x ∈ xs, ρ x = ρ' x) → xs.map ρ = xs.map ρ' := fun xs hx => List.map_congr_left hx
  have prs : ∀ (ps : Array (Nat × Operand)), (∀ x ∈ (ps.toList.map (·.2)).toArray, ρ x = ρ' x) → (ps.toList.map fun p => (p.1, ρ p.2)) = ps.toList.map fun p => (p.1, ρ' p.2) := fun ps hx =>
    List.map_congr_left fun p hp => by rw [hx p.2 (by simp only [List.mem_toArray]; exact List.mem_map.2 ⟨p, hp, rfl⟩)]
  cases op <;> simp only [Op.operands] at h <;> simp only [aop]
  case build t ps => rw [prs ps h]
  case buildSlice t n ps => rw [prs ps h]
  case makeFunc fn first cap =>
    cases fn <;> simp only
    rw [lst cap.toList fun x hx => h x (by simp at hx; simp [hx])]
  case slice t x lo hi mx =>
    cases mx <;> cases lo <;> cases hi <;> simp_all
  case call cl =>
    have ha : cl.args.toList.map ρ = cl.args.toList.map ρ' := lst _ fun x hx => h x (by simp at hx; simp [Call.operands, hx])
    cases hc : cl.callee with
    | value f => have hf : ρ f = ρ' f := h f (by simp [Call.operands, hc]); simp only [ha, hf]
    | _ => simp only [ha]
  all_goals (first | rfl | (simp_all; done))

section
variable {P : Program} {F : Fr} {H : Nat → Option Blk} {σ : Nat → Value} {a : Act} {w : World}
theorem ev_rel {M : Nat → Prop} {V : Nat → Option Nat} {T : Nat → AV} (h : ∀ t, VR w M σ V (T t) (a.tmps.getD t Go.undef)) (x : Operand) : VR w M σ V (ev T x) (a.eval x) := by
  cases x with
  | tmp t => exact h t
  | const v => exact const_rel v
  | func f => exact .fn f [] #[] rfl (fun j hj => by simp at hj)
  | global g => exact .pure (.undef _)
theorem put_size (d : Option Nat) (v : Value) : (a.put d v).tmps.size = a.tmps.size := by cases d <;> simp [Act.put]
theorem put_defers' (d : Option Nat) (v : Value) : (a.put d v).defers = a.defers := by cases d <;> rfl
theorem put_rel {M : Nat → Prop} {V : Nat → Option Nat} {T : Nat → AV} {nt : Nat} (h : ∀ t, VR w M σ V (T t) (a.tmps.getD t Go.undef)) {d : Option Nat} (hd : dstOk nt d = true) (hs : a.tmps.size = nt) {x : AV} {v : Value} (hx : VR w M σ V x v) :
    ∀ t, VR w M σ V (putT T d x t) ((a.put d v).tmps.getD t Go.undef) := by
  intro t
  cases d with
  | none => exact h t
  | some d =>
    have hlt : d < nt := Nat.le_of_ble_eq_true hd
    simp only [putT, Act.put, upd]
    by_cases e : t = d
    · subst e
      rw [if_pos rfl]
      simp [show t < a.tmps.size by omega]
      exact hx
    · rw [if_neg e]
      rw [Array.getD_eq_getD_getElem?, Array.getElem?_setIfInBounds_ne (Ne.symm e), ← Array.getD_eq_getD_getElem?]
      exact h t

/-- The whole state of a run. -/
structure RelA (F : Fr) (nt : Nat) (T : Nat → AV) (H : Nat → Option Blk) (σ : Nat → Value) (a : Act) (w : World) : Prop where
  rel : RelH F H σ w
  tm : ∀ t, VR w (Mut F H σ) σ (Ver H) (T t) (a.tmps.getD t Go.undef)
  df : a.defers = []
  sz : a.tmps.size = nt
  pt : ∀ id g, id < F.mm → F.s0 id = .pointer (some g) → σ id = F.s0 id ∧ ∃ m, Ver H id = some m
  kp : ∀ id, id < F.mm → ∃ m, Ver H id = some m ∧ (m = 0 → F.kv → σ id = F.s0 id)
/-- An operation, in any state that looks to it as T0, H0, does what its record says. -/
def LocOK (P : Program) (F : Fr) (nt : Nat) (ops : Array Oper) (i ci : Nat) (o : Oper) (T0 : Nat → AV) (H0 : Nat → Option Blk) (r : Rec) : Prop :=
  ∀ Q T H σ a w, (∀ t ∈ tmpsOf ops o, T t = T0 t) → (∀ id ∈ r.rd, H id = H0 id) → (∀ j, j < 64 → H (ci + j) = none) → RelA F nt T H σ a w →
    ∀ K : Act → World → Prop, (∀ a' w' σ', RelA F nt (putT T r.dst r.val) (ups H r.wr) σ' a' w' → K a' w') → wpOp P ops Q i K a w

/-- An operation's guard asks for it (or not), in any state that looks to it as T0. -/
def Want (ops : Array Oper) (o : Oper) (T0 : Nat → AV) (b : Bool) : Prop :=
  ∀ (M : Nat → Prop) (V : Nat → Option Nat) (T : Nat → AV) (σ : Nat → Value) (a : Act) (w : World), (∀ t ∈ tmpsOf ops o, T t = T0 t) → (∀ t, VR w M σ V (T t) (a.tmps.getD t Go.undef)) → Region.wanted o (yielded ops a.tmps) = b
theorem yielded_of {ops : Array Oper} {j t : Nat} (ht : flagTmp ops j = some t) {M : Nat → Prop} {V : Nat → Option Nat} {T : Nat → AV} (h : ∀ t, VR w M σ V (T t) (a.tmps.getD t Go.undef)) :
    (∀ b, T t = .bool b → yielded ops a.tmps j = some b) ∧ (T t = .void → yielded ops a.tmps j = none) := by
  have e : (ops[j]?).bind (·.dst) = some t := ht
  refine ⟨fun b hb => ?_, fun hb => ?_⟩
  · have := h t
    rw [hb] at this
    have hv := this.bool_inv
    have hlt : t < a.tmps.size := by
      rcases Nat.lt_or_ge t a.tmps.size with h2 | h2
      · exact h2
      · rw [Array.getD_eq_getD_getElem?, Array.getElem?_eq_none h2] at hv
        cases hv
    unfold yielded
    rw [e]
    simp only [Option.bind_some]
    rw [Array.getElem?_eq_getElem hlt]
    rw [Array.getD_eq_getD_getElem?, Array.getElem?_eq_getElem hlt] at hv
    simp only [Option.getD_some] at hv
    rw [hv]
  · have := h t
    rw [hb] at this
    have hv := this.void_inv
    unfold yielded
    rw [e]
    simp only [Option.bind_some]
    rcases Nat.lt_or_ge t a.tmps.size with h2 | h2
    · rw [Array.getElem?_eq_getElem h2]
      rw [Array.getD_eq_getD_getElem?, Array.getElem?_eq_getElem h2] at hv
      simp only [Option.getD_some] at hv
      rw [hv]
      rfl
    · rw [Array.getElem?_eq_none h2]

theorem loc_run {E : Env} {ops : Array Oper} {i ci : Nat} {o : Oper} {T0 : Nat → AV} {H0 : Nat → Option Blk} {rd : List Nat} {g : EffG} {x : g.β} (hE : E.tt = ttOf P) (hP : POK P) (hfs : ∀ f, Tells P f (E.fs f)) (hi : ops[i]? = some o)
    (hw : Want ops o T0 true)
    (hd : dstOk E.nt o.dst = true) (hr : (aop E o (ev T0) ci).run H0 = some (rd, g)) (hq : g.req = true) (hg : g.get = some x) (hl : (g.eff x).news.length ≤ 64) :
    LocOK P F E.nt ops i ci o T0 H0 ⟨o.dst, (g.eff x).val, rd, (g.eff x).upd ++ number ci (g.eff x).news⟩ := by
  intro Q T H σ a w hT hH hf R K hK
  unfold wpOp
  simp only [hi]
  rw [if_pos (hw _ _ T σ a w hT R.tm)]
  left
  have e1 : aop E o (ev T0) ci = aop E o (ev T) ci := aop_congr fun y hy => ev_congr fun t ht => by
    subst ht
    exact (hT t (List.mem_append_left _ (List.mem_filterMap.2 ⟨.tmp t, by simpa using hy, rfl⟩))).symm
  rw [e1] at hr
  have hr2 := LM.run_congr _ hr (H' := H) hH
  have := aop_ok (c := ci) (o := o) (a := a) hE hP hfs R.rel (ev_rel R.tm) hf rd g x hr2 hq hg hl
  refine this K Q fun v w' σ' h1 h2 h3 => hK _ _ σ' ⟨h1, ?_, by rw [put_defers']; exact R.df, by rw [put_size]; exact R.sz, fun id q hm hs => ?_, fun id hm => ?_⟩
  rotate_left 1
  · obtain ⟨e1, m, e2⟩ := R.pt id q hm hs
    obtain ⟨m', e3, _⟩ := h3.ver id m e2
    exact ⟨by rw [h3.var id m q e2 (by rw [e1]; exact hs)]; exact e1, m', e3⟩
  · obtain ⟨m, e1, e2⟩ := R.kp id hm
    obtain ⟨m', e3, e4, e5⟩ := h3.ver id m e1
    exact ⟨m', e3, fun h0 hk => (e5 (by omega)).trans (e2 (by omega) hk)⟩
  exact put_rel (fun t => (R.tm t).grow h3) hd R.sz h2
theorem loc_skip {nt : Nat} {ops : Array Oper} {i ci : Nat} {o : Oper} {T0 : Nat → AV} {H0 : Nat → Option Blk} (hi : ops[i]? = some o)
    (hw : Want ops o T0 false) (hd : dstOk nt o.dst = true) :
    LocOK P F nt ops i ci o T0 H0 ⟨o.dst, .void, [], []⟩ := by
  intro Q T H σ a w hT hH hf R K hK
  unfold wpOp
  simp only [hi]
  rw [if_neg (by rw [hw _ _ T σ a w hT R.tm]; simp)]
  exact hK _ _ σ ⟨R.rel, put_rel R.tm hd R.sz .void, by rw [put_defers']; exact R.df, by rw [put_size]; exact R.sz, R.pt, R.kp⟩

/-- What one step of the evaluation of a region comes to. -/
theorem step_spec {R : Type} {E : Env} {ops : Array Oper} {i ci : Nat} {o : Oper} {st : St} {rs : List Rec} {k : St → List Rec → Option R} {r : R} (hE : E.tt = ttOf P) (hP : POK P) (hfs : ∀ f, Tells P f (E.fs f)) (hi : ops[i]? = some o)
    (h : astep1 E ops o ci st rs k = some r) :
    ∃ rc st', k st' (rs ++ [rc]) = some r ∧ LocOK P F E.nt ops i ci o (aget st.tm) (hget st.hp) rc ∧ aget st'.tm = putT (aget st.tm) rc.dst rc.val ∧ hget st'.hp = ups (hget st.hp) rc.wr ∧ st'.c = st.c ∧ rc.dst = o.dst ∧
      (∀ p ∈ rc.wr, hget st.hp p.1 ≠ none ∨ (ci ≤ p.1 ∧ p.1 < ci + 64)) := by
  have run1 : ∀ st1 : St, aget st1.tm = aget st.tm → st1.hp = st.hp → st1.c = st.c → Want ops o (aget st.tm) true → arun1 E o ci st1 rs k = some r →
      ∃ rc st', k st' (rs ++ [rc]) = some r ∧ LocOK P F E.nt ops i ci o (aget st.tm) (hget st.hp) rc ∧ aget st'.tm = putT (aget st.tm) rc.dst rc.val ∧ hget st'.hp = ups (hget st.hp) rc.wr ∧ st'.c = st.c ∧ rc.dst = o.dst ∧ (∀ p ∈ rc.wr, hget st.hp p.1 ≠ none ∨ (ci ≤ p.1 ∧ p.1 < ci + 64)) := by
    intro st1 e1 e2 e3 hw h
    unfold arun1 at h
    cases hd : dstOk E.nt o.dst with
    | false => simp [hd] at h
    | true =>
      simp only [hd] at h
      rw [LM.runK_eq] at h
      cases hr : (aop E o (aev st1.tm) ci).run (hget st1.hp) with
      | none => simp [hr] at h
      | some q =>
        obtain ⟨rd, g⟩ := q
        simp only [hr] at h
        cases hq : g.req with
        | false => simp [hq] at h
        | true =>
          simp only [hq] at h
          cases hg : g.get with
          | none => simp [hg] at h
          | some x =>
            simp only [hg] at h
            cases hl : Nat.ble (g.eff x).news.length 64 && allB (fun p => (hget st1.hp p.1).isSome) (g.eff x).upd with
            | false => simp [hl] at h
            | true =>
              simp only [hl] at h
              simp only [Bool.and_eq_true] at hl
              have hl1 := Nat.le_of_ble_eq_true hl.1
              refine ⟨_, _, h, ?_, ?_, ?_, e3, rfl, fun p hp => ?_⟩
              · rw [aev_ev, e1, e2] at hr
                exact loc_run hE hP hfs hi hw hd hr hq hg hl1
              · dsimp only
                rw [aget_putTmp, e1]
              · dsimp only
                rw [hget_hsets, e2]
              · rcases List.mem_append.1 hp with hp | hp
                · left
                  have := allB_iff.1 hl.2 p hp
                  rw [e2] at this
                  intro e
                  rw [e] at this
                  cases this
                · right
                  have := number_ge p hp
                  omega
  have skip1 : ∀ st1 : St, aget st1.tm = aget st.tm → st1.hp = st.hp → st1.c = st.c → Want ops o (aget st.tm) false → askip1 E o st1 rs k = some r →
      ∃ rc st', k st' (rs ++ [rc]) = some r ∧ LocOK P F E.nt ops i ci o (aget st.tm) (hget st.hp) rc ∧ aget st'.tm = putT (aget st.tm) rc.dst rc.val ∧ hget st'.hp = ups (hget st.hp) rc.wr ∧ st'.c = st.c ∧ rc.dst = o.dst ∧ (∀ p ∈ rc.wr, hget st.hp p.1 ≠ none ∨ (ci ≤ p.1 ∧ p.1 < ci + 64)) := by
    intro st1 e1 e2 e3 hw h
    unfold askip1 at h
    cases hd : dstOk E.nt o.dst with
    | false => simp [hd] at h
    | true =>
      simp only [hd] at h
      refine ⟨_, _, h, loc_skip hi hw hd, ?_, ?_, e3, rfl, fun p hp => (by cases hp)⟩
      · dsimp only
        rw [aget_putTmp, e1]
      · rw [e2]; rfl
  unfold astep1 at h
  cases hgd : o.guard with
  | none =>
    simp only [hgd] at h
    exact run1 st rfl rfl rfl (fun _ _ _ _ _ _ _ _ => by simp [Region.wanted, hgd]) h
  | some q =>
    obtain ⟨j, want⟩ := q
    simp only [hgd] at h
    cases hft : flagTmp ops j with
    | none => simp [hft] at h
    | some t =>
      simp only [hft] at h
      have hmem : t ∈ tmpsOf ops o := by
        unfold tmpsOf
        rw [hgd]
        exact List.mem_append_right _ (by simp [hft])
      have same : ∀ b, aget st.tm t = .bool b → aget ((t, .bool b) :: st.tm) = aget st.tm := by
        intro b hb
        rw [aget_cons, ← hb]
        exact upd_self _ _
      cases hv : aget st.tm t with
      | bool b =>
        simp only [hv] at h
        have hy : ∀ (M : Nat → Prop) (V : Nat → Option Nat) (T : Nat → AV) (σ : Nat → Value) (a : Act) (w : World), (∀ t ∈ tmpsOf ops o, T t = aget st.tm t) → (∀ t, VR w M σ V (T t) (a.tmps.getD t Go.undef)) → yielded ops a.tmps j = some b :=
          fun M V T σ a w hT hR => (yielded_of hft hR).1 b (by rw [hT t hmem, hv])
        cases b with
        | true =>
          simp only at h
          cases want with
          | true => dsimp only at h; exact run1 ⟨(t, .bool true) :: st.tm, st.hp, st.c⟩ (same true hv) rfl rfl (fun M V T σ a w hT hR => by simp [Region.wanted, hgd, hy M V T σ a w hT hR]) h
          | false => dsimp only at h; exact skip1 ⟨(t, .bool true) :: st.tm, st.hp, st.c⟩ (same true hv) rfl rfl (fun M V T σ a w hT hR => by simp [Region.wanted, hgd, hy M V T σ a w hT hR]) h
        | false =>
          simp only at h
          cases want with
          | true => dsimp only at h; exact skip1 ⟨(t, .bool false) :: st.tm, st.hp, st.c⟩ (same false hv) rfl rfl (fun M V T σ a w hT hR => by simp [Region.wanted, hgd, hy M V T σ a w hT hR]) h
          | false => dsimp only at h; exact run1 ⟨(t, .bool false) :: st.tm, st.hp, st.c⟩ (same false hv) rfl rfl (fun M V T σ a w hT hR => by simp [Region.wanted, hgd, hy M V T σ a w hT hR]) h
      | void =>
        simp only [hv] at h
        exact skip1 st rfl rfl rfl (fun M V T σ a w hT hR => by
          have := (yielded_of hft hR).2 (by rw [hT t hmem, hv])
          simp [Region.wanted, hgd, this]) h
      | _ => simp [hv] at h
end
end Go.Proofs.Ythkdmemkjojmoaa.Ab
