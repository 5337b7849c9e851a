/- The plain evaluator: code is right. -/
import Derived.Test.YtegimoedpoemfaaD7
import Derived.LoopN
namespace Go.Proofs.Ytegimoedpoemfaa.Ab
open Go

def AX.out : AX → Exit
  | .normal => .normal
  | .exit id => .exit id
  | .ret => .ret
structure RelS (F : Fr) (nt : Nat) (st : St) (σ : Nat → Value) (a : Act) (w : World) : Prop where
  ra : RelA F nt (aget st.tm) (hget st.hp) σ a w
  lt : ∀ id, hget st.hp id ≠ none → id < st.c
  mc : F.mm ≤ st.c
section
variable {P : Program} {F : Fr} {nt : Nat}
theorem RelA.draw {T : Nat → AV} {H : Nat → Option Blk} {σ : Nat → Value} {a : Act} {w : World} (R : RelA F nt T H σ a w) (n : Nat) : RelA F nt T H σ a { w with drawn := n } := by
  have G := Grow.draw w (Mut F H σ) σ (Ver H) n
  refine ⟨⟨R.rel.os, R.rel.tape, R.rel.output, R.rel.size, R.rel.old, fun id b h => (R.rel.bl id b h).grow G rfl (fun _ _ _ _ => rfl), R.rel.ds, R.rel.new, R.rel.mxl⟩, fun t => (R.tm t).grow G, R.df, R.sz, R.pt⟩
theorem region_ok {R : Type} {E : Env} (hE : E.tt = ttOf P) (hP : POK P) (hfs : ∀ f, Tells P f (E.fs f)) {ops : Array Oper} {draw : Bool} {id : Nat} {st : St} {k : St → Option R} {r : R} (h : aregion E ops draw st k = some r) :
    ∃ st', k st' = some r ∧ st.c ≤ st'.c ∧ ∀ σ a w (Q : Exit → Act → World → Prop), RelS F E.nt st σ a w → (∀ a' w' σ', RelS F E.nt st' σ' a' w' → Q .normal a' w') → (Code.region id ops draw).wp P Q a w := by
  unfold aregion at h
  obtain ⟨rs, st1, h1, h2, h3, h4, h5⟩ := aops_spec (F := F) (c0 := st.c) hE hP hfs ops.toList 0 st [] rfl (Nat.zero_le _) (show aops E ops ops.toList (st.c + 64 * 0) st [] _ = some r from h)
  have hlen : rs.length = ops.size := by simpa using h5
  rw [List.nil_append] at h1
  have fin : ∀ σ a w (Q : Exit → Act → World → Prop), (∀ a' w' σ', RelS F E.nt ⟨st1.tm, st1.hp, st.c + 64 * ops.size⟩ σ' a' w' → Q .normal a' w') → RelS F E.nt st σ a w →
      ∀ a' w' σ', RelA F E.nt (endT (aget st.tm) rs) (endH (hget st.hp) rs) σ' a' w' → (∀ id, endH (hget st.hp) rs id ≠ none → id < st.c + 64 * ops.size) → Q .normal a' w' := by
    intro σ a w Q hQ R0 a' w' σ' R' hl
    refine hQ a' w' σ' ⟨by dsimp only; rw [h3, h4]; exact R', by dsimp only; rw [h4]; exact hl, ?_⟩
    have := R0.mc
    dsimp only
    omega
  cases draw with
  | false =>
    refine ⟨_, h1, Nat.le_add_right _ _, fun σ a w Q R0 hQ => ?_⟩
    refine wp_region ?_
    have := seq_ok (Q := Q) rs 0 _ _ σ a w h2 R0.ra (fun id hid => by have := R0.lt id hid; omega) (fin σ a w Q hQ R0)
    rw [hlen] at this
    rw [List.range_eq_range']
    exact this
  | true =>
    dsimp only at h1
    cases hok : okAny ops rs with
    | false => simp [hok] at h1
    | true =>
      simp only [hok] at h1
      refine ⟨_, h1, Nat.le_add_right _ _, fun σ a w Q R0 hQ => ?_⟩
      refine wp_region_any hP.mixed ?_
      exact any_ok h2 hok (fun id hid => R0.lt id hid) (fin σ a w Q hQ R0) (R0.ra.draw _)

/-! ### At a loop's head -/
theorem aget_trTm (t : Tr) (tm : List (Nat × AV)) (j : Nat) : aget (trTm t tm) j = (aget tm j).tr t := by
  induction tm with
  | nil => rfl
  | cons p tm ih =>
    obtain ⟨i, v⟩ := p
    simp only [trTm, aget]
    cases Nat.beq i j with
    | true => rfl
    | false => exact ih
theorem aget_keepTm (tm : List (Nat × AV)) (l : List Nat) (j : Nat) : aget (keepTm tm l) j = aget tm j ∨ aget (keepTm tm l) j = .undef := by
  induction l with
  | nil => exact .inr rfl
  | cons t l ih =>
    simp only [keepTm, aget]
    cases hb : Nat.beq t j with
    | true => rw [Nat.eq_of_beq_eq_true hb]; exact .inl rfl
    | false => exact ih
theorem hget_trHp (t : Tr) (c : Nat) (h : List (Nat × Blk)) (id : Nat) : hget (trHp t c h) id = if id < c then (hget h id).map (Blk.tr t 0) else none := by
  induction h with
  | nil => simp [trHp, hget]
  | cons p h ih =>
    obtain ⟨i, b⟩ := p
    unfold trHp
    cases hb : Nat.blt i c with
    | true =>
      have hic : i < c := Nat.le_of_ble_eq_true hb
      simp only [hget]
      cases hi : Nat.beq i id with
      | true => obtain rfl := Nat.eq_of_beq_eq_true hi; simp [hic]
      | false => exact ih
    | false =>
      have hic : ¬ i < c := fun h => by
        have : Nat.blt i c = true := Nat.ble_eq_true_of_le h
        rw [hb] at this; cases this
      simp only [hget]
      rw [ih]
      cases hi : Nat.beq i id with
      | true => obtain rfl := Nat.eq_of_beq_eq_true hi; simp [hic]
      | false => rfl
theorem nrm_ok {st : St} {σ : Nat → Value} {a : Act} {w : World} (live : Option (List Nat)) (c : Nat) (hc : F.mm ≤ c) (R : RelS F nt st σ a w) : RelS F nt (nrm live c st) σ a w := by
  have rel := R.ra.rel
  have hH : ∀ id b', hget (nrm live c st).hp id = some b' → id < c ∧ ∃ b, hget st.hp id = some b ∧ b' = b.tr (curOf st.hp c) 0 := by
    intro id b' h
    have h : hget (trHp (curOf st.hp c) c st.hp) id = some b' := h
    rw [hget_trHp] at h
    split at h
    · rename_i hlt
      obtain ⟨b, hb, e⟩ := Option.map_eq_some_iff.1 h
      exact ⟨hlt, b, hb, e.symm⟩
    · cases h
  have hH2 : ∀ id b, id < c → hget st.hp id = some b → hget (nrm live c st).hp id = some (b.tr (curOf st.hp c) 0) := by
    intro id b hlt hb
    show hget (trHp (curOf st.hp c) c st.hp) id = _
    rw [hget_trHp, if_pos hlt, hb]; rfl
  have hM : ∀ g, Mut F (hget (nrm live c st).hp) σ g → Mut F (hget st.hp) σ g := by
    rintro g (h | ⟨id, b', h1, h2, h3⟩)
    · exact .inl h
    · obtain ⟨_, b, e1, rfl⟩ := hH id b' h1
      exact .inr ⟨id, b, e1, tr_live.1 h2, h3⟩
  have hp : ∀ id i m, Ver (hget st.hp) id = some m → (curOf st.hp c).gp id = some i → (∃ m', Ver (hget (nrm live c st).hp) i = some m') ∧ ∀ g, σ id = .pointer (some g) → σ i = σ id := by
    intro id i m hV hg
    have hg : (match Nat.blt id c with | true => some id | false => none) = some i := hg
    cases hb : Nat.blt id c with
    | false => rw [hb] at hg; cases hg
    | true =>
      rw [hb] at hg
      injection hg with hg
      subst hg
      obtain ⟨b, hb2, _⟩ := Option.map_eq_some_iff.1 hV
      exact ⟨⟨_, ver_of (hH2 id b (Nat.le_of_ble_eq_true hb) hb2)⟩, fun _ _ => rfl⟩
  have ho : ∀ id ver i ver' m, Ver (hget st.hp) id = some m → ver ≤ m → (curOf st.hp c).go id ver = some (i, ver') → ∃ m', Ver (hget (nrm live c st).hp) i = some m' ∧ ver' ≤ m' ∧ (ver' = m' → ver = m ∧ σ i = σ id) := by
    intro id ver i ver' m hV _ hg
    have hg : (match Nat.blt id c with | true => (match hget st.hp id with | some b => (match Nat.beq ver b.ver with | true => some (id, 0) | false => none) | none => none) | false => none) = some (i, ver') := hg
    cases hb : Nat.blt id c with
    | false => rw [hb] at hg; cases hg
    | true =>
      rw [hb] at hg
      obtain ⟨b, hb2, hb3⟩ := Option.map_eq_some_iff.1 hV
      simp only [hb2] at hg
      cases hq : Nat.beq ver b.ver with
      | false => rw [hq] at hg; cases hg
      | true =>
        rw [hq] at hg
        simp only [Option.some.injEq, Prod.mk.injEq] at hg
        obtain ⟨rfl, rfl⟩ := hg
        have := Nat.eq_of_beq_eq_true hq
        exact ⟨_, ver_of (hH2 id b (Nat.le_of_ble_eq_true hb) hb2), Nat.zero_le _, fun _ => ⟨by omega, rfl⟩⟩
  refine ⟨⟨⟨rel.os, rel.tape, rel.output, rel.size, rel.old, fun id b' h => ?_, fun id id' b b' g hne h1 h2 l1 l2 k1 k2 => ?_, fun id b' g h1 h2 h3 => ?_, rel.mxl⟩, fun t => ?_, R.ra.df, R.ra.sz, fun id g hm hs => ?_⟩, fun id h => ?_, hc⟩
  · obtain ⟨_, b, e1, rfl⟩ := hH id b' h
    exact (rel.bl id b e1).tr hM hp ho rfl
  · obtain ⟨_, b0, e1, rfl⟩ := hH id b h1
    obtain ⟨_, b0', e2, rfl⟩ := hH id' b' h2
    exact rel.ds id id' b0 b0' g hne e1 e2 (tr_live.1 l1) (tr_live.1 l2) k1 k2
  · obtain ⟨_, b0, e1, rfl⟩ := hH id b' h1
    exact rel.new id b0 g e1 (tr_live.1 h2) h3
  · have key : ∀ x, VR w (Mut F (hget st.hp) σ) σ (Ver (hget st.hp)) x (a.tmps.getD t Go.undef) → VR w (Mut F (hget (nrm live c st).hp) σ) σ (Ver (hget (nrm live c st).hp)) (x.tr (curOf st.hp c)) (a.tmps.getD t Go.undef) := fun x hx => hx.tr hM hp ho
    cases live with
    | none =>
      show VR w _ σ _ (aget (trTm (curOf st.hp c) st.tm) t) _
      rw [aget_trTm]
      exact key _ (R.ra.tm t)
    | some l =>
      show VR w _ σ _ (aget (trTm (curOf st.hp c) (keepTm st.tm l)) t) _
      rw [aget_trTm]
      rcases aget_keepTm st.tm l t with h | h
      · rw [h]; exact key _ (R.ra.tm t)
      · rw [h]; exact .pure (.undef _)
  · obtain ⟨e1, m, e2⟩ := R.ra.pt id g hm hs
    obtain ⟨b, hb, _⟩ := Option.map_eq_some_iff.1 e2
    exact ⟨e1, _, ver_of (hH2 id b (by omega) hb)⟩
  · cases hh : hget (nrm live c st).hp id with
    | none => exact absurd hh h
    | some b' => exact (hH id b' hh).1

theorem nrmK_ok {st : St} {σ : Nat → Value} {a : Act} {w : World} (ka live : Option (List Nat)) (c : Nat) (hc : F.mm ≤ c) (R : RelS F nt st σ a w) : RelS F nt (nrmK ka live c st) σ a w := by
  cases ka with
  | none => exact nrm_ok live c hc R
  | some l =>
    refine ⟨⟨R.ra.rel, fun t => ?_, R.ra.df, R.ra.sz, R.ra.pt⟩, R.lt, R.mc⟩
    show VR w _ σ _ (aget (keepTm st.tm l) t) _
    rcases aget_keepTm st.tm l t with h | h
    · rw [h]; exact R.ra.tm t
    · rw [h]; exact .pure (.undef _)
theorem nrmK_c {ka live : Option (List Nat)} {m c : Nat} {st : St} (h1 : m ≤ c) (h2 : m ≤ st.c) : m ≤ (nrmK ka live c st).c := by
  cases ka with
  | none => exact h1
  | some l => exact h2

/-- What is told of a loop, is so. -/
def LoopTells (E : Env) (c : Code) (f : St → Option LRes) : Prop :=
  ∀ s r z, f s = some r → r.get = some z → ∃ N, ∀ {R : Type} (k : AX → St → Option R), aloop (fun s j => aexec E c s j) (headOf E c s.c) (exitOf E c s.c) N s k = match z with | .inl x => k r.axl (r.stl x) | .inr y => k r.axr (r.str y)
def LoopsOK (E : Env) : Code → Prop
  | .seq a b => LoopsOK E a ∧ LoopsOK E b
  | .cond _ a b => LoopsOK E a ∧ LoopsOK E b
  | .block _ a => LoopsOK E a
  | .loop c => LoopsOK E c ∧ ∀ f, E.loops (firstReg c) = some f → LoopTells E c f
  | _ => True
/-- What an evaluation of code comes to. -/
def ExecOK (P : Program) (F : Fr) (E : Env) (c : Code) (st : St) (ax : AX) (st' : St) : Prop :=
  ∀ σ a w (Q : Exit → Act → World → Prop), RelS F E.nt st σ a w → (∀ a' w' σ', RelS F E.nt st' σ' a' w' → Q ax.out a' w') → c.wp P Q a w
theorem loop_ok {R : Type} {E : Env} {c : Code} {n : Nat} (ih : ∀ {R : Type} (st : St) (k : AX → St → Option R) (r : R), F.mm ≤ st.c → aexec E c st k = some r → ∃ ax st', k ax st' = some r ∧ F.mm ≤ st'.c ∧ ExecOK P F E c st ax st') (hn : F.mm ≤ n) :
    ∀ (N : Nat) (s : St) (k : AX → St → Option R) (r : R), F.mm ≤ s.c → aloop (fun s j => aexec E c s j) (headOf E c n) (exitOf E c n) N s k = some r →
      ∃ ax s', k ax s' = some r ∧ F.mm ≤ s'.c ∧ ∀ σ a w (Q : Exit → Act → World → Prop), RelS F E.nt s σ a w → (∀ a' w' σ', RelS F E.nt s' σ' a' w' → Q ax.out a' w') → Code.rounds P c Q N a w := by
  intro N
  induction N with
  | zero => intro s k r _ h; simp [aloop] at h
  | succ N ihN =>
    intro s k r hm h
    unfold aloop at h
    obtain ⟨ax, s1, h1, m1, h2⟩ := ih s _ r hm h
    cases ax with
    | normal =>
      obtain ⟨ax2, s2, h3, m2, h4⟩ := ihN _ k r (nrmK_c hn m1) h1
      refine ⟨ax2, s2, h3, m2, fun σ a w Q R0 hQ => ?_⟩
      rw [rounds_succ]
      exact h2 σ a w _ R0 fun a' w' σ' R' => h4 σ' a' w' Q (nrmK_ok _ _ n hn R') hQ
    | exit id =>
      refine ⟨.exit id, _, h1, nrmK_c hn m1, fun σ a w Q R0 hQ => ?_⟩
      rw [rounds_succ]
      exact h2 σ a w _ R0 fun a' w' σ' R' => hQ a' w' σ' (nrmK_ok _ _ n hn R')
    | ret =>
      refine ⟨.ret, _, h1, nrmK_c hn m1, fun σ a w Q R0 hQ => ?_⟩
      rw [rounds_succ]
      exact h2 σ a w _ R0 fun a' w' σ' R' => hQ a' w' σ' (nrmK_ok _ _ n hn R')

theorem known_c (c : Operand) (b : Bool) (st : St) : (known c b st).c = st.c := by cases c <;> rfl
theorem known_ok {st : St} {σ : Nat → Value} {a : Act} {w : World} {c : Operand} {b : Bool} (h : aev st.tm c = .bool b) (R : RelS F nt st σ a w) : RelS F nt (known c b st) σ a w := by
  cases c with
  | tmp t =>
    have e : aget ((t, .bool b) :: st.tm) = aget st.tm := by
      funext j
      show (match Nat.beq t j with | true => AV.bool b | false => aget st.tm j) = _
      cases hb : Nat.beq t j with
      | true =>
        obtain rfl := Nat.eq_of_beq_eq_true hb
        exact (h : aget st.tm t = .bool b).symm
      | false => rfl
    exact ⟨by show RelA F nt (aget ((t, .bool b) :: st.tm)) _ σ a w; rw [e]; exact R.ra, R.lt, R.mc⟩
  | _ => exact R
theorem exec_ok {E : Env} (hE : E.tt = ttOf P) (hP : POK P) (hfs : ∀ f, Tells P f (E.fs f)) : ∀ (c : Code), LoopsOK E c → ∀ {R : Type} (st : St) (k : AX → St → Option R) (r : R), F.mm ≤ st.c → aexec E c st k = some r →
    ∃ ax st', k ax st' = some r ∧ F.mm ≤ st'.c ∧ ExecOK P F E c st ax st' := by
  intro c
  induction c with
  | skip =>
    intro _ R st k r hm h
    exact ⟨.normal, st, h, hm, fun σ a w Q R0 hQ => wp_skip (hQ a w σ R0)⟩
  | region id ops draw =>
    intro _ R st k r hm h
    unfold aexec at h
    obtain ⟨st', h1, h2, h3⟩ := region_ok (F := F) (id := id) hE hP hfs h
    exact ⟨.normal, st', h1, by omega, h3⟩
  | seq x y ihx ihy =>
    intro hl R st k r hm h
    unfold aexec at h
    obtain ⟨ax, s1, h1, m1, h2⟩ := ihx hl.1 st _ r hm h
    cases ax with
    | normal =>
      obtain ⟨ax2, s2, h3, m2, h4⟩ := ihy hl.2 s1 k r m1 h1
      refine ⟨ax2, s2, h3, m2, fun σ a w Q R0 hQ => wp_seq (h2 σ a w _ R0 fun a' w' σ' R' => h4 σ' a' w' Q R' hQ)⟩
    | exit id => exact ⟨.exit id, s1, h1, m1, fun σ a w Q R0 hQ => wp_seq (h2 σ a w _ R0 fun a' w' σ' R' => hQ a' w' σ' R')⟩
    | ret => exact ⟨.ret, s1, h1, m1, fun σ a w Q R0 hQ => wp_seq (h2 σ a w _ R0 fun a' w' σ' R' => hQ a' w' σ' R')⟩
  | cond c x y ihx ihy =>
    intro hl R st k r hm h
    unfold aexec at h
    cases hc : aev st.tm c with
    | bool b =>
      simp only [hc] at h
      have heval : ∀ σ a w, RelS F E.nt st σ a w → a.eval c = .bool b := fun σ a w R0 => by
        have := ev_rel R0.ra.tm c
        rw [← aev_ev, hc] at this
        exact this.bool_inv
      cases b with
      | true =>
        obtain ⟨ax, s1, h1, m1, h2⟩ := ihx hl.1 (known c true st) k r (by rw [known_c]; exact hm) h
        exact ⟨ax, s1, h1, m1, fun σ a w Q R0 hQ => wp_cond_true (heval σ a w R0) (h2 σ a w Q (known_ok hc R0) hQ)⟩
      | false =>
        obtain ⟨ax, s1, h1, m1, h2⟩ := ihy hl.2 (known c false st) k r (by rw [known_c]; exact hm) h
        exact ⟨ax, s1, h1, m1, fun σ a w Q R0 hQ => wp_cond_false (heval σ a w R0) (h2 σ a w Q (known_ok hc R0) hQ)⟩
    | _ => simp [hc] at h
  | block id c ih =>
    intro hl R st k r hm h
    unfold aexec at h
    obtain ⟨ax, s1, h1, m1, h2⟩ := ih hl st _ r hm h
    cases ax with
    | normal => exact ⟨.normal, s1, h1, m1, fun σ a w Q R0 hQ => wp_block (h2 σ a w _ R0 fun a' w' σ' R' => hQ a' w' σ' R')⟩
    | exit id' =>
      cases hb : Nat.beq id' id with
      | true =>
        simp only [hb] at h1
        have e := Nat.eq_of_beq_eq_true hb
        refine ⟨.normal, s1, h1, m1, fun σ a w Q R0 hQ => wp_block (h2 σ a w _ R0 fun a' w' σ' R' => ?_)⟩
        show (if id' = id then Q .normal a' w' else Q (.exit id') a' w')
        rw [if_pos e]
        exact hQ a' w' σ' R'
      | false =>
        simp only [hb] at h1
        have e : id' ≠ id := fun e => by rw [e, Nat.beq_refl] at hb; cases hb
        refine ⟨.exit id', s1, h1, m1, fun σ a w Q R0 hQ => wp_block (h2 σ a w _ R0 fun a' w' σ' R' => ?_)⟩
        show (if id' = id then Q .normal a' w' else Q (.exit id') a' w')
        rw [if_neg e]
        exact hQ a' w' σ' R'
    | ret => exact ⟨.ret, s1, h1, m1, fun σ a w Q R0 hQ => wp_block (h2 σ a w _ R0 fun a' w' σ' R' => hQ a' w' σ' R')⟩
  | loop c ih =>
    intro hl R st k r hm h
    unfold aexec at h
    have run : ∀ N, aloop (fun s j => aexec E c s j) (headOf E c st.c) (exitOf E c st.c) N (headOf E c st.c st) k = some r → ∃ ax st', k ax st' = some r ∧ F.mm ≤ st'.c ∧ ExecOK P F E (.loop c) st ax st' := by
      intro N hN
      obtain ⟨ax, s', g1, g2, g3⟩ := loop_ok (F := F) (n := st.c) (fun st k r => ih hl.1 st k r) hm N (headOf E c st.c st) k r (nrmK_c hm hm) hN
      exact ⟨ax, s', g1, g2, fun σ a w Q R0 hQ => wp_loop_rounds N (g3 σ a w Q (nrmK_ok _ _ _ hm R0) hQ)⟩
    cases hf : E.loops (firstReg c) with
    | none =>
      simp only [hf] at h
      exact run _ h
    | some f =>
      simp only [hf] at h
      cases hr : f (headOf E c st.c st) with
      | none => simp [hr] at h
      | some q =>
        simp only [hr] at h
        cases hz : q.get with
        | none => simp [hz] at h
        | some z =>
          obtain ⟨N, hN⟩ := hl.2 f hf _ q z hr hz
          have hce : (headOf E c st.c st).c = st.c := by
            unfold headOf
            cases keepAll (E.live (firstReg c)) <;> rfl
          rw [hce] at hN
          refine run N ((hN k).trans ?_)
          cases z with
          | inl x => simp only [hz] at h; exact h
          | inr y => simp only [hz] at h; exact h
  | exit id =>
    intro _ R st k r hm h
    exact ⟨.exit id, st, h, hm, fun σ a w Q R0 hQ => wp_exit (hQ a w σ R0)⟩
  | ret =>
    intro _ R st k r hm h
    exact ⟨.ret, st, h, hm, fun σ a w Q R0 hQ => wp_ret (hQ a w σ R0)⟩
  | _ => intro _ R st k r hm h; simp [aexec] at h
end
end Go.Proofs.Ytegimoedpoemfaa.Ab
