/- The plain evaluator: values and blocks in other numbers; what is lent; contracts. -/
import Derived.Test.YthkdmemkjojmoaaZD1
namespace Go.Proofs.Ythkdmemkjojmoaa.Ab
open Go

theorem trL_len (t : Tr) : ∀ cs : List AV, (AV.trL t cs).length = cs.length := by
  intro cs
  induction cs with
  | nil => rfl
  | cons c cs ih => simp [AV.trL, ih]
theorem trL_getD (t : Tr) : ∀ (cs : List AV) (j : Nat), (AV.trL t cs).getD j .undef = (cs.getD j .undef).tr t := by
  intro cs
  induction cs with
  | nil => intro j; rfl
  | cons c cs ih =>
    intro j
    cases j with
    | zero => rfl
    | succ j => simpa [AV.trL] using ih j
theorem flatL_get : ∀ {cs : List AV}, AV.flatL cs = true → ∀ j, (cs.getD j .undef).flat = true := by
  intro cs
  induction cs with
  | nil => intro _ j; rfl
  | cons c cs ih =>
    intro h j
    unfold AV.flatL at h
    cases hc : AV.flat c with
    | false => simp [hc] at h
    | true =>
      simp only [hc] at h
      cases j with
      | zero => exact hc
      | succ j => simpa using ih h j

section
variable {w : World} {M M' : Nat → Prop} {σ σ' : Nat → Value} {V V' : Nat → Option Nat}
theorem PR.tr {t : Tr} {x : AV} {v : Value} (h : PR w M x v) (hM : ∀ g, M' g → M g) : PR w M' (x.tr t) v := by
  have e : x.tr t = x := by cases h <;> simp [AV.tr]
  rw [e]
  exact h.grow (fun _ _ _ => rfl) (fun g _ hg => hM g hg)
theorem VR.tr {t : Tr} (hM : ∀ g, M' g → M g)
    (hp : ∀ id i m, V id = some m → t.gp id = some i → (∃ m', V' i = some m') ∧ ∀ g, σ id = .pointer (some g) → σ' i = σ id)
    (ho : ∀ id ver i ver' m, V id = some m → ver ≤ m → t.go id ver = some (i, ver') → ∃ m', V' i = some m' ∧ ver' ≤ m' ∧ (ver' = m' → ver = m ∧ σ' i = σ id))
    {x : AV} {v : Value} (h : VR w M σ V x v) : VR w M' σ' V' (x.tr t) v := by
  induction h with
  | pure h => exact .pure (h.tr hM)
  | void => simp only [AV.tr]; exact .void
  | own id ver m v h1 hV hm h =>
    simp only [AV.tr]
    cases hg : t.go id ver with
    | none => exact .pure (.undef _)
    | some p =>
      obtain ⟨i, ver'⟩ := p
      obtain ⟨m', e1, e2, e3⟩ := ho id ver i ver' m hV hm hg
      exact .own i ver' m' v h1 e1 e2 (fun e => by rw [(e3 e).2]; exact h (e3 e).1)
  | ptr id off g m hV h =>
    simp only [AV.tr]
    cases hg : t.gp id with
    | none => exact .pure (.undef _)
    | some i =>
      obtain ⟨⟨m', e1⟩, e2⟩ := hp id i m hV hg
      exact .ptr i off g m' e1 (by rw [e2 _ h]; exact h)
  | rptr id ver sz k off m g b hV hm h =>
    simp only [AV.tr]
    cases hg : t.go id ver with
    | none => exact .pure (.undef _)
    | some p =>
      obtain ⟨i, ver'⟩ := p
      obtain ⟨m', e1, e2, e3⟩ := ho id ver i ver' m hV hm hg
      exact .rptr i ver' sz k off m' g b e1 e2 (fun e => by rw [(e3 e).2]; exact h (e3 e).1)
  | lptr id ver off m g hV hm h =>
    simp only [AV.tr]
    cases hg : t.go id ver with
    | none => exact .pure (.undef _)
    | some p =>
      obtain ⟨i, ver'⟩ := p
      obtain ⟨m', e1, e2, e3⟩ := ho id ver i ver' m hV hm hg
      exact .lptr i ver' off m' g e1 e2 (fun e => by rw [(e3 e).2]; exact h (e3 e).1)
  | pptr cs off g o us hg hp =>
    simp only [AV.tr]
    exact .pptr cs off g o us (fun j hj => ⟨fun h => (hg j hj).1 (hM g h), (hg j hj).2⟩) (fun j hj => (hp j hj).grow (fun _ _ _ => rfl) (fun g _ hg => hM g hg))
  | agg cs vs hl _ ih =>
    simp only [AV.tr]
    exact .agg _ vs (by rw [trL_len]; exact hl) (fun j hj => by rw [trL_len] at hj; rw [trL_getD]; exact ih j hj)
  | tup cs vs hl _ ih =>
    simp only [AV.tr]
    exact .tup _ vs (by rw [trL_len]; exact hl) (fun j hj => by rw [trL_len] at hj; rw [trL_getD]; exact ih j hj)
  | fn f cs vs hl _ ih =>
    simp only [AV.tr]
    exact .fn f _ vs (by rw [trL_len]; exact hl) (fun j hj => by rw [trL_len] at hj; rw [trL_getD]; exact ih j hj)
theorem BR.tr {t : Tr} (hM : ∀ g, M' g → M g)
    (hp : ∀ id i m, V id = some m → t.gp id = some i → (∃ m', V' i = some m') ∧ ∀ g, σ id = .pointer (some g) → σ' i = σ id)
    (ho : ∀ id ver i ver' m, V id = some m → ver ≤ m → t.go id ver = some (i, ver') → ∃ m', V' i = some m' ∧ ver' ≤ m' ∧ (ver' = m' → ver = m ∧ σ' i = σ id))
    {id i ver : Nat} (hσ : σ' i = σ id) {b : Blk} (h : BR w M σ V id b) : BR w M' σ' V' i (b.tr t ver) := by
  cases b with
  | var cells =>
    obtain ⟨g, vs, T, h1, h2, h3, h4⟩ := h
    exact ⟨g, vs, T, by rw [hσ]; exact h1, h2, by rw [trL_len]; exact h3, fun j hj => by
      rw [trL_len] at hj
      rw [trL_getD]
      exact ⟨(h4 j hj).1.tr hM hp ho, (h4 j hj).2⟩⟩
  | row v sz n e f =>
    obtain ⟨xs, h0, h1, h2, h3⟩ := h
    exact ⟨xs, h0, by rw [hσ]; exact h1, h2, fun k j hk hj => ⟨(h3 k j hk hj).1.grow (fun _ _ _ => rfl) (fun g _ hg => hM g hg), (h3 k j hk hj).2⟩⟩
  | nilrow v => exact hσ.trans h
  | lrow v sz n e cells =>
    obtain ⟨xs, h0, h0', h1, h2, h3⟩ := h
    exact ⟨xs, h0, h0', by rw [hσ]; exact h1, by rw [trL_len]; exact h2, fun j hj => by
      rw [trL_getD]
      exact ⟨(h3 j hj).1.tr hM hp ho, (h3 j hj).2⟩⟩
  | dead v => trivial

theorem PR.flat {x : AV} {v : Value} (hf : x.flat = true) (h : PR w M x v) : PR w M' x v := by
  cases h with
  | slc sz n f g off cap us hn => simp only [AV.flat] at hf; have := Nat.eq_of_beq_eq_true hf; omega
  | slc0 sz f v h => exact .slc0 sz f v h
  | any1 v h => exact .any1 v h
  | _ => constructor
theorem VR.flat {x : AV} {v : Value} (h : VR w M σ V x v) (hf : x.flat = true) : VR w M' σ V x v := by
  induction h with
  | pure h => exact .pure (h.flat hf)
  | void => exact .void
  | own id ver m v h1 hV hm h => exact .own id ver m v h1 hV hm h
  | ptr id off g m hV h => exact .ptr id off g m hV h
  | rptr id ver sz k off m g b hV hm h => exact .rptr id ver sz k off m g b hV hm h
  | lptr id ver off m g hV hm h => exact .lptr id ver off m g hV hm h
  | pptr => simp [AV.flat] at hf
  | agg cs vs hl _ ih => simp only [AV.flat] at hf; exact .agg cs vs hl (fun j hj => ih j hj (flatL_get hf j))
  | tup cs vs hl _ ih => simp only [AV.flat] at hf; exact .tup cs vs hl (fun j hj => ih j hj (flatL_get hf j))
  | fn f cs vs hl _ ih => simp only [AV.flat] at hf; exact .fn f cs vs hl (fun j hj => ih j hj (flatL_get hf j))
theorem BR.flat {id : Nat} {b : Blk} (h : BR w M σ V id b) (hf : b.flat) : BR w M' σ V id b := by
  cases b with
  | var cells =>
    obtain ⟨g, vs, T, h1, h2, h3, h4⟩ := h
    exact ⟨g, vs, T, h1, h2, h3, fun j hj => ⟨(h4 j hj).1.flat (flatL_get hf j), (h4 j hj).2⟩⟩
  | row v sz n e f =>
    obtain ⟨xs, h0, h1, h2, h3⟩ := h
    exact ⟨xs, h0, h1, h2, fun k j hk hj => ⟨(h3 k j hk hj).1.flat (flatL_get (hf k hk) j), (h3 k j hk hj).2⟩⟩
  | nilrow v => exact h
  | lrow v sz n e cells =>
    obtain ⟨xs, h0, h0', h1, h2, h3⟩ := h
    exact ⟨xs, h0, h0', h1, h2, fun j hj => ⟨(h3 j hj).1.flat (flatL_get hf j), (h3 j hj).2⟩⟩
  | dead v => trivial
theorem tr_ver (t : Tr) (ver : Nat) (b : Blk) : (b.tr t ver).ver = if b.isVar then 0 else ver := by cases b <;> rfl
theorem tr_isVar (t : Tr) (ver : Nat) (b : Blk) : (b.tr t ver).isVar = b.isVar := by cases b <;> rfl
theorem tr_live {t : Tr} {ver : Nat} {b : Blk} : (b.tr t ver).live ↔ b.live := by cases b <;> exact Iff.rfl
end

/-- The blocks of a list, by their places. -/
def Hof (l : List Blk) (id : Nat) : Option Blk := l[id]?
/-- What is known of a function: for each answer that is told, every call comes to it. -/
def Tells (P : Program) (f : FuncId) (S : List AV → List Blk → Option Ans) : Prop :=
  ∀ (xs : List AV) (ins : List Blk) (r : Ans) (x : r.α), S xs ins = some r → r.get = some x →
    (∃ fn, P.funcs[f]? = some fn ∧ fn.body.isSome = true) ∧
    ∀ (F : Fr) (σ : Nat → Value) (w : World) (vs : Array Value), F.w0 = w → (∀ g, F.m0 g ↔ Own (Hof ins) σ g) → RelH F (Hof ins) σ w → vs.size = xs.length →
      (∀ j, j < xs.length → VR w (Mut F (Hof ins) σ) σ (Ver (Hof ins)) (xs.getD j .undef) (vs.getD j Go.undef)) →
      Calls P f vs w fun e w' => ∃ v σ', e = .returned v ∧ RelH F (Hof (r.outs x)) σ' w' ∧ VR w' (Mut F (Hof (r.outs x)) σ') σ' (Ver (Hof (r.outs x))) (r.av x) v ∧
        ins.length ≤ (r.outs x).length ∧ (∀ (j : Nat) b, (r.outs x)[j]? = some b → b.ver ≤ 1 ∧ (ins.length ≤ j → b.ver = 0)) ∧ (∀ id g, id < ins.length → σ id = .pointer (some g) → σ' id = σ id) ∧
        ∀ (id : Nat) b, id < ins.length → (r.outs x)[id]? = some b → b.ver = 0 → b.isVar = false → σ' id = σ id
structure POK (P : Program) : Prop where
  mixed : P.follows .mixedOrders = true
  names : ∀ (f : FuncId) (fn : Func), P.funcs[f]? = some fn → fn.body.isSome = true → fn.name ≠ "runtime.NumGoroutine"

section
variable {P : Program} {F : Fr} {H : Nat → Option Blk} {σ : Nat → Value} {o : Oper} {a : Act} {w : World} {c : Nat}
theorem Good.lookAll : ∀ (ids : List Nat) (k : List Blk → LM EffG), (∀ bs : List Blk, bs.length = ids.length → (∀ (j id : Nat), ids[j]? = some id → ∃ b, bs[j]? = some b ∧ H id = some b) → Good P F H σ o a w c (k bs)) → Good P F H σ o a w c (Ab.lookAll ids k) := by
  intro ids
  induction ids with
  | nil => intro k h; exact h [] rfl (fun j id hj => by simp at hj)
  | cons id ids ih =>
    intro k h
    refine .look fun b hb => ih _ fun bs h1 h2 => h (b :: bs) (by simp [h1]) fun j id' hj => ?_
    cases j with
    | zero => simp at hj; subst hj; exact ⟨b, rfl, hb⟩
    | succ j => simpa using h2 j id' (by simpa using hj)
/-- What lent values are good for. -/
def Lent (F : Fr) (H : Nat → Option Blk) (σ : Nat → Value) (w : World) (bor : List (Nat × Nat)) (x : AV) (v : Value) : Prop :=
  ∀ M' : Nat → Prop, (∀ g, M' g → Mut F H σ g) → (∀ p ∈ bor, ∀ g, blkOf (σ p.1) = some g → ¬ M' g) → VR w M' σ (Ver H) x v
theorem Lent.mono {bor bor' : List (Nat × Nat)} {x : AV} {v : Value} (h : Lent F H σ w bor x v) (hb : ∀ p ∈ bor, p ∈ bor') : Lent F H σ w bor' x v :=
  fun M' hM hn => h M' hM (fun p hp => hn p (hb p hp))
def BorOK (H : Nat → Option Blk) (bor : List (Nat × Nat)) : Prop := ∀ p ∈ bor, ∃ b, H p.1 = some b ∧ b.live ∧ b.ver = p.2
theorem Good.lend0 {v : AV} {k : AV → List (Nat × Nat) → LM EffG} {x : Value} (rel : RelH F H σ w) (hx : VR w (Mut F H σ) σ (Ver H) v x)
    (h : ∀ v' u, BorOK H u → Lent F H σ w u v' x → Good P F H σ o a w c (k v' u)) : Good P F H σ o a w c (Ab.lend0 v k) := by
  by_cases hv : ∃ id ver, v = .own id ver
  · obtain ⟨id, ver, rfl⟩ := hv
    refine .look fun b hb => ?_
    cases b with
    | row ver' sz n e f =>
      cases hq : Nat.beq ver ver' with
      | false => simp only [hq]; exact .fail
      | true =>
        obtain rfl := Nat.eq_of_beq_eq_true hq
        simp only [hq]
        have hval := hx.own_inv (ver_of hb)
        refine h _ _ (fun p hp => ?_) (fun M' hM hnot => ?_)
        · simp only [List.mem_singleton] at hp; subst hp; exact ⟨_, hb, trivial, rfl⟩
        · rw [hval]
          exact .pure ((rel.bl id _ hb).row_slc hM (fun g hg => hnot (id, ver) (List.mem_singleton.2 rfl) g hg))
    | nilrow ver' =>
      cases hq : Nat.beq ver ver' with
      | false => simp only [hq]; exact .fail
      | true =>
        obtain rfl := Nat.eq_of_beq_eq_true hq
        simp only [hq]
        have hval := hx.own_inv (ver_of hb)
        refine h _ _ (fun p hp => by cases hp) (fun M' _ _ => ?_)
        have hnil : σ id = .slice none 0 0 := rel.bl id _ hb
        rw [hval, hnil]
        exact .pure (.slc0 _ _ _ (.inl rfl))
    | _ => exact .fail
  · have e : Ab.lend0 v k = k v [] := by cases v <;> first | rfl | exact absurd ⟨_, _, rfl⟩ hv
    rw [e]
    refine h v [] (fun p hp => by cases hp) (fun M' hM _ => ?_)
    exact hx.grow ⟨Nat.le_refl _, fun _ _ _ => rfl, fun g _ hg => hM g hg, fun _ m h => ⟨m, h, Nat.le_refl _, fun _ => rfl⟩, fun _ _ _ _ _ => rfl⟩
theorem Good.lendL (rel : RelH F H σ w) : ∀ (xs : List AV) (us : List Value), us.length = xs.length → (∀ j, j < xs.length → VR w (Mut F H σ) σ (Ver H) (xs.getD j .undef) (us.getD j Go.undef)) →
    ∀ k : List AV → List (Nat × Nat) → LM EffG, (∀ xs' u, xs'.length = xs.length → BorOK H u → (∀ j, j < xs.length → Lent F H σ w u (xs'.getD j .undef) (us.getD j Go.undef)) → Good P F H σ o a w c (k xs' u)) → Good P F H σ o a w c (Ab.lendL xs k) := by
  intro xs
  induction xs with
  | nil => intro us hl _ k h; exact h [] [] rfl (fun p hp => by cases hp) (fun j hj => by simp at hj)
  | cons x xs ih =>
    intro us hl hc k h
    obtain ⟨u0, us, rfl⟩ : ∃ u us', us = u :: us' := by cases us with
      | nil => simp at hl
      | cons u us' => exact ⟨u, us', rfl⟩
    refine Good.lend0 rel (x := u0) (by simpa using hc 0 (by simp)) fun v' u1 a1 a2 => ?_
    refine ih us (by simpa using hl) (fun j hj => by simpa using hc (j + 1) (by simpa using hj)) _ fun xs' u2 b0 b1 b2 => ?_
    refine h (v' :: xs') (u1 ++ u2) (by simp [b0]) (fun p hp => (List.mem_append.1 hp).elim (a1 p) (b1 p)) (fun j hj => ?_)
    cases j with
    | zero => exact a2.mono fun p hp => List.mem_append.2 (.inl hp)
    | succ j => simpa using (b2 j (by simpa using hj)).mono (fun p hp => List.mem_append.2 (.inr hp))
theorem VR.plain_pr {w : World} {M : Nat → Prop} {V : Nat → Option Nat} {x : AV} {v : Value} (h : VR w M σ V x v) (hp : x.plain = true) : PR w M x v := by
  cases h with
  | pure h => exact h
  | _ => simp [AV.plain] at hp
theorem Good.lend {v : AV} {k : AV → List (Nat × Nat) → LM EffG} {x : Value} (rel : RelH F H σ w) (hx : VR w (Mut F H σ) σ (Ver H) v x)
    (h : ∀ v' u, BorOK H u → Lent F H σ w u v' x → Good P F H σ o a w c (k v' u)) : Good P F H σ o a w c (Ab.lend v k) := by
  by_cases hv : ∃ id ver, v = .own id ver
  · obtain ⟨id, ver, rfl⟩ := hv
    refine .look fun b hb => ?_
    have other : Good P F H σ o a w c (Ab.lend0 (.own id ver) k) := Good.lend0 rel hx h
    cases b with
    | lrow ver' sz n e cells =>
      cases hq : Nat.beq ver ver' with
      | false => simp only [hq]; exact .fail
      | true =>
        obtain rfl := Nat.eq_of_beq_eq_true hq
        simp only [hq]
        have hval := hx.own_inv (ver_of hb)
        obtain ⟨h0, h0', hcl, g, cap, cur, xs, k1, k2, k3, k4, k5, k6, k7, k8⟩ := (rel.bl id _ hb).lrow_cells
        refine Good.lendL rel cells xs (by rw [k1.1, hcl]) (fun j hj => (k8 j (by omega)).2.1) _ fun cells' u c0 c1 c2 => ?_
        cases hpl : allB AV.plain cells' with
        | false => simp only; exact .fail
        | true =>
          simp only
          refine h _ _ (fun p hp => ?_) (fun M' hM hnot => ?_)
          · rcases List.mem_cons.1 hp with rfl | hp
            · exact ⟨_, hb, trivial, rfl⟩
            · exact c1 p hp
          · rw [hval, k2]
            refine .pure (.slc sz n _ g 0 cap (fun k j => xs.getD (k * sz + j) Go.undef) h0' k3 k4 (fun k hk => ?_) (fun k j hk hj => ?_) (fun k j hk hj => ?_))
            · have h2 : (k + 1) * sz ≤ n * sz := Nat.mul_le_mul_right _ hk
              rw [Nat.add_mul, Nat.one_mul] at h2
              rw [rowC_lt hk]
              simp [rowOf]
              omega
            · have hlt := row_ix hk hj
              rw [Nat.zero_add]
              exact ⟨hnot (id, ver) (List.mem_cons_self ..) g (by rw [k2]; rfl), (k8 _ hlt).1, (k8 _ hlt).2.2⟩
            · have hlt := row_ix hk hj
              have e1 : (rowC sz n cells' k).getD j .undef = cells'.getD (k * sz + j) .undef := by
                rw [rowC_lt hk]
                simp [rowOf, List.getD_eq_getElem?_getD, hj, List.getElem?_drop]
              rw [e1]
              refine (c2 _ (by omega) M' hM (fun p hp => hnot p (List.mem_cons_of_mem _ hp))).plain_pr ?_
              refine allB_iff.1 hpl _ ?_
              rw [List.getD_eq_getElem?_getD, List.getElem?_eq_getElem (by omega)]
              exact List.getElem_mem _
    | _ => exact other
  · have e : Ab.lend v k = Ab.lend0 v k := by cases v <;> first | rfl | exact absurd ⟨_, _, rfl⟩ hv
    rw [e]
    exact Good.lend0 rel hx h
theorem Good.lendA (rel : RelH F H σ w) : ∀ (xs : List AV) (us : List Value), us.length = xs.length → (∀ j, j < xs.length → VR w (Mut F H σ) σ (Ver H) (xs.getD j .undef) (us.getD j Go.undef)) →
    ∀ k : List AV → List (Nat × Nat) → LM EffG, (∀ xs' u, xs'.length = xs.length → BorOK H u → (∀ j, j < xs.length → Lent F H σ w u (xs'.getD j .undef) (us.getD j Go.undef)) → Good P F H σ o a w c (k xs' u)) → Good P F H σ o a w c (Ab.lendA xs k) := by
  intro xs
  induction xs with
  | nil => intro us hl _ k h; exact h [] [] rfl (fun p hp => by cases hp) (fun j hj => by simp at hj)
  | cons x xs ih =>
    intro us hl hc k h
    obtain ⟨u0, us, rfl⟩ : ∃ u us', us = u :: us' := by cases us with
      | nil => simp at hl
      | cons u us' => exact ⟨u, us', rfl⟩
    have hx0 : VR w (Mut F H σ) σ (Ver H) x u0 := by simpa using hc 0 (by simp)
    have rest : ∀ v' u1, BorOK H u1 → Lent F H σ w u1 v' u0 → Good P F H σ o a w c (Ab.lendA xs fun vs' us => k (v' :: vs') (u1 ++ us)) := by
      intro v' u1 a1 a2
      refine ih us (by simpa using hl) (fun j hj => by simpa using hc (j + 1) (by simpa using hj)) _ fun xs' u2 b0 b1 b2 => ?_
      refine h (v' :: xs') (u1 ++ u2) (by simp [b0]) (fun p hp => (List.mem_append.1 hp).elim (a1 p) (b1 p)) (fun j hj => ?_)
      cases j with
      | zero => exact a2.mono fun p hp => List.mem_append.2 (.inl hp)
      | succ j => simpa using (b2 j (by simpa using hj)).mono (fun p hp => List.mem_append.2 (.inr hp))
    by_cases hag : ∃ cs, x = .agg cs
    · obtain ⟨cs, rfl⟩ := hag
      obtain ⟨vs, rfl, hvl, hvc⟩ := hx0.agg_inv
      have eg : ∀ j, vs.toList.getD j Go.undef = vs.getD j Go.undef := fun j => by simp [List.getD_eq_getElem?_getD, Array.getD_eq_getD_getElem?]
      refine Good.lendL rel cs vs.toList (by simpa using hvl) (fun j hj => by rw [eg]; exact hvc j hj) _ fun cs' u1 c0 c1 c2 => ?_
      exact rest (.agg cs') u1 c1 (fun M' hM hn => .agg cs' vs (by rw [c0]; exact hvl) (fun j hj => by
        have := c2 j (by omega) M' hM hn
        rwa [eg] at this))
    · have e : Ab.lendA (x :: xs) k = Ab.lend x fun v' u => Ab.lendA xs fun vs' us => k (v' :: vs') (u ++ us) := by cases x <;> first | rfl | exact absurd ⟨_, rfl⟩ hag
      rw [e]
      exact Good.lend rel hx0 rest
theorem Good.lendB (rel : RelH F H σ w) : ∀ (xs : List AV) (us : List Value), us.length = xs.length → (∀ j, j < xs.length → VR w (Mut F H σ) σ (Ver H) (xs.getD j .undef) (us.getD j Go.undef)) →
    ∀ k : List AV → List (Nat × Nat) → LM EffG, (∀ xs' u, xs'.length = xs.length → BorOK H u → (∀ j, j < xs.length → Lent F H σ w u (xs'.getD j .undef) (us.getD j Go.undef)) → Good P F H σ o a w c (k xs' u)) → Good P F H σ o a w c (Ab.lendB xs k) := by
  intro xs
  induction xs with
  | nil => intro us hl _ k h; exact h [] [] rfl (fun p hp => by cases hp) (fun j hj => by simp at hj)
  | cons x xs ih =>
    intro us hl hc k h
    obtain ⟨u0, us, rfl⟩ : ∃ u us', us = u :: us' := by cases us with
      | nil => simp at hl
      | cons u us' => exact ⟨u, us', rfl⟩
    have hx0 : VR w (Mut F H σ) σ (Ver H) x u0 := by simpa using hc 0 (by simp)
    have rest : ∀ v' u1, BorOK H u1 → Lent F H σ w u1 v' u0 → Good P F H σ o a w c (Ab.lendB xs fun vs' us => k (v' :: vs') (u1 ++ us)) := by
      intro v' u1 a1 a2
      refine ih us (by simpa using hl) (fun j hj => by simpa using hc (j + 1) (by simpa using hj)) _ fun xs' u2 b0 b1 b2 => ?_
      refine h (v' :: xs') (u1 ++ u2) (by simp [b0]) (fun p hp => (List.mem_append.1 hp).elim (a1 p) (b1 p)) (fun j hj => ?_)
      cases j with
      | zero => exact a2.mono fun p hp => List.mem_append.2 (.inl hp)
      | succ j => simpa using (b2 j (by simpa using hj)).mono (fun p hp => List.mem_append.2 (.inr hp))
    by_cases hag : ∃ cs, x = .agg cs
    · obtain ⟨cs, rfl⟩ := hag
      obtain ⟨vs, rfl, hvl, hvc⟩ := hx0.agg_inv
      have eg : ∀ j, vs.toList.getD j Go.undef = vs.getD j Go.undef := fun j => by simp [List.getD_eq_getElem?_getD, Array.getD_eq_getD_getElem?]
      refine Good.lendL rel cs vs.toList (by simpa using hvl) (fun j hj => by rw [eg]; exact hvc j hj) _ fun cs' u1 c0 c1 c2 => ?_
      exact rest (.agg cs') u1 c1 (fun M' hM hn => .agg cs' vs (by rw [c0]; exact hvl) (fun j hj => by
        have := c2 j (by omega) M' hM hn
        rwa [eg] at this))
    · by_cases how : ∃ id ver, x = .own id ver
      · obtain ⟨id, ver, rfl⟩ := how
        exact rest (.own id ver) [] (fun p hp => by cases hp) (fun M' hM _ => hx0.grow ⟨Nat.le_refl _, fun _ _ _ => rfl, fun g _ hg => hM g hg, fun _ m h => ⟨m, h, Nat.le_refl _, fun _ => rfl⟩, fun _ _ _ _ _ => rfl⟩)
      · have e : Ab.lendB (x :: xs) k = Ab.lend x fun v' u => Ab.lendB xs fun vs' us => k (v' :: vs') (u ++ us) := by cases x <;> first | rfl | exact absurd ⟨_, rfl⟩ hag | exact absurd ⟨_, _, rfl⟩ how
        rw [e]
        exact Good.lend rel hx0 rest
end

theorem idx_some {ids : List Nat} {y i : Nat} (h : idx ids y = some i) : ids[i]? = some y := by
  induction ids generalizing i with
  | nil => simp [idx] at h
  | cons x xs ih =>
    unfold idx at h
    cases hb : Nat.beq x y with
    | true => simp only [hb, Option.some.injEq] at h; subst h; rw [Nat.eq_of_beq_eq_true hb]; rfl
    | false =>
      simp only [hb] at h
      cases hi : idx xs y with
      | none => simp [hi] at h
      | some j => simp only [hi, Option.some.injEq] at h; subst h; simpa using ih hi
theorem idx_none {ids : List Nat} {y : Nat} (h : idx ids y = none) : y ∉ ids := by
  induction ids with
  | nil => simp
  | cons x xs ih =>
    unfold idx at h
    cases hb : Nat.beq x y with
    | true => simp [hb] at h
    | false =>
      simp only [hb] at h
      cases hi : idx xs y with
      | some j => simp [hi] at h
      | none =>
        have hne : x ≠ y := fun e => by rw [e, Nat.beq_refl] at hb; cases hb
        intro hm
        rcases List.mem_cons.1 hm with e | hm
        · exact hne e.symm
        · exact ih hi hm
theorem idx_mem {ids : List Nat} {y : Nat} (h : y ∈ ids) : ∃ i, idx ids y = some i := by
  cases hi : idx ids y with
  | some i => exact ⟨i, rfl⟩
  | none => exact absurd h (idx_none hi)
theorem addNew_nodup {ids : List Nat} {y : Nat} (h : ids.Nodup) : (addNew ids y).Nodup := by
  unfold addNew
  cases hi : idx ids y with
  | some i => exact h
  | none => exact List.nodup_append.2 ⟨h, by simp, fun a ha b hb => by simp at hb; subst hb; exact fun e => idx_none hi (e ▸ ha)⟩
theorem fold_nodup : ∀ (l ids : List Nat), ids.Nodup → (l.foldl addNew ids).Nodup := by
  intro l
  induction l with
  | nil => intro ids h; exact h
  | cons y l ih => intro ids h; exact ih _ (addNew_nodup h)
theorem idx_nodup {ids : List Nat} (h : ids.Nodup) {i y : Nat} (hi : ids[i]? = some y) : idx ids y = some i := by
  obtain ⟨j, hj⟩ := idx_mem (List.mem_of_getElem? hi)
  have h2 := idx_some hj
  have : j = i := (List.getElem?_inj (List.getElem?_eq_some_iff.1 h2).1 h).1 (h2.trans hi.symm)
  rw [hj, this]
end Go.Proofs.Ythkdmemkjojmoaa.Ab
