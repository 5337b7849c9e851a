/- The plain evaluator's operations are right: all of them. -/
import Derived.Test.YthkdmemkjojmoaaZD3
import Derived.Laws.MakeOwn
namespace Go.Proofs.Ythkdmemkjojmoaa.Ab
open Go

section
variable {P : Program} {F : Fr} {H : Nat → Option Blk} {σ : Nat → Value} {o : Oper} {a : Act} {w : World} {c : Nat}
theorem ok_call {E : Env} {g : FuncId} {xs : List AV} {vs : Array Value} (hP : POK P) (hfs : ∀ f, Tells P f (E.fs f)) (rel : RelH F H σ w) (hn : ∀ j, j < 64 → H (c + j) = none)
    (hrun : ∀ fn, P.funcs[g]? = some fn → fn.body.isSome = true → fn.name ≠ "runtime.NumGoroutine" → (execOp a.eval o).run P w = .ok (.enter g vs) w)
    (hl : vs.size = xs.length) (hx : ∀ j, j < xs.length → VR w (Mut F H σ) σ (Ver H) (xs.getD j .undef) (vs.getD j Go.undef)) :
    Good P F H σ o a w c (acall E g xs c) := by
  unfold acall
  dsimp only
  generalize (E.live (2000000 + g)).isSome = mt
  refine Good.lookAll _ _ fun bs0 _ _ => ?_
  refine Good.lookAll _ _ fun bs1 _ _ => ?_
  refine Good.lookAll _ _ fun bs2 _ _ => ?_
  have hnd : (grow1 (grow1 (grow1 ((match mt with | true => directOwns xs ++ AV.ptrsL xs | false => AV.ptrsL xs).foldl addNew []) bs0) bs1) bs2).Nodup := fold_nodup _ _ (fold_nodup _ _ (fold_nodup _ _ (fold_nodup _ _ List.nodup_nil)))
  generalize grow1 (grow1 (grow1 ((match mt with | true => directOwns xs ++ AV.ptrsL xs | false => AV.ptrsL xs).foldl addNew []) bs0) bs1) bs2 = ids at hnd
  refine Good.lookAll _ _ fun bs hbl hbs => ?_
  have eg : ∀ j, vs.toList.getD j Go.undef = vs.getD j Go.undef := fun j => by simp [List.getD_eq_getElem?_getD, Array.getD_eq_getD_getElem?]
  have both : ∀ k : List AV → List (Nat × Nat) → LM EffG, (∀ xs' u, xs'.length = xs.length → BorOK H u → (∀ j, j < xs.length → Lent F H σ w u (xs'.getD j .undef) (vs.toList.getD j Go.undef)) → Good P F H σ o a w c (k xs' u)) → Good P F H σ o a w c ((match mt with | true => lendB xs | false => lendA xs) k) := by
    intro k hk
    cases mt with
    | true => exact Good.lendB rel xs vs.toList (by simpa using hl) (fun j hj => by rw [eg]; exact hx j hj) _ hk
    | false => exact Good.lendA rel xs vs.toList (by simpa using hl) (fun j hj => by rw [eg]; exact hx j hj) _ hk
  refine both _ fun xs' bor b0 b1 b2 => ?_
  cases hq : notIn ids bor with
  | false => exact .fail
  | true =>
    dsimp only
    have hni : ∀ p ∈ bor, p.1 ∉ ids := by
      intro p hp hm
      have := allB_iff.1 hq p hp
      obtain ⟨i, hi⟩ := idx_mem hm
      rw [hi] at this
      cases this
    cases hf : E.fs g (AV.trL (trIn ids (bs.map Blk.ver)) xs') (trIns (trIn ids (bs.map Blk.ver)) bs) with
    | none => exact .fail
    | some r =>
      dsimp only
      refine .ret64 fun x _ hg h64 => ?_
      obtain ⟨⟨fn, f1, f2⟩, hsem⟩ := hfs g _ _ r x hf hg
      obtain ⟨c1, c2, c3⟩ := call_in (us := vs.toList) rel ids hnd bs hbl hbs bor b1 hni xs' (by rw [b0]; exact b2)
      have hcall := hsem _ _ w vs rfl (fun _ => Iff.rfl) c1 (by rw [trL_len, b0]; exact hl) (fun j hj => by
        rw [trL_len] at hj
        have := c2 j hj
        rwa [eg] at this)
      intro K Q hK
      unfold Oper.wp
      rw [hrun fn f1 f2 (hP.names g fn f1 f2)]
      show Calls P g vs w _
      refine hcall.mono fun e w' he => ?_
      obtain ⟨v, σ1, rfl, relc, hv, hol, hov, hptr, hkp⟩ := he
      rw [trIns_len, hbl] at hol
      rw [trIns_len, hbl] at hptr
      rw [trIns_len, hbl] at hov
      rw [trIns_len, hbl] at hkp
      have hdl : deadsOf bor (r.fl x) = [] ∧ (bor = [] ∨ r.fl x = true) ∨ deadsOf bor (r.fl x) = bor.map fun p => (p.1, Blk.dead (p.2 + 1)) := by
        cases hb : bor with
        | nil => exact .inl ⟨rfl, .inl rfl⟩
        | cons p ps =>
          cases hr : r.fl x with
          | true => exact .inl ⟨rfl, .inr rfl⟩
          | false => exact .inr rfl
      obtain ⟨σ', n1, n2⟩ := call_out rel hn ids hnd bs hbl hbs bor b1 hni (r.outs x) hol (by simpa using h64) hov (r.av x) v w' σ1 (r.fl x) (r.hfl x) _
        (by rcases hdl with ⟨h1, h2 | h2⟩ | h1
            · exact .inl ⟨h2, h1⟩
            · exact .inr (.inl ⟨h2, h1⟩)
            · exact .inr (.inr h1))
        _ _ _ (fun j b' h => by
          obtain ⟨id, b, e1, e2, e3, e4⟩ := c3 j b' h
          exact ⟨id, b, e1, e2, e3, fun h => by rw [e4] at h; exact tr_live.1 h⟩) (fun j id h => by show σ (ids.getD j 0) = _; rw [List.getD_eq_getElem?_getD, h]; rfl) rfl (fun _ => Iff.rfl) rfl relc hv hptr hkp
      exact hK v w' σ' n1.1 n2 n1.2

theorem forgetA_len (l : Option (List Nat × List Nat)) : ∀ (xs : List AV) (i : Nat), (forgetA l i xs).length = xs.length := by
  intro xs
  induction xs with
  | nil => intro i; rfl
  | cons x xs ih => intro i; simp only [forgetA, List.length_cons, ih]
theorem forget1_rel {M : Nat → Prop} {V : Nat → Option Nat} {x : AV} {u : Value} (h : VR w M σ V x u) : VR w M σ V (forget1 x) u := by
  cases x with
  | own id ver =>
    cases h with
    | pure h => cases h
    | own id ver m v h1 _ _ _ => exact .pure (.any1 _ h1)
  | _ => exact h
theorem forgetV_rel {M : Nat → Prop} {V : Nat → Option Nat} {x : AV} {u : Value} (h : VR w M σ V x u) : VR w M σ V (forgetV x) u := by
  cases x with
  | agg cs =>
    obtain ⟨us, rfl, u2, u3⟩ := h.agg_inv
    refine .agg _ us (by rw [List.length_map]; exact u2) fun j hj => ?_
    rw [List.length_map] at hj
    have e : (cs.map forget1).getD j .undef = forget1 (cs.getD j .undef) := by
      simp [List.getD_eq_getElem?_getD, hj]
    rw [e]
    exact forget1_rel (u3 j hj)
  | own id ver => exact forget1_rel h
  | _ => exact h
theorem forgetA_rel {M : Nat → Prop} {V : Nat → Option Nat} (l : Option (List Nat × List Nat)) : ∀ (xs : List AV) (i : Nat) (u : Nat → Value), (∀ j, j < xs.length → VR w M σ V (xs.getD j .undef) (u j)) → ∀ j, j < xs.length → VR w M σ V ((forgetA l i xs).getD j .undef) (u j) := by
  intro xs
  induction xs with
  | nil => intro i u _ j hj; simp at hj
  | cons x xs ih =>
    intro i u h j hj
    cases j with
    | zero =>
      have h0 := h 0 (by simp)
      simp only [forgetA, List.getD_cons_zero] at h0 ⊢
      split
      · exact h0
      · split
        · exact forgetV_rel h0
        · exact h0
    | succ j =>
      have := ih (i + 1) (fun j => u (j + 1)) (fun j hj => by simpa using h (j + 1) (by simpa using hj)) j (by simpa using hj)
      simpa [forgetA] using this
theorem ok_callF {E : Env} {g : FuncId} {xs : List AV} {vs : Array Value} (l : Option (List Nat × List Nat)) (hP : POK P) (hfs : ∀ f, Tells P f (E.fs f)) (rel : RelH F H σ w) (hn : ∀ j, j < 64 → H (c + j) = none)
    (hrun : ∀ fn, P.funcs[g]? = some fn → fn.body.isSome = true → fn.name ≠ "runtime.NumGoroutine" → (execOp a.eval o).run P w = .ok (.enter g vs) w)
    (hl : vs.size = xs.length) (hx : ∀ j, j < xs.length → VR w (Mut F H σ) σ (Ver H) (xs.getD j .undef) (vs.getD j Go.undef)) :
    Good P F H σ o a w c (acall E g (forgetA l 0 xs) c) :=
  ok_call hP hfs rel hn hrun (by rw [forgetA_len]; exact hl) (fun j hj => forgetA_rel l xs 0 (fun j => vs.getD j Go.undef) hx j (by rw [forgetA_len] at hj; exact hj))
theorem resolve_fn {ρ : Operand → Value} {cl : Call} {f : Operand} {type : TypeId} {g : FuncId} {caps : Array Value} (hc : cl.callee = .value f) (hf : ρ f = .func (.func g) #[] caps) {fn : Func} (f1 : P.funcs[g]? = some fn) (f2 : fn.body.isSome = true) (f3 : fn.name ≠ "runtime.NumGoroutine") :
    (do let d ← resolve ρ cl type; invoke d.target d.args : Go.Sem Next).run P w = .ok (.enter g (cl.args.map ρ ++ caps)) w := by
  have f4 : fn.body.isNone = false := by cases h : fn.body <;> simp [h] at f2 ⊢
  have f5 : (fn.name == "runtime.NumGoroutine") = false := by simpa using f3
  unfold resolve
  simp only [hc, hf, Deferred.ofValue, Sem.run_bind, Sem.run_pure, Result.andThen_ok, invoke, callFunc, run_program, f1, f5, f4, Bool.false_eq_true, if_false]
  simp

theorem ok_len {types : Array TypeId} {type : TypeId} {ti : TI} {t e : TypeId} {x : AV} {v : Value} (ht0 : types[0]? = some t) (ht : ttOf P t = some ti) (hk : ti.kind = .slice e) (rel : RelH F H σ w) (hx : VR w (Mut F H σ) σ (Ver H) x v)
    (hrun : ∀ u, (Builtin.len_ types type #[v]).run P w = .ok u w → (execOp a.eval o).run P w = .ok (.value u) w) (hs : ∀ s, x ≠ .str s) :
    Good P F H σ o a w c (ablen x fun n => .ret (.val (.int .i64 n))) := by
  obtain ⟨i, d, z, h1, h2, h3, h4, _⟩ := tt_info ht
  have hd : d = .slice e := kind_slice (by rw [h4] at hk; exact hk)
  subst hd
  have key : ∀ (a' : Option Addr) (n cap : Nat), v = .slice a' n cap → Good P F H σ o a w c (.ret (.val (.int .i64 n))) := by
    intro a' n cap hv
    refine .val rel (.int .i64 n) (hrun _ ?_) (.pure (.int _ _))
    rw [hv]
    simp [Builtin.len_, ht0, run_underlying h2, goInt]
  unfold ablen
  cases x with
  | slc sz n f =>
    obtain ⟨a', cap, hv, _⟩ := hx.slc_inv.slc_len
    exact key a' n cap hv
  | str s => exact absurd rfl (hs s)
  | own id ver =>
    refine .look fun b hb => ?_
    cases b with
    | row ver' sz n e' f =>
      cases hq : Nat.beq ver ver' with
      | false => simp only [hq]; exact .fail
      | true =>
        obtain rfl := Nat.eq_of_beq_eq_true hq
        simp only [hq]
        have hval := hx.own_inv (ver_of hb)
        obtain ⟨_, _, xs, g1, _, _⟩ := (rel.bl id _ hb).row_cells
        rcases g1.2 with ⟨h, hn⟩ | ⟨g, cap, cur, h, _⟩
        · rw [hn]; exact key _ 0 0 (by rw [hval, h])
        · exact key _ n cap (by rw [hval, h])
    | nilrow ver' =>
      cases hq : Nat.beq ver ver' with
      | false => simp only [hq]; exact .fail
      | true =>
        obtain rfl := Nat.eq_of_beq_eq_true hq
        simp only [hq]
        have hval := hx.own_inv (ver_of hb)
        have hnil : σ id = .slice none 0 0 := rel.bl id _ hb
        exact key _ 0 0 (by rw [hval, hnil])
    | lrow ver' sz n e' cells =>
      cases hq : Nat.beq ver ver' with
      | false => simp only [hq]; exact .fail
      | true =>
        obtain rfl := Nat.eq_of_beq_eq_true hq
        simp only [hq]
        have hval := hx.own_inv (ver_of hb)
        obtain ⟨_, _, _, g, cap, _, _, _, k2, _⟩ := (rel.bl id _ hb).lrow_cells
        exact key _ n cap (by rw [hval, k2])
    | _ => exact .fail
  | _ => exact .fail

theorem ok_nil {op : BinOp} {T Ty : TypeId} {x y : Operand} (ho : o.op = .binOp op T x y Ty) (hn : isNilC y = true) (rel : RelH F H σ w) {p : AV} (hx : VR w (Mut F H σ) σ (Ver H) p (a.eval x)) :
    Good P F H σ o a w c (anil (ttOf P) op T p) := by
  have hy : a.eval y = .slice none 0 0 := by
    unfold isNilC at hn
    split at hn
    · rfl
    · cases hn
  unfold anil
  split
  · rename_i e b hk hb
    obtain ⟨ti, ht, hq⟩ := Option.map_eq_some_iff.1 hk
    obtain ⟨i, d, z, h1, h2, h3, h4, _⟩ := tt_info ht
    have hd : d = .slice e := kind_slice (by rw [h4] at hq; exact hq)
    subst hd
    have hrun : ∀ (a' : Option Addr) (n cap : Nat), a.eval x = .slice a' n cap → (execOp a.eval o).run P w = .ok (.value (.bool (match b with | true => a'.isNone | false => !a'.isNone))) w := by
      intro a' n cap hv
      refine run_v (s := do eqGuard op T x y (a.eval x) (a.eval y); binOp op T (a.eval x) (a.eval y)) (by simp [execOp, ho]) ?_
      rw [hv, hy]
      have hg : ∀ op, (eqGuard op T x y (.slice a' n cap) (.slice none 0 0)).run P w = .ok () w := by intro op; unfold eqGuard; cases op <;> rfl
      have heq : (Op.equal T (.slice a' n cap) (.slice none 0 0)).run P w = .ok a'.isNone w := by
        unfold Op.equal Op.maxDepth
        rw [show (10000 : Nat) = 9999 + 1 from rfl]
        unfold Op.equalIn
        cases a' <;> simp [run_underlying h2]
      cases op with
      | eql => obtain rfl : true = b := Option.some.inj hb; simp [hg, binOp, heq]
      | neq => obtain rfl : false = b := Option.some.inj hb; simp [hg, binOp, heq]
      | _ => cases hb
    have full : ∀ (g : Addr) (n cap : Nat), a.eval x = .slice (some g) n cap → (execOp a.eval o).run P w = .ok (.value (.bool !b)) w := fun g n cap hv => by
      rw [hrun _ n cap hv]
      cases b <;> rfl
    split
    · rename_i sz n f
      refine .when rel fun hq => ?_
      have hq := of_decide_eq_true hq
      have hp := hx.slc_inv
      generalize hv : a.eval x = v at hp
      cases hp with
      | slc0 sz f v h => omega
      | slc sz n f g off cap us hn hc hm hl hg hp => exact ⟨_, full _ n cap hv, .pure (.bool _)⟩
    · rename_i id ver
      refine .look fun b' hb' => ?_
      cases b' with
      | row ver' sz n e' f =>
        cases hq : Nat.beq ver ver' with
        | false => simp only [hq]; exact .fail
        | true =>
          obtain rfl := Nat.eq_of_beq_eq_true hq
          simp only [hq]
          have hval := hx.own_inv (ver_of hb')
          obtain ⟨_, _, xs, _, _, g4⟩ := (rel.bl id _ hb').row_cells
          refine .when rel fun hq => ?_
          obtain ⟨g, cap, _, e1, _⟩ := g4 (of_decide_eq_true hq)
          exact ⟨_, full _ n cap (by rw [hval, e1]), .pure (.bool _)⟩
      | nilrow ver' =>
        cases hq : Nat.beq ver ver' with
        | false => simp only [hq]; exact .fail
        | true =>
          obtain rfl := Nat.eq_of_beq_eq_true hq
          simp only [hq]
          have hval := hx.own_inv (ver_of hb')
          have hnil : σ id = .slice none 0 0 := rel.bl id _ hb'
          refine .val rel (.bool b) ?_ (.pure (.bool _))
          rw [hrun none 0 0 (by rw [hval, hnil])]
          cases b <;> rfl
      | _ => exact .fail
    · exact .fail
  · exact .fail
theorem ok_make {T e : TypeId} {l m : Operand} {ei : TI} {kl km : IntKind} {n q : Int} (ho : o.op = .makeSlice T l m) (ht : elemOf? (ttOf P) T = some (e, ei)) (rel : RelH F H σ w) (hl : a.eval l = .int kl n) (hm : a.eval m = .int km q) (hn : ∀ j, j < 64 → H (c + j) = none) :
    Good P F H σ o a w c (.ret ⟨decide (0 ≤ n ∧ n ≤ q ∧ q * ei.bytes ≤ 140737488355328 ∧ q ≤ 1099511627776), Unit, some (), fun _ => ⟨.own c 0, [], [.row 0 ei.size n.toNat e fun _ => zplain ei.zero]⟩⟩) := by
  obtain ⟨hut, he, hsz0⟩ := elem_info ht
  obtain ⟨i, d, z, h1, h2, h3, h4, h5, h6⟩ := tt_info he
  have hs : ei.size = i.size := by rw [h4]
  have hby : ei.bytes = i.bytes := by rw [h4]
  have hz : ei.zero = z.cells.toList.map zcOf := by rw [h4]
  have hzl : (zplain ei.zero).length = ei.size := by rw [zplain_len, hz, hs, List.length_map, Array.length_toList, h6]
  have hc0 : H c = none := by simpa using hn 0 (by omega)
  have hcs : z.cells.size = ei.size := by rw [h6, hs]
  refine .ret fun _ hr _ => ?_
  obtain ⟨q1, q2, q3, q4⟩ := of_decide_eq_true hr
  have hr2 := run_make (P := P) w T e i z hut h1 h3 kl km n q q1 q2 (by rw [← hby, Int.mul_comm]; omega) (by omega)
  have zc : ∀ j, j < q.toNat * ei.size → (madeCells z.cells (q.toNat * i.size)).getD j Go.undef = z.cells.getD (j % ei.size) Go.undef := by
    intro j hj
    have hmm : j % ei.size < z.cells.size := by rw [hcs]; exact Nat.mod_lt _ hsz0
    unfold madeCells
    rw [Array.getD_eq_getD_getElem?]
    simp only [Array.getElem?_map, hcs]
    rw [Array.getElem?_eq_getElem (by rw [← hs]; simpa using hj)]
    simp only [Array.getElem_range, Option.map_some, Option.getD_some]
    rw [getElem!_pos z.cells _ hmm, Array.getD_eq_getD_getElem?, Array.getElem?_eq_getElem hmm]
    rfl
  have n1 := rel.addRow c hc0 ei.size n.toNat q.toNat e (fun _ => zplain ei.zero) (madeCells z.cells (q.toNat * i.size)) hsz0 (by omega) (by unfold maxLen; omega) (by rw [size_madeCells, hs]) (fun k _ => hzl) (fun k j hk hj => by
    have hlt := row_ix (n := q.toNat) (show k < q.toNat by omega) hj
    have e2 : (k * ei.size + j) % ei.size = j := by rw [Nat.mul_comm, Nat.mul_add_mod, Nat.mod_eq_of_lt hj]
    rw [zc _ hlt, e2]
    have hm : j < z.cells.size := by rw [hcs]; exact hj
    have e : z.cells.getD j Go.undef = z.cells.toList.getD j Go.undef := by simp [List.getD_eq_getElem?_getD, Array.getD_eq_getD_getElem?]
    rw [e]
    refine ⟨by rw [hz]; exact zplain_rel z.cells.toList _ (by simpa using hm), h5 _ ?_⟩
    rw [List.getD_eq_getElem?_getD, List.getElem?_eq_getElem (by simpa using hm)]
    exact List.getElem_mem _)
  exact .step (H' := upd H c (some (.row 0 ei.size n.toNat e fun _ => zplain ei.zero))) (.slice (some ⟨w.heap.size, 0, none⟩) n.toNat q.toNat) _ _ rfl (run_v (s := Instr.makeSlice T (a.eval l) (a.eval m)) (by simp [execOp, ho]) (by rw [hl, hm]; exact hr2)) n1 (.own c 0 0 _ rfl (by simp [Ver, Blk.ver]) (Nat.le_refl _) (fun _ => (upd_same _ _ _).symm))
theorem ok_make_free {T e : TypeId} {l m : Operand} {ei : TI} {kl km : IntKind} {n q : Int} (ho : o.op = .makeSlice T l m) (ht : elemOf? (ttOf P) T = some (e, ei)) (rel : RelH F H σ w) (hl : a.eval l = .int kl n) (hm : a.eval m = .int km q) :
    Good P F H σ o a w c (.ret (.when (decide (0 ≤ n ∧ n ≤ q ∧ q * ei.bytes ≤ 140737488355328 ∧ q ≤ 1099511627776)) (.slc ei.size n.toNat fun _ => zplain ei.zero))) := by
  obtain ⟨hut, he, hsz0⟩ := elem_info ht
  obtain ⟨i, d, z, h1, h2, h3, h4, h5, h6⟩ := tt_info he
  have hs : ei.size = i.size := by rw [h4]
  have hby : ei.bytes = i.bytes := by rw [h4]
  have hz : ei.zero = z.cells.toList.map zcOf := by rw [h4]
  have hzl : (zplain ei.zero).length = ei.size := by rw [zplain_len, hz, hs, List.length_map, Array.length_toList, h6]
  have hcs : z.cells.size = ei.size := by rw [h6, hs]
  refine .ret fun _ hr _ => ?_
  obtain ⟨q1, q2, q3, q4⟩ := of_decide_eq_true hr
  show EffOK P F H σ o a w c ⟨_, [], []⟩
  have hr2 := run_make (P := P) w T e i z hut h1 h3 kl km n q q1 q2 (by rw [← hby, Int.mul_comm]; omega) (by omega)
  have zc : ∀ j, j < q.toNat * ei.size → (madeCells z.cells (q.toNat * i.size)).getD j Go.undef = z.cells.getD (j % ei.size) Go.undef := by
    intro j hj
    have hmm : j % ei.size < z.cells.size := by rw [hcs]; exact Nat.mod_lt _ hsz0
    unfold madeCells
    rw [Array.getD_eq_getD_getElem?]
    simp only [Array.getElem?_map, hcs]
    rw [Array.getElem?_eq_getElem (by rw [← hs]; simpa using hj)]
    simp only [Array.getElem_range, Option.map_some, Option.getD_some]
    rw [getElem!_pos z.cells _ hmm, Array.getD_eq_getD_getElem?, Array.getElem?_eq_getElem hmm]
    rfl
  have n1 := rel.addFree (.cells (madeCells z.cells (q.toNat * i.size)) e)
  have hnew : (w.alloc (.cells (madeCells z.cells (q.toNat * i.size)) e)).heap[w.heap.size]? = some (.cells (madeCells z.cells (q.toNat * i.size)) e) := heap_alloc_new w _
  have hnm : ¬ Mut F H σ w.heap.size := by
    rintro (hm | ⟨id, b, e1, e2, e3⟩)
    · have := rel.mxl _ hm
      have := rel.size
      omega
    · have := (rel.new id b _ e1 e2 e3).1
      omega
  refine .step (H' := H) (.slice (some ⟨w.heap.size, 0, none⟩) n.toNat q.toNat) _ σ rfl (run_v (s := Instr.makeSlice T (a.eval l) (a.eval m)) (by simp [execOp, ho]) (by rw [hl, hm]; exact hr2)) n1 (.pure ?_)
  by_cases h0 : n.toNat = 0
  · rw [h0]
    exact .slc0 _ _ _ (.inr ⟨_, _, rfl, by unfold maxLen; omega⟩)
  · refine .slc ei.size n.toNat _ w.heap.size 0 q.toNat (fun k j => (madeCells z.cells (q.toNat * i.size)).getD (k * ei.size + j) Go.undef) (by omega) (by omega) (by unfold maxLen; omega) (fun _ _ => hzl) (fun k j hk hj => ?_) (fun k j hk hj => ?_)
    · have hlt := row_ix (n := q.toNat) (show k < q.toNat by omega) hj
      have hsz : k * ei.size + j < (madeCells z.cells (q.toNat * i.size)).size := by rw [size_madeCells, ← hs]; exact hlt
      have e2 : (k * ei.size + j) % ei.size = j := by rw [Nat.mul_comm, Nat.mul_add_mod, Nat.mod_eq_of_lt hj]
      refine ⟨hnm, ?_, ?_⟩
      · rw [Nat.zero_add]
        simp only [World.cell?, hnew]
        simp [Array.getD, hsz]
      · rw [zc _ hlt, e2]
        have hm : j < z.cells.size := by rw [hcs]; exact hj
        have e : z.cells.getD j Go.undef = z.cells.toList.getD j Go.undef := by simp [List.getD_eq_getElem?_getD, Array.getD_eq_getD_getElem?]
        rw [e]
        refine h5 _ ?_
        rw [List.getD_eq_getElem?_getD, List.getElem?_eq_getElem (by simpa using hm)]
        exact List.getElem_mem _
    · have hlt := row_ix (n := q.toNat) (show k < q.toNat by omega) hj
      have e2 : (k * ei.size + j) % ei.size = j := by rw [Nat.mul_comm, Nat.mul_add_mod, Nat.mod_eq_of_lt hj]
      rw [zc _ hlt, e2]
      have hm : j < z.cells.size := by rw [hcs]; exact hj
      have e : z.cells.getD j Go.undef = z.cells.toList.getD j Go.undef := by simp [List.getD_eq_getElem?_getD, Array.getD_eq_getD_getElem?]
      rw [e, hz]
      exact zplain_rel z.cells.toList _ (by simpa using hm)
theorem aop_ok {E : Env} {ρ : Operand → AV} (hE : E.tt = ttOf P) (hP : POK P) (hfs : ∀ f, Tells P f (E.fs f)) (rel : RelH F H σ w) (hρ : ∀ x, VR w (Mut F H σ) σ (Ver H) (ρ x) (a.eval x)) (hn : ∀ j, j < 64 → H (c + j) = none) :
    Good P F H σ o a w c (aop E o ρ c) := by
  have hc0 : H c = none := by simpa using hn 0 (by omega)
  unfold aop
  rw [hE]
  cases ho : o.op with
  | move x => exact ok_move (.inl ho) rel (hρ x) hc0
  | assign x => exact ok_move (.inr ho) rel (hρ x) hc0
  | pick t x y =>
    dsimp only
    split
    · rename_i t' ht
      have h1 := hρ t
      rw [ht] at h1
      refine .val rel (if t' then a.eval x else a.eval y) ?_ (apick_rel (hρ x) (hρ y))
      simp [execOp, ho, h1.bool_inv, asBool]
    · exact .fail
  | alloc T =>
    dsimp only
    split
    · rename_i ti ht; exact ok_alloc ho ht rel hn
    · exact .fail
  | box T x => exact ok_box ho rel (hρ x) hn
  | build T parts =>
    dsimp only
    split
    · rename_i ti ht
      split
      · rename_i fs hk
        split
        · exact .fail
        · rename_i hall
          split
          · rename_i cells hf
            exact ok_build ho ht hk hall rel hρ hn hf
          · exact .fail
      · exact .fail
    · exact .fail
  | buildSlice T len parts =>
    dsimp only
    split
    · rename_i e ei ht
      split
      · rename_i hlen
        split
        · rename_i cells hf
          exact ok_buildSlice ho ht hlen rel hρ hn hf _
        · exact .fail
      · exact .fail
    · exact .fail
  | load T x =>
    dsimp only
    split
    · rename_i ti ht; exact ok_aload ho ht rel (hρ x)
    · exact .fail
  | store T x y =>
    dsimp only
    split
    · rename_i ti ht; exact ok_astore ho ht rel hn (hρ x) (hρ y)
    · exact .fail
  | nilCheck x =>
    dsimp only
    have hx := hρ x
    split <;> rename_i hq <;> (try rw [hq] at hx)
    · obtain ⟨g, h1, h2, m, hm⟩ := hx.ptr_inv
      exact .val rel _ (by simp [execOp, ho, h2]) (.ptr _ _ g m hm h1)
    · generalize hv : a.eval x = v at hx
      cases hx with
      | pure h => cases h
      | rptr id ver sz k off' m g b hV hm h => exact .val rel _ (by simp [execOp, ho, hv]) (.rptr _ _ _ _ _ m g b hV hm h)
    · obtain ⟨g, o', us, he, hg, hp⟩ := hx.pptr_inv
      exact .val rel _ (by simp [execOp, ho, he]) (.pptr _ _ g o' us hg hp)
    · generalize hv : a.eval x = v at hx
      cases hx with
      | pure h => cases h
      | lptr id ver off' m g hV hm h => exact .val rel _ (by simp [execOp, ho, hv]) (.lptr _ _ _ m g hV hm h)
    · obtain ⟨vs, h1, h2, h3⟩ := hx.fn_inv
      exact .val rel _ (by simp [execOp, ho, h1]) (.fn _ _ vs h2 h3)
    · exact .fail
  | binOp op T x y Ty =>
    dsimp only
    cases hnl : isNilC y with
    | true => exact ok_nil ho hnl rel (hρ x)
    | false => exact ok_bin ho rel (hρ x) (hρ y)
  | makeSlice T l m =>
    dsimp only
    split
    · rename_i e ei kl n km q ht hl hm
      have v1 := hρ l
      have v2 := hρ m
      rw [hl] at v1
      rw [hm] at v2
      split
      · exact ok_make ho ht rel v1.int_inv v2.int_inv hn
      · exact ok_make_free ho ht rel v1.int_inv v2.int_inv
    · exact .fail
  | unOp op T x => exact ok_un ho rel (hρ x)
  | convert s d x =>
    dsimp only
    split
    · rename_i si di kx n hs hd hx
      split
      · rename_i k1 k hks hkd
        obtain ⟨i1, d1, z1, a1, a2, a3, a4, _⟩ := tt_info hs
        obtain ⟨i2, d2, z2, b1, b2, b3, b4, _⟩ := tt_info hd
        have e1 : d1 = .int k1 := kind_int (by rw [a4] at hks; exact hks)
        have e2 : d2 = .int k := kind_int (by rw [b4] at hkd; exact hkd)
        subst e1 e2
        have hv := hρ x
        rw [hx] at hv
        refine .val rel (.int k (k.wrap n)) (run_v (s := convert s d (a.eval x)) (by simp [execOp, ho]) ?_) (.pure (.int _ _))
        rw [hv.int_inv]
        simp [convert, run_underlying a2, run_underlying b2, Conv.intToInt]
      · exact .fail
    · exact .fail
  | index T x i =>
    dsimp only
    split
    · rename_i ti s kx n ht hx hi
      split
      · rename_i hk
        obtain ⟨ii, d, z, h1, h2, h3, h4, _⟩ := tt_info ht
        have hd : d = .string := kind_str (by rw [h4] at hk; exact hk)
        subst hd
        have v1 := hρ x
        have v2 := hρ i
        rw [hx] at v1
        rw [hi] at v2
        refine .when rel fun hq => ?_
        obtain ⟨q1, q2⟩ := of_decide_eq_true hq
        refine ⟨.int .u8 (bytAt s n), run_v (s := Instr.index T (a.eval x) (a.eval i)) (by simp [execOp, ho]) ?_, .pure (.int _ _)⟩
        rw [v1.str_inv, v2.int_inv]
        have hs : s[n.toNat]? = some (s[n.toNat]'(by omega)) := getElem?_pos _ _ _
        simp [Instr.index, asIntOf, run_underlying h2, q1, hs, bytAt]
      · exact .fail
    · exact .fail
  | makeFunc f first cap =>
    cases f with
    | func f =>
      dsimp only
      split
      · rename_i hfirst
        have hf0 : first = #[] := by apply Array.ext'; simpa using hfirst
        subst hf0
        refine .val rel (.func (.func f) #[] (cap.map a.eval)) (run_v (s := Instr.makeFunc (.func f) (#[].map a.eval) (cap.map a.eval)) (by simp [execOp, ho]) (by simp [Instr.makeFunc])) (.fn f _ _ (by simp) fun j hj => ?_)
        have hj : j < cap.size := by simpa using hj
        have e1 : (cap.toList.map ρ).getD j .undef = ρ cap[j] := by simp [List.getD_eq_getElem?_getD, hj]
        have e2 : (cap.map a.eval).getD j Go.undef = a.eval cap[j] := by simp [hj]
        rw [e1, e2]
        exact hρ _
      · exact .fail
    | _ => exact .fail
  | slice T x lo hi mx =>
    cases mx with
    | some m => exact .fail
    | none =>
      dsimp only
      split
      · rename_i e ei ht
        refine Good.purify rel (hρ x) fun x' u u1 u2 _ => ?_
        split
        · rename_i hsz
          refine ok_slice ho ht rel hρ u u1 u2 fun sz n f hx' => ?_
          subst hx'
          simp only [szOk, Bool.or_eq_true] at hsz
          rcases hsz with h | h
          · exact .inr (Nat.eq_of_beq_eq_true h)
          · exact .inl (Nat.eq_of_beq_eq_true h)
        · exact .fail
      · exact .fail
  | fieldAddr S x i =>
    dsimp only
    split
    · rename_i off fi ht; exact ok_field ho ht rel (hρ x)
    · exact .fail
  | field S x i =>
    dsimp only
    split
    · rename_i off fi cs ht hx
      split
      · rename_i v hp
        have hv := hρ x
        rw [hx] at hv
        exact ok_fieldv ho ht hp rel hv
      · exact .fail
    · exact .fail
  | indexAddr T x i =>
    dsimp only
    split
    · rename_i e ei sz n f k j ht hx hi
      have h1 := hρ x
      have h2 := hρ i
      rw [hx] at h1
      rw [hi] at h2
      split
      · rename_i hs
        exact (ok_index ho ht rel h1 h2.int_inv).1 sz n f rfl (Nat.eq_of_beq_eq_true hs)
      · exact .fail
    · rename_i e ei id ver k j ht hx hi
      have h1 := hρ x
      have h2 := hρ i
      rw [hx] at h1
      rw [hi] at h2
      refine .look fun b hb => ?_
      cases b with
      | row ver' sz n e' f =>
        cases hq : Nat.beq ver ver' && Nat.beq sz ei.size with
        | false => simp only [hq]; exact .fail
        | true =>
          simp only [hq]
          simp only [Bool.and_eq_true] at hq
          obtain rfl := Nat.eq_of_beq_eq_true hq.1
          exact (ok_index ho ht rel h1 h2.int_inv).2.2.1 id ver sz n e' f rfl hb (Nat.eq_of_beq_eq_true hq.2)
      | lrow ver' sz n e' cells =>
        cases hq : Nat.beq ver ver' && Nat.beq sz ei.size with
        | false => simp only [hq]; exact .fail
        | true =>
          simp only [hq]
          simp only [Bool.and_eq_true] at hq
          obtain rfl := Nat.eq_of_beq_eq_true hq.1
          exact (ok_index ho ht rel h1 h2.int_inv).2.2.2 id ver sz n e' cells rfl hb (Nat.eq_of_beq_eq_true hq.2)
      | _ => exact .fail
    · exact .fail
  | extract t i =>
    dsimp only
    split
    · rename_i vs ht
      have h1 := hρ t
      rw [ht] at h1
      split
      · rename_i v hv
        obtain ⟨us, e1, e2, e3⟩ := h1.tup_inv
        have hlt : i < vs.length := (List.getElem?_eq_some_iff.1 hv).1
        have hu : us[i]? = some (us.getD i Go.undef) := by simp [Array.getD, show i < us.size by omega]
        refine .val rel (us.getD i Go.undef) (run_v (s := Instr.extract (a.eval t) i) (by simp [execOp, ho]) ?_) ?_
        · rw [e1]
          simp only [Instr.extract, hu]
          rfl
        · have := e3 i hlt
          rwa [List.getD_eq_getElem?_getD, hv] at this
      · exact .fail
    · exact .fail
  | call cl =>
    dsimp only
    have hexec : execOp a.eval o = (do let d ← resolve a.eval cl o.type; invoke d.target d.args) := by simp [execOp, ho]
    have eargs : ∀ j, j < cl.args.size → VR w (Mut F H σ) σ (Ver H) ((cl.args.toList.map ρ).getD j .undef) ((cl.args.map a.eval).getD j Go.undef) := by
      intro j hj
      have e1 : (cl.args.toList.map ρ).getD j .undef = ρ cl.args[j] := by simp [List.getD_eq_getElem?_getD, hj]
      have e2 : (cl.args.map a.eval).getD j Go.undef = a.eval cl.args[j] := by simp [hj]
      rw [e1, e2]
      exact hρ _
    split
    · rename_i b hc
      have hrun : ∀ v w', (do pure (.value (← (match b with | .len => Builtin.len_ cl.argTypes o.type (cl.args.map a.eval) | .min => Builtin.min_ cl.argTypes o.type (cl.args.map a.eval) | .max => Builtin.max_ cl.argTypes o.type (cl.args.map a.eval) | .append => Builtin.append_ cl.argTypes o.type (cl.args.map a.eval) | _ => stuck ""))) : Go.Sem Next).run P w = .ok (.value v) w' → (execOp a.eval o).run P w = .ok (.value v) w' := by
        intro v w' h
        rw [hexec]
        unfold resolve
        simp only [hc, Sem.run_bind, Sem.run_pure, Result.andThen_ok, invoke]
        cases b <;> first
          | (simp at h; done)
          | (simp only [builtin]; simpa using h)
      unfold abuiltin
      rw [hE]
      have one : ∀ x, cl.args.toList.map ρ = [x] → ∃ x0, cl.args = #[x0] ∧ ρ x0 = x := by
        intro x h
        obtain ⟨x0, h1, h2⟩ := List.map_eq_singleton_iff.1 h
        exact ⟨x0, Array.ext' h1, h2⟩
      split
      · rename_i x hargs
        obtain ⟨x0, hca, hx0⟩ := one _ hargs
        have hx := hρ x0
        rw [hx0] at hx
        cases ht0 : cl.argTypes[0]? with
        | none => exact .fail
        | some t =>
          simp only [Option.bind_some]
          split
          · rename_i ti ht
            split
            · rename_i e hk
              split
              · exact .fail
              · rename_i hns
                refine ok_len (types := cl.argTypes) (type := o.type) ht0 ht hk rel hx (fun u hu => hrun u w ?_) (fun s hs => hns s hs)
                rw [hca]
                simp [hu]
            · rename_i hk
              split
              · rename_i s
                obtain ⟨i, d, z, h1, h2, h3, h4, _⟩ := tt_info ht
                have hd : d = .string := kind_str (by rw [h4] at hk; exact hk)
                subst hd
                refine .val rel (.int .i64 s.size) (hrun _ w ?_) (.pure (.int _ _))
                rw [hca]
                simp [hx.str_inv, Builtin.len_, ht0, run_underlying h2, goInt]
              · exact .fail
            · exact .fail
          · exact .fail
      · rename_i x xs hargs
        obtain ⟨x0, xr, hca, hx0, hxr⟩ := List.map_eq_cons_iff.1 hargs
        have hx := hρ x0
        rw [hx0] at hx
        refine ok_minmax true rel xs (xr.map a.eval) x (a.eval x0) hx (by rw [← hxr]; simp) (fun j hj => ?_) fun u hu => hrun u w ?_
        · rw [← hxr] at hj ⊢
          simp only [List.length_map] at hj
          simp only [List.getD_eq_getElem?_getD, List.getElem?_map, List.getElem?_eq_getElem hj, Option.map_some, Option.getD_some]
          exact hρ _
        · simp only [if_true] at hu
          simp [Builtin.min_, hca, hu]
      · rename_i x xs hargs
        obtain ⟨x0, xr, hca, hx0, hxr⟩ := List.map_eq_cons_iff.1 hargs
        have hx := hρ x0
        rw [hx0] at hx
        refine ok_minmax false rel xs (xr.map a.eval) x (a.eval x0) hx (by rw [← hxr]; simp) (fun j hj => ?_) fun u hu => hrun u w ?_
        · rw [← hxr] at hj ⊢
          simp only [List.length_map] at hj
          simp only [List.getD_eq_getElem?_getD, List.getElem?_map, List.getElem?_eq_getElem hj, Option.map_some, Option.getD_some]
          exact hρ _
        · simp only [Bool.false_eq_true, if_false] at hu
          simp [Builtin.max_, hca, hu]
      · rename_i s x hargs
        split
        · rename_i t t2 ht1 ht2
          split
          · rename_i hb
            obtain rfl := Nat.eq_of_beq_eq_true hb
            split
            · rename_i e ei ht
              obtain ⟨s0, xr, hca, hs0, hxr⟩ := List.map_eq_cons_iff.1 hargs
              obtain ⟨x0, hca2, hx0⟩ := List.map_eq_singleton_iff.1 hxr
              subst hca2
              have hs := hρ s0
              have hx := hρ x0
              rw [hs0] at hs
              rw [hx0] at hx
              have hca' : cl.args = #[s0, x0] := Array.ext' hca
              refine ok_append _ (sv := a.eval s0) (xv := a.eval x0) (fun v w' h => hrun v w' ?_) ht rel hs hx (fun hnil => ?_) hn
              · rw [hca']
                have : (Builtin.append_ cl.argTypes o.type #[a.eval s0, a.eval x0]).run P w = .ok v w' := by
                  rw [← h]
                  unfold Builtin.append_
                  simp only [ht1, ht2]
                  rfl
                simp [this]
              · rw [hca'] at hnil
                simp only [List.getElem?_toArray, List.getElem?_cons_zero] at hnil
                unfold isNilC at hnil
                split at hnil
                · rfl
                · cases hnil
            · exact .fail
          · exact .fail
        · exact .fail
      · exact .fail
    · rename_i f hc
      split
      · rename_i g caps hf
        have hv := hρ f
        rw [hf] at hv
        obtain ⟨vs, h1, h2, h3⟩ := hv.fn_inv
        refine ok_callF (vs := cl.args.map a.eval ++ vs) _ hP hfs rel hn (fun fn f1 f2 f3 => by rw [hexec]; exact resolve_fn hc h1 f1 f2 f3) (by simp [h2]) (fun j hj => ?_)
        simp only [List.length_append, List.length_map, Array.length_toList] at hj
        by_cases hlt : j < cl.args.size
        · have e1 : (cl.args.toList.map ρ ++ caps).getD j .undef = (cl.args.toList.map ρ).getD j .undef := by
            rw [List.getD_eq_getElem?_getD, List.getElem?_append_left (by simpa using hlt), ← List.getD_eq_getElem?_getD]
          have e2 : (cl.args.map a.eval ++ vs).getD j Go.undef = (cl.args.map a.eval).getD j Go.undef := by
            rw [Array.getD_eq_getD_getElem?, Array.getElem?_append_left (by simpa using hlt), ← Array.getD_eq_getD_getElem?]
          rw [e1, e2]
          exact eargs j hlt
        · have e1 : (cl.args.toList.map ρ ++ caps).getD j .undef = caps.getD (j - cl.args.size) .undef := by
            rw [List.getD_eq_getElem?_getD, List.getElem?_append_right (by simp; omega), ← List.getD_eq_getElem?_getD]
            simp
          have e2 : (cl.args.map a.eval ++ vs).getD j Go.undef = vs.getD (j - cl.args.size) Go.undef := by
            rw [Array.getD_eq_getD_getElem?, Array.getElem?_append_right (by simp; omega), ← Array.getD_eq_getD_getElem?]
            simp
          rw [e1, e2]
          exact h3 _ (by omega)
      · exact .fail
    · exact .fail
  | _ => exact .fail
end
end Go.Proofs.Ythkdmemkjojmoaa.Ab
