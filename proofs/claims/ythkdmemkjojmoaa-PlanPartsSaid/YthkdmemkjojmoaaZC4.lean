/- The plain evaluator's operations are right: arithmetic, comparisons, parts. -/
import Derived.Test.YthkdmemkjojmoaaZC3
namespace Go.Proofs.Ythkdmemkjojmoaa.Ab
open Go

section
variable {P : Program} {F : Fr} {H : Nat → Option Blk} {σ : Nat → Value} {o : Oper} {a : Act} {w : World} {c : Nat}
theorem ok_int {op : BinOp} {T Ty : TypeId} {x y : Operand} (ho : o.op = .binOp op T x y Ty) (rel : RelH F H σ w) {k k' : IntKind} {m n : Int} (hx : a.eval x = .int k m) (hy : a.eval y = .int k' n) (tt : TypeId → Option TI) :
    Good P F H σ o a w c (abin tt op T (.int k m) (.int k' n)) := by
  unfold abin
  dsimp only
  split
  · rename_i hk; subst hk
    have hrun : ∀ v, (binOp op T (.int k m) (.int k n)).run P w = .ok v w → (execOp a.eval o).run P w = .ok (.value v) w := by
      intro v h
      refine run_v (s := do eqGuard op T x y (a.eval x) (a.eval y); binOp op T (a.eval x) (a.eval y)) (by simp [execOp, ho]) ?_
      rw [hx, hy]
      have hq : (eqGuard op T x y (.int k m) (.int k n)).run P w = .ok () w := by
        unfold eqGuard
        cases op <;> rfl
      simp only [Sem.run_bind, hq, Result.andThen_ok, h]
    cases op with
    | quo =>
      refine .when rel fun hb => ?_
      have hn : n ≠ 0 := by simpa using hb
      exact ⟨.int k (k.wrap (m.tdiv n)), hrun _ (by simp [binOp, Op.intDiv, hn]), .pure (.int _ _)⟩
    | rem =>
      refine .when rel fun hb => ?_
      have hn : n ≠ 0 := by simpa using hb
      exact ⟨.int k (m.tmod n), hrun _ (by simp [binOp, Op.intDiv, hn]), .pure (.int _ _)⟩
    | shr =>
      refine .when rel fun hb => ?_
      have hb := of_decide_eq_true hb
      have hk : n ≤ k.bits := by cases k <;> simp [IntKind.bits] <;> omega
      exact ⟨.int k (m / 2 ^ n.toNat), hrun _ (by rw [binOp_shr, shift_shr k k m n hb.1 hk]; rfl), .pure (.int _ _)⟩
    | add => exact .val rel (.int k (k.wrap (m + n))) (hrun _ (by simp [binOp, Op.intArith])) (.pure (.int _ _))
    | sub => exact .val rel (.int k (k.wrap (m - n))) (hrun _ (by simp [binOp, Op.intArith])) (.pure (.int _ _))
    | mul => exact .val rel (.int k (k.wrap (m * n))) (hrun _ (by simp [binOp, Op.intArith])) (.pure (.int _ _))
    | eql => exact .val rel (.bool (m == n)) (hrun _ (by simp [binOp, Op.intCmp])) (.pure (.bool _))
    | neq => exact .val rel (.bool (m != n)) (hrun _ (by simp [binOp, Op.intCmp])) (.pure (.bool _))
    | lss => exact .val rel (.bool (decide (m < n))) (hrun _ (by simp [binOp, Op.intCmp])) (.pure (.bool _))
    | leq => exact .val rel (.bool (decide (m ≤ n))) (hrun _ (by simp [binOp, Op.intCmp])) (.pure (.bool _))
    | gtr => exact .val rel (.bool (decide (m > n))) (hrun _ (by simp [binOp, Op.intCmp])) (.pure (.bool _))
    | geq => exact .val rel (.bool (decide (m ≥ n))) (hrun _ (by simp [binOp, Op.intCmp])) (.pure (.bool _))
    | _ => exact .fail
  · exact .fail

theorem ok_un {op : UnOp} {T : TypeId} {x : Operand} (ho : o.op = .unOp op T x) (rel : RelH F H σ w) {y : AV} (hx : VR w (Mut F H σ) σ (Ver H) y (a.eval x)) : Good P F H σ o a w c (aun op y) := by
  have hrun : ∀ v, (Op.unary op (a.eval x)).run P w = .ok v w → (execOp a.eval o).run P w = .ok (.value v) w := fun v h => run_v (by simp [execOp, ho]) h
  unfold aun
  split
  · rename_i k n
    rw [hx.int_inv] at hrun
    exact .val rel (.int k (k.wrap (0 - n))) (hrun _ (by simp [Op.unary, Op.intArith])) (.pure (.int _ _))
  · rename_i b
    rw [hx.bool_inv] at hrun
    exact .val rel (.bool !b) (hrun _ (by simp [Op.unary])) (.pure (.bool _))
  · exact .fail

theorem ok_field {S : TypeId} {x : Operand} {i off : Nat} {fi : TI} (ho : o.op = .fieldAddr S x i) (ht : fieldAt? (ttOf P) S i = some (off, fi)) (rel : RelH F H σ w) {y : AV} (hx : VR w (Mut F H σ) σ (Ver H) y (a.eval x)) :
    Good P F H σ o a w c (afield y off) := by
  obtain ⟨fields, f, hu, hf, hoff, hfi, hsz⟩ := field_info ht
  obtain ⟨inf, d, z, h1, h2, h3, h4, _⟩ := tt_info hfi
  have hs : inf.size ≠ 0 := by
    have : fi.size = inf.size := by rw [h4]
    omega
  have hrun : ∀ g o', a.eval x = .pointer (some ⟨g, o', none⟩) → (execOp a.eval o).run P w = .ok (.value (.pointer (some ⟨g, o' + off, none⟩))) w := by
    intro g o' hv
    refine run_v (s := Instr.fieldAt S (a.eval x) i) (by simp [execOp, ho]) ?_
    rw [hv]
    simp [Instr.fieldAt, run_underlying hu, hf, Instr.sureAddr, fieldPlace, run_sizeOf h1, hs, hoff, Addr.add_mid]
  unfold afield
  split
  · obtain ⟨g, h1, h2, m, hm⟩ := hx.ptr_inv
    exact .val rel _ (hrun g _ h2) (.ptr _ _ g m hm h1)
  · refine .ret fun _ _ _ => ?_
    generalize hv : a.eval x = v at hx
    cases hx with
    | pure h => cases h
    | rptr id ver sz k off' m g b hV hm h =>
      refine .quiet rel _ (hrun g _ hv) ?_
      rw [Nat.add_assoc]
      exact .rptr _ _ _ _ _ m g b hV hm h
  · obtain ⟨g, o', us, he, hg, hp⟩ := hx.pptr_inv
    refine .val rel _ (hrun g _ he) ?_
    rw [Nat.add_assoc]
    exact .pptr _ _ g o' us hg hp
  · refine .ret fun _ _ _ => ?_
    generalize hv : a.eval x = v at hx
    cases hx with
    | pure h => cases h
    | lptr id ver off' m g hV hm h => exact .quiet rel _ (hrun g _ hv) (.lptr _ _ _ m g hV hm h)
  · exact .fail

theorem ok_fieldv {S : TypeId} {x : Operand} {i off : Nat} {fi : TI} {cs : List AV} {v : AV} (ho : o.op = .field S x i) (ht : fieldAt? (ttOf P) S i = some (off, fi)) (hp : apart fi cs off = some v) (rel : RelH F H σ w) (hx : VR w (Mut F H σ) σ (Ver H) (.agg cs) (a.eval x)) :
    Good P F H σ o a w c (.ret (.val v)) := by
  obtain ⟨fields, f, hu, hf, hoff, hfi, hsz⟩ := field_info ht
  obtain ⟨inf, d, z, h1, h2, h3, h4, _⟩ := tt_info hfi
  have hs : fi.size = inf.size := by rw [h4]
  have hagg : fi.agg = aggOf d := by rw [h4]
  obtain ⟨vs, hv, hl, hc⟩ := hx.agg_inv
  unfold apart at hp
  cases hb : Nat.ble (off + fi.size) cs.length with
  | false => simp [hb] at hp
  | true =>
    have hle : off + fi.size ≤ cs.length := Nat.le_of_ble_eq_true hb
    simp only [hb] at hp
    have hrun : ∀ u, (part f.type vs off).run P w = .ok u w → (execOp a.eval o).run P w = .ok (.value u) w := by
      intro u h
      refine run_v (s := Instr.field S (a.eval x) i) (by simp [execOp, ho]) ?_
      rw [hv]
      simp [Instr.field, run_underlying hu, hf, asAgg, hoff, h]
    cases hg : fi.agg with
    | true =>
      simp only [hg, Option.some.injEq] at hp
      subst hp
      refine .val rel (.agg (vs.extract off (off + fi.size))) (hrun _ ?_) (.agg _ _ (by simp; omega) fun j hj => ?_)
      · simp only [part, Sem.run_bind, run_isAgg h2, ← hagg, hg, Result.andThen_ok, if_true, run_sizeOf h1, Sem.run_pure, hs]
      · have hj' : j < fi.size := by simp at hj; omega
        have e1 : ((cs.drop off).take fi.size).getD j .undef = cs.getD (off + j) .undef := by
          simp [List.getD_eq_getElem?_getD, hj', List.getElem?_drop]
        have e2 : (vs.extract off (off + fi.size)).getD j Go.undef = vs.getD (off + j) Go.undef := by
          have : off + j < vs.size := by omega
          have h3 : j < min (off + fi.size) vs.size - off := by omega
          simp [Array.getD, this, h3]
        rw [e1, e2]
        exact hc _ (by omega)
    | false =>
      simp only [hg] at hp
      cases h1' : Nat.beq fi.size 1 with
      | false => simp [h1'] at hp
      | true =>
        simp only [h1', Option.some.injEq] at hp
        subst hp
        have hs1 : fi.size = 1 := Nat.eq_of_beq_eq_true h1'
        have hlt : off < vs.size := by omega
        refine .val rel (vs.getD off Go.undef) (hrun _ ?_) (hc off (by omega))
        have e : vs[off]? = some (vs.getD off Go.undef) := by simp [Array.getD, hlt]
        simp only [part, Sem.run_bind, run_isAgg h2, ← hagg, hg, Result.andThen_ok, Bool.false_eq_true, if_false, e, Sem.run_pure]

theorem ok_minmax (least : Bool) (rel : RelH F H σ w) :
    ∀ (xs : List AV) (vs : List Value) (x : AV) (v : Value), VR w (Mut F H σ) σ (Ver H) x v → xs.length = vs.length → (∀ j, j < xs.length → VR w (Mut F H σ) σ (Ver H) (xs.getD j .undef) (vs.getD j Go.undef)) →
    (∀ u, (vs.foldlM (if least then Builtin.min2 else Builtin.max2) v).run P w = .ok u w → (execOp a.eval o).run P w = .ok (.value u) w) →
    Good P F H σ o a w c (aminmax least x xs) := by
  intro xs
  induction xs with
  | nil =>
    intro vs x v hx hl _ hrun
    obtain rfl : vs = [] := List.eq_nil_of_length_eq_zero (by simpa using hl.symm)
    cases x <;> exact .val rel v (hrun v (by simp)) hx
  | cons y ys ih =>
    intro vs x v hx hl hvs hrun
    obtain ⟨u, us, rfl⟩ : ∃ u us, vs = u :: us := by cases vs with
      | nil => simp at hl
      | cons u us => exact ⟨u, us, rfl⟩
    have hy := hvs 0 (by simp)
    simp only [List.getD_cons_zero] at hy
    cases x with
    | int k m =>
      cases y with
      | int k' n =>
        unfold aminmax
        split
        · rename_i hk; subst hk
          obtain rfl := hx.int_inv
          obtain rfl := hy.int_inv
          cases least with
          | true =>
            refine ih us _ (.int k (if n < m then n else m)) (.pure (.int _ _)) (by simpa using hl) (fun j hj => by simpa using hvs (j + 1) (by simpa using hj)) fun u h => hrun u ?_
            simp only [List.foldlM_cons, Sem.run_bind, if_true, Builtin.min2, Sem.run_pure, Result.andThen_ok] at h ⊢
            exact h
          | false =>
            refine ih us _ (.int k (if m < n then n else m)) (.pure (.int _ _)) (by simpa using hl) (fun j hj => by simpa using hvs (j + 1) (by simpa using hj)) fun u h => hrun u ?_
            simp only [List.foldlM_cons, Sem.run_bind, Bool.false_eq_true, if_false, Builtin.max2, Sem.run_pure, Result.andThen_ok] at h ⊢
            exact h
        · exact .fail
      | _ => exact .fail
    | _ => cases y <;> exact .fail
end
end Go.Proofs.Ythkdmemkjojmoaa.Ab
