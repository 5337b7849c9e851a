/- The plain evaluator's operations are right: structs compared. -/
import Derived.Test.YthkdmemkjojmoaaZC4
namespace Go.Proofs.Ythkdmemkjojmoaa.Ab
open Go
section
variable {P : Program} {w : World} {M : Nat → Prop} {σ : Nat → Value} {V : Nat → Option Nat}
def stepEq (d : Nat) (us vs : Array Value) (f : Field) (_ : Option Bool × Unit) : Sem (ForInStep (Option Bool × Unit)) :=
  if f.name ≠ "_" then do
    let x ← part f.type us f.offset
    let y ← part f.type vs f.offset
    let q ← Op.equalIn d f.type x y
    if (!q) = true then pure (ForInStep.done (some false, ())) else pure (ForInStep.yield (none, ()))
  else pure (ForInStep.yield (none, ()))
theorem eqCells_len : ∀ {ts : List Bool} {xs ys : List AV} {r : Bool}, eqCells ts xs ys = some r → xs.length = ts.length ∧ ys.length = ts.length := by
  intro ts
  induction ts with
  | nil => intro xs ys r h; cases xs <;> cases ys <;> simp [eqCells] at h ⊢
  | cons t ts ih =>
    intro xs ys r h
    cases xs with
    | nil => cases t <;> cases ys <;> simp [eqCells] at h
    | cons x xs =>
      cases ys with
      | nil => cases t <;> cases x <;> simp [eqCells] at h
      | cons y ys =>
        have : ∃ r', eqCells ts xs ys = some r' := by
          cases t <;> cases x <;> cases y <;> simp only [eqCells] at h <;> (try cases h) <;> (try (split at h)) <;> (try cases h) <;>
            (obtain ⟨r', h1, _⟩ := Option.map_eq_some_iff.1 h; exact ⟨r', h1⟩)
        obtain ⟨r', h1⟩ := this
        have := ih h1
        simp; omega
theorem eqCells_append : ∀ {t1 t2 : List Bool} {xs ys : List AV} {r : Bool}, eqCells (t1 ++ t2) xs ys = some r →
    ∃ r1 r2, eqCells t1 (xs.take t1.length) (ys.take t1.length) = some r1 ∧ eqCells t2 (xs.drop t1.length) (ys.drop t1.length) = some r2 ∧ r = (r1 && r2) := by
  intro t1
  induction t1 with
  | nil => intro t2 xs ys r h; exact ⟨true, r, by simp [eqCells], by simpa using h, by simp⟩
  | cons t t1 ih =>
    intro t2 xs ys r h
    cases xs with
    | nil => cases t <;> cases ys <;> simp [eqCells] at h
    | cons x xs =>
      cases ys with
      | nil => cases t <;> cases x <;> simp [eqCells] at h
      | cons y ys =>
        cases t <;> cases x <;> cases y <;> simp only [List.cons_append, eqCells] at h <;> (try cases h) <;> (try (split at h)) <;> (try cases h) <;>
          (obtain ⟨r', h1, rfl⟩ := Option.map_eq_some_iff.1 h
           obtain ⟨r1, r2, e1, e2, rfl⟩ := ih h1
           refine ⟨_, r2, ?_, by simpa using e2, by rw [Bool.and_assoc]⟩
           simp_all [eqCells])
theorem part_leaf {t : TypeId} {d : TypeDesc} (hk : P.underlying t = some d) (ha : aggOf d = false) {us : Array Value} {off : Nat} (h : off < us.size) : (part t us off).run P w = .ok (us.getD off Go.undef) w := by
  have hu : ∃ u, us[off]? = some u ∧ us.getD off Go.undef = u := ⟨us[off], Array.getElem?_eq_getElem h, by simp [Array.getD, h]⟩
  obtain ⟨u, h1, h2⟩ := hu
  rw [h2]
  simp [part, run_isAgg hk, ha, h1]
/-- Values of such a type, out of their cells, are compared so. -/
def GoodT (P : Program) (w : World) (M : Nat → Prop) (σ : Nat → Value) (V : Nat → Option Nat) (n : Nat) : Prop := ∀ (t : TypeId) (ts : List Bool), eqcT P n t = some ts → ∀ (d off : Nat) (us vs : Array Value) (xs ys : List AV) (r : Bool), eqCells ts xs ys = some r →
    off + ts.length ≤ us.size → off + ts.length ≤ vs.size → (∀ j, j < xs.length → VR w M σ V (xs.getD j .undef) (us.getD (off + j) Go.undef)) → (∀ j, j < ys.length → VR w M σ V (ys.getD j .undef) (vs.getD (off + j) Go.undef)) →
    ∃ u v, (part t us off).run P w = .ok u w ∧ (part t vs off).run P w = .ok v w ∧ (Op.equalIn (d + n) t u v).run P w = .ok r w
theorem eq_fields {n : Nat} (IH : GoodT P w M σ V n) (d : Nat) (us vs : Array Value) : ∀ (fl : List Field) (i : Nat) (ts : List Bool) (xs ys : List AV) (r : Bool), fieldsEq (eqcT P n) fl i = some ts → eqCells ts xs ys = some r →
    i + xs.length ≤ us.size → i + ys.length ≤ vs.size → (∀ j, j < xs.length → VR w M σ V (xs.getD j .undef) (us.getD (i + j) Go.undef)) → (∀ j, j < ys.length → VR w M σ V (ys.getD j .undef) (vs.getD (i + j) Go.undef)) →
    (forIn fl ((none : Option Bool), ()) (stepEq (d + n) us vs)).run P w = .ok (if r then (none, ()) else (some false, ())) w := by
  intro fl
  induction fl with
  | nil =>
    intro i ts xs ys r hf he _ _ _ _
    simp only [fieldsEq, Option.some.injEq] at hf
    subst hf
    cases xs with
    | nil => cases ys with
      | nil =>
        simp only [eqCells, Option.some.injEq] at he
        subst he
        simp
      | cons => simp [eqCells] at he
    | cons => simp [eqCells] at he
  | cons f fl ih =>
    intro i ts xs ys r hf he h1 h2 h3 h4
    unfold fieldsEq at hf
    cases hn : f.name != "_" && Nat.beq f.offset i with
    | false => simp [hn] at hf
    | true =>
      cases hs : eqcT P n f.type with
      | none => simp [hn, hs] at hf
      | some t =>
        cases hr : fieldsEq (eqcT P n) fl (i + t.length) with
        | none => simp [hn, hs, hr] at hf
        | some ts' =>
          simp only [hn, hs, hr, Option.some.injEq] at hf
          subst hf
          simp only [Bool.and_eq_true, bne_iff_ne] at hn
          have hoff : f.offset = i := Nat.eq_of_beq_eq_true hn.2
          obtain ⟨r1, r2, e1, e2, rfl⟩ := eqCells_append he
          have l1 := eqCells_len e1
          have l2 := eqCells_len e2
          simp only [List.length_take, List.length_drop] at l1 l2
          obtain ⟨u, v, p1, p2, heq⟩ := IH f.type t hs d i us vs _ _ r1 e1 (by omega) (by omega)
            (fun j hj => by rw [List.length_take] at hj; have := h3 j (by omega); rw [List.getD_eq_getElem?_getD] at this ⊢; rwa [List.getElem?_take_of_lt (by omega)])
            (fun j hj => by rw [List.length_take] at hj; have := h4 j (by omega); rw [List.getD_eq_getElem?_getD] at this ⊢; rwa [List.getElem?_take_of_lt (by omega)])
          rw [← hoff] at p1 p2
          rw [List.forIn_cons]
          simp only [stepEq, hn.1, ne_eq, not_false_eq_true, if_true, Sem.run_bind, p1, p2, Result.andThen_ok, heq]
          cases r1 with
          | false => simp
          | true =>
            simp only [Bool.not_true, Bool.false_eq_true, if_false, Sem.run_pure, Result.andThen_ok, Bool.true_and]
            exact ih (i + t.length) ts' _ _ r2 hr e2 (by rw [List.length_drop]; omega) (by rw [List.length_drop]; omega)
              (fun j hj => by rw [List.length_drop] at hj; have := h3 (t.length + j) (by omega); rw [List.getD_eq_getElem?_getD] at this ⊢; rw [List.getElem?_drop]; rwa [Nat.add_assoc])
              (fun j hj => by rw [List.length_drop] at hj; have := h4 (t.length + j) (by omega); rw [List.getD_eq_getElem?_getD] at this ⊢; rw [List.getElem?_drop]; rwa [Nat.add_assoc])
theorem goodT : ∀ n, GoodT P w M σ V n := by
  intro n
  induction n with
  | zero => intro t ts h; simp [eqcT] at h
  | succ n ih =>
    intro t ts h d off us vs xs ys r he h1 h2 h3 h4
    have hl := eqCells_len he
    unfold eqcT at h
    split at h
    · rename_i k hk
      injection h with h
      subst h
      have p1 : (part t us off).run P w = .ok (us.getD off Go.undef) w := part_leaf hk rfl (by simp at h1; omega)
      have p2 : (part t vs off).run P w = .ok (vs.getD off Go.undef) w := part_leaf hk rfl (by simp at h2; omega)
      refine ⟨_, _, p1, p2, ?_⟩
      have hx := h3 0 (by rw [hl.1]; simp)
      have hy := h4 0 (by rw [hl.2]; simp)
      rw [Nat.add_zero] at hx hy
      match xs, ys, hl with
      | [x], [y], _ =>
        simp only [List.getD_cons_zero] at hx hy
        cases x with
        | int k1 m =>
          cases y with
          | int k2 q =>
            simp only [eqCells] at he
            split at he
            · rename_i hkk; subst hkk
              simp at he
              rw [hx.int_inv, hy.int_inv, ← he]
              rw [show d + (n + 1) = (d + n) + 1 from rfl]
              simp [Op.equalIn, run_underlying hk]
            · cases he
          | _ => simp [eqCells] at he
        | _ => simp [eqCells] at he
    · rename_i hk
      injection h with h
      subst h
      have p1 : (part t us off).run P w = .ok (us.getD off Go.undef) w := part_leaf hk rfl (by simp at h1; omega)
      have p2 : (part t vs off).run P w = .ok (vs.getD off Go.undef) w := part_leaf hk rfl (by simp at h2; omega)
      refine ⟨_, _, p1, p2, ?_⟩
      have hx := h3 0 (by rw [hl.1]; simp)
      have hy := h4 0 (by rw [hl.2]; simp)
      rw [Nat.add_zero] at hx hy
      match xs, ys, hl with
      | [x], [y], _ =>
        simp only [List.getD_cons_zero] at hx hy
        cases x with
        | bool m =>
          cases y with
          | bool q =>
            simp [eqCells] at he
            rw [hx.bool_inv, hy.bool_inv, ← he]
            rw [show d + (n + 1) = (d + n) + 1 from rfl]
            simp [Op.equalIn, run_underlying hk]
          | _ => simp [eqCells] at he
        | _ => simp [eqCells] at he
    · rename_i fs hk
      cases hst : P.stoodInHeld t with
      | true => simp [hst] at h
      | false =>
        cases hi : P.info? t with
        | none => simp [hst, hi] at h
        | some i =>
          simp only [hst, hi] at h
          cases hf : fieldsEq (eqcT P n) fs.toList 0 with
          | none => simp [hf] at h
          | some ts0 =>
            simp only [hf] at h
            cases hb : Nat.beq ts0.length i.size with
            | false => simp [hb] at h
            | true =>
              simp only [hb, Option.some.injEq] at h
              subst h
              have hsz := Nat.eq_of_beq_eq_true hb
              have p1 : (part t us off).run P w = .ok (.agg (us.extract off (off + i.size))) w := by simp [part, run_isAgg hk, aggOf, Go.sizeOf, typeInfo, hi]
              have p2 : (part t vs off).run P w = .ok (.agg (vs.extract off (off + i.size))) w := by simp [part, run_isAgg hk, aggOf, Go.sizeOf, typeInfo, hi]
              refine ⟨_, _, p1, p2, ?_⟩
              have gx : ∀ (us : Array Value) j, j < i.size → off + i.size ≤ us.size → (us.extract off (off + i.size)).getD j Go.undef = us.getD (off + j) Go.undef := fun us j hj hs => by
                rw [Array.getD_eq_getD_getElem?, Array.getD_eq_getD_getElem?, Array.getElem?_extract_of_lt (by omega), Array.getElem?_eq_getElem (by omega)]
              rw [show d + (n + 1) = (d + n) + 1 from rfl]
              unfold Op.equalIn
              simp only [Sem.run_bind, run_underlying hk, Result.andThen_ok, run_program, hst, Bool.false_eq_true, if_false]
              rw [← Array.forIn_toList]
              have key := eq_fields ih d (us.extract off (off + i.size)) (vs.extract off (off + i.size)) fs.toList 0 ts0 xs ys r hf he (by simp; omega) (by simp; omega)
                (fun j hj => by rw [Nat.zero_add, gx us j (by omega) (by omega)]; exact h3 j hj) (fun j hj => by rw [Nat.zero_add, gx vs j (by omega) (by omega)]; exact h4 j hj)
              change ((forIn fs.toList ((none : Option Bool), ()) (stepEq (d + n) _ _)).run P w).andThen _ = _
              rw [key]
              cases r <;> simp
    · cases h
theorem fieldsEq_guard {n : Nat} (IH : ∀ t ts, eqcT P n t = some ts → ∀ d, P.eqGuardType (d + n) t = false) : ∀ {fl : List Field} {i : Nat} {ts : List Bool}, fieldsEq (eqcT P n) fl i = some ts → ∀ d, fl.any (fun f => f.name != "_" && P.eqGuardType (d + n) f.type) = false := by
  intro fl
  induction fl with
  | nil => intro i ts _ d; rfl
  | cons f fl ih =>
    intro i ts h d
    unfold fieldsEq at h
    cases hn : f.name != "_" && Nat.beq f.offset i with
    | false => simp [hn] at h
    | true =>
      cases hs : eqcT P n f.type with
      | none => simp [hn, hs] at h
      | some t =>
        cases hr : fieldsEq (eqcT P n) fl (i + t.length) with
        | none => simp [hn, hs, hr] at h
        | some ts' =>
          have h1 := IH f.type t hs d
          have h2 := ih hr d
          simp only [List.any_cons, h1, h2, Bool.and_false, Bool.or_false]
theorem guardT : ∀ n t ts, eqcT P n t = some ts → ∀ d, P.eqGuardType (d + n) t = false := by
  intro n
  induction n with
  | zero => intro t ts h; simp [eqcT] at h
  | succ n ih =>
    intro t ts h d
    rw [show d + (n + 1) = (d + n) + 1 from rfl]
    unfold eqcT at h
    unfold Program.eqGuardType
    split at h
    · rename_i k hk; rw [hk]
    · rename_i hk; rw [hk]
    · rename_i fs hk
      rw [hk]
      cases hst : P.stoodInHeld t with
      | true => simp [hst] at h
      | false =>
        cases hi : P.info? t with
        | none => simp [hst, hi] at h
        | some i =>
          simp only [hst, hi] at h
          cases hf : fieldsEq (eqcT P n) fs.toList 0 with
          | none => simp [hf] at h
          | some ts0 =>
            dsimp only
            rw [← Array.any_toList]
            exact fieldsEq_guard ih hf d
    · cases h
theorem eq_agg {T : TypeId} {d : TypeDesc} {ts : List Bool} {xs ys : List AV} {r : Bool} {us vs : Array Value} (hu : P.underlying T = some d) (he : eqcOf P T d = some ts) (ha : aggOf d = true) (hr : eqCells ts xs ys = some r)
    (hl : us.size = xs.length) (hl2 : vs.size = ys.length) (hx : ∀ j, j < xs.length → VR w M σ V (xs.getD j .undef) (us.getD j Go.undef)) (hy : ∀ j, j < ys.length → VR w M σ V (ys.getD j .undef) (vs.getD j Go.undef)) :
    (Op.equal T (.agg us) (.agg vs)).run P w = .ok r w ∧ ∀ op x y, (eqGuard op T x y (.agg us) (.agg vs)).run P w = .ok () w := by
  cases d with
  | struct fs =>
    unfold eqcOf at he
    cases hst : P.stoodInHeld T with
    | true => simp [hst] at he
    | false =>
      simp only [hst] at he
      constructor
      · unfold Op.equal Op.maxDepth
        rw [show (10000 : Nat) = (9996 + 3) + 1 from rfl]
        unfold Op.equalIn
        simp only [Sem.run_bind, run_underlying hu, Result.andThen_ok, run_program, hst, Bool.false_eq_true, if_false]
        rw [← Array.forIn_toList]
        have key := eq_fields (P := P) (w := w) (M := M) (σ := σ) (V := V) (goodT 3) 9996 us vs fs.toList 0 ts xs ys r he hr (by omega) (by omega) (fun j hj => by rw [Nat.zero_add]; exact hx j hj) (fun j hj => by rw [Nat.zero_add]; exact hy j hj)
        change ((forIn fs.toList ((none : Option Bool), ()) (stepEq (9996 + 3) us vs)).run P w).andThen _ = _
        rw [key]
        cases r <;> simp
      · intro op x y
        unfold eqGuard
        have hg : P.eqGuardType P.depth T = false := by
          unfold Program.depth
          have hts : 0 < Made.depth := by decide
          rw [show 2 * (P.types.size + Made.depth) + 2 = (2 * (P.types.size + Made.depth) - 2 + 3) + 1 by omega]
          unfold Program.eqGuardType
          rw [hu]
          have := fieldsEq_guard (guardT 3) he (2 * (P.types.size + Made.depth) - 2)
          dsimp only
          rw [← Array.any_toList]
          exact this
        cases op <;> simp [hg]
  | array n e => simp [eqcOf] at he
  | _ => simp [aggOf] at ha
end

section
variable {P : Program} {F : Fr} {H : Nat → Option Blk} {σ : Nat → Value} {o : Oper} {a : Act} {w : World} {c : Nat}
theorem ok_bin {op : BinOp} {T Ty : TypeId} {x y : Operand} (ho : o.op = .binOp op T x y Ty) (rel : RelH F H σ w) {p q : AV} (hx : VR w (Mut F H σ) σ (Ver H) p (a.eval x)) (hy : VR w (Mut F H σ) σ (Ver H) q (a.eval y)) :
    Good P F H σ o a w c (abin (ttOf P) op T p q) := by
  have hrun : ∀ v, (do eqGuard op T x y (a.eval x) (a.eval y); binOp op T (a.eval x) (a.eval y)).run P w = .ok v w → (execOp a.eval o).run P w = .ok (.value v) w :=
    fun v h => run_v (s := do eqGuard op T x y (a.eval x) (a.eval y); binOp op T (a.eval x) (a.eval y)) (by simp [execOp, ho]) h
  cases p with
  | int k m =>
    cases q with
    | int k' n => exact ok_int ho rel hx.int_inv hy.int_inv _
    | _ => exact .fail
  | bool m =>
    cases q with
    | bool n =>
      unfold abin
      dsimp only
      split
      · rename_i he
        obtain ⟨ti, ht, hq⟩ := Option.map_eq_some_iff.1 he
        obtain ⟨i, d, z, h1, h2, h3, h4, _⟩ := tt_info ht
        simp only [h4, Prod.mk.injEq] at hq
        obtain ⟨hd, ha⟩ := hq
        have hu : P.underlying T = some .bool := by
          cases d <;> simp [eqcOf, aggOf] at hd ha
          exact h2
        rw [hx.bool_inv, hy.bool_inv] at hrun
        have hq : ∀ op, (eqGuard op T x y (.bool m) (.bool n)).run P w = .ok () w := by intro op; unfold eqGuard; cases op <;> rfl
        have heq : (Op.equal T (.bool m) (.bool n)).run P w = .ok (m == n) w := by
          unfold Op.equal Op.maxDepth
          rw [show (10000 : Nat) = 9999 + 1 from rfl]
          unfold Op.equalIn
          simp [run_underlying hu]
        cases op with
        | eql => exact .val rel (.bool (m == n)) (hrun _ (by simp [hq, binOp, heq])) (.pure (.bool _))
        | neq => exact .val rel (.bool (!(m == n))) (hrun _ (by simp [hq, binOp, heq])) (.pure (.bool _))
        | _ => exact .fail
      · exact .fail
    | _ => exact .fail
  | agg xs =>
    cases q with
    | agg ys =>
      unfold abin
      dsimp only
      split
      · rename_i ts he
        obtain ⟨ti, ht, hq⟩ := Option.map_eq_some_iff.1 he
        obtain ⟨i, d, z, h1, h2, h3, h4, _⟩ := tt_info ht
        simp only [h4, Prod.mk.injEq] at hq
        cases hr : eqCells ts xs ys with
        | none => exact .fail
        | some r =>
          obtain ⟨us, hus, hl, hc⟩ := hx.agg_inv
          obtain ⟨vs, hvs, hl2, hc2⟩ := hy.agg_inv
          obtain ⟨e1, e2⟩ := eq_agg h2 hq.1 hq.2 hr hl hl2 hc hc2
          rw [hus, hvs] at hrun
          cases op with
          | eql => exact .val rel (.bool r) (hrun _ (by simp [e2, binOp, e1])) (.pure (.bool _))
          | neq => exact .val rel (.bool (!r)) (hrun _ (by simp [e2, binOp, e1])) (.pure (.bool _))
          | _ => exact .fail
      · exact .fail
    | _ => exact .fail
  | _ => exact .fail
end
end Go.Proofs.Ythkdmemkjojmoaa.Ab
