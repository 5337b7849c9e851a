/- The plain evaluator's operations are right: structs compared. -/
import Derived.Test.YtandmllkfeghbaaZC4
namespace Go.Proofs.Ytandmllkfeghbaa.Ab
open Go
theorem simple_desc {P : Program} {t : TypeId} {b : Bool} (h : simpleEq P t = some b) : (b = true ∧ ∃ k, P.underlying t = some (.int k)) ∨ (b = false ∧ P.underlying t = some .bool) := by
  unfold simpleEq at h
  split at h
  · rename_i k hk; injection h with h; exact .inl ⟨h.symm, k, hk⟩
  · rename_i hk; injection h with h; exact .inr ⟨h.symm, hk⟩
  · cases h
theorem part_simple {P : Program} {t : TypeId} {b : Bool} (h : simpleEq P t = some b) {us : Array Value} {off : Nat} {u : Value} (hu : us[off]? = some u) (w : World) : (part t us off).run P w = .ok u w := by
  rcases simple_desc h with ⟨_, k, hk⟩ | ⟨_, hk⟩ <;> simp [part, run_isAgg hk, aggOf, hu]
theorem guard_simple {P : Program} {t : TypeId} {b : Bool} (h : simpleEq P t = some b) (d : Nat) : P.eqGuardType (d + 1) t = false := by
  rcases simple_desc h with ⟨_, k, hk⟩ | ⟨_, hk⟩ <;> simp [Program.eqGuardType, hk]
section
variable {P : Program} {w : World} {M : Nat → Prop} {σ : Nat → Value} {V : Nat → Option Nat}
def stepEq (d : Nat) (us vs : Array Value) (f : Field) (_ : Option Bool × Unit) : Sem (ForInStep (Option Bool × Unit)) :=
  if f.name ≠ "_" then do
    let x ← part f.type us f.offset
    let y ← part f.type vs f.offset
    let q ← Op.equalIn (d + 1) f.type x y
    if (!q) = true then pure (ForInStep.done (some false, ())) else pure (ForInStep.yield (none, ()))
  else pure (ForInStep.yield (none, ()))
theorem eq_fields (d : Nat) (us vs : Array Value) : ∀ (fl : List Field) (i : Nat) (ts : List Bool) (xs ys : List AV) (r : Bool), fieldsEq P fl i = some ts → eqCells ts xs ys = some r →
    i + xs.length ≤ us.size → i + ys.length ≤ vs.size → (∀ j, j < xs.length → VR w M σ V (xs.getD j .undef) (us.getD (i + j) Go.undef)) → (∀ j, j < ys.length → VR w M σ V (ys.getD j .undef) (vs.getD (i + j) Go.undef)) →
    (forIn fl ((none : Option Bool), ()) (stepEq d us vs)).run P w = .ok (if r then (none, ()) else (some false, ())) w := by
  intro fl
  induction fl with
  | nil =>
    intro i ts xs ys r hf he _ _ _ _
    simp only [fieldsEq, Option.some.injEq] at hf
    subst hf
    cases xs with
    | nil => cases ys with
      | nil =>
        simp only [eqCells, Option.some.injEq] at he
        subst he
        simp
      | cons => simp [eqCells] at he
    | cons => simp [eqCells] at he
  | cons f fl ih =>
    intro i ts xs ys r hf he h1 h2 h3 h4
    unfold fieldsEq at hf
    cases hn : f.name != "_" && Nat.beq f.offset i with
    | false => simp [hn] at hf
    | true =>
      cases hs : simpleEq P f.type with
      | none => simp [hn, hs] at hf
      | some t =>
        cases hr : fieldsEq P fl (i + 1) with
        | none => simp [hn, hs, hr] at hf
        | some ts' =>
          simp only [hn, hs, hr, Option.some.injEq] at hf
          subst hf
          simp only [Bool.and_eq_true, bne_iff_ne] at hn
          have hoff : f.offset = i := Nat.eq_of_beq_eq_true hn.2
          have key : ∀ (x y : AV) (xs' ys' : List AV) (q r' : Bool), xs = x :: xs' → ys = y :: ys' → eqCells ts' xs' ys' = some r' → r = (q && r') → (∀ u v, VR w M σ V x u → VR w M σ V y v → (Op.equalIn (d + 1) f.type u v).run P w = .ok q w) →
              (forIn (f :: fl) ((none : Option Bool), ()) (stepEq d us vs)).run P w = .ok (if r then (none, ()) else (some false, ())) w := by
            intro x y xs' ys' q r' hx hy hr' hq heq
            subst hx hy
            have lx : i < us.size := by simp at h1; omega
            have ly : i < vs.size := by simp at h2; omega
            have p1 := part_simple hs (us := us) (off := f.offset) (u := us.getD i Go.undef) (by rw [hoff]; simp [Array.getD, lx]) w
            have p2 := part_simple hs (us := vs) (off := f.offset) (u := vs.getD i Go.undef) (by rw [hoff]; simp [Array.getD, ly]) w
            have hx0 := h3 0 (by simp)
            have hy0 := h4 0 (by simp)
            simp only [List.getD_cons_zero, Nat.add_zero] at hx0 hy0
            have hh := heq _ _ hx0 hy0
            rw [List.forIn_cons]
            simp only [stepEq, hn.1, ne_eq, not_false_eq_true, if_true, Sem.run_bind, p1, p2, Result.andThen_ok, hh]
            cases q with
            | false => subst hq; simp
            | true =>
              rw [Bool.true_and] at hq
              subst hq
              simp only [Bool.not_true, Bool.false_eq_true, if_false, Sem.run_pure, Result.andThen_ok]
              exact ih (i + 1) ts' xs' ys' _ hr hr' (by simp at h1; omega) (by simp at h2; omega)
                (fun j hj => by have := h3 (j + 1) (by simpa using hj); rw [show i + (j + 1) = i + 1 + j by omega] at this; simpa using this)
                (fun j hj => by have := h4 (j + 1) (by simpa using hj); rw [show i + (j + 1) = i + 1 + j by omega] at this; simpa using this)
          rcases simple_desc hs with ⟨rfl, k0, hk⟩ | ⟨rfl, hk⟩
          · cases xs with
            | nil => cases ys <;> simp [eqCells] at he
            | cons x xs' =>
              cases ys with
              | nil => cases x <;> simp [eqCells] at he
              | cons y ys' =>
                cases x with
                | int k m =>
                  cases y with
                  | int k' n =>
                    simp only [eqCells] at he
                    split at he
                    · rename_i hkk; subst hkk
                      obtain ⟨r', hr', hq⟩ := Option.map_eq_some_iff.1 he
                      refine key _ _ xs' ys' (m == n) r' rfl rfl hr' hq.symm fun u v hu hv => ?_
                      rw [hu.int_inv, hv.int_inv]
                      simp [Op.equalIn, run_underlying hk]
                    · cases he
                  | _ => simp [eqCells] at he
                | _ => simp [eqCells] at he
          · cases xs with
            | nil => cases ys <;> simp [eqCells] at he
            | cons x xs' =>
              cases ys with
              | nil => cases x <;> simp [eqCells] at he
              | cons y ys' =>
                cases x with
                | bool m =>
                  cases y with
                  | bool n =>
                    simp only [eqCells] at he
                    obtain ⟨r', hr', hq⟩ := Option.map_eq_some_iff.1 he
                    refine key _ _ xs' ys' (m == n) r' rfl rfl hr' hq.symm fun u v hu hv => ?_
                    rw [hu.bool_inv, hv.bool_inv]
                    simp [Op.equalIn, run_underlying hk]
                  | _ => simp [eqCells] at he
                | _ => simp [eqCells] at he

theorem eqCells_len : ∀ {ts : List Bool} {xs ys : List AV} {r : Bool}, eqCells ts xs ys = some r → xs.length = ts.length ∧ ys.length = ts.length := by
  intro ts
  induction ts with
  | nil => intro xs ys r h; cases xs <;> cases ys <;> simp [eqCells] at h ⊢
  | cons t ts ih =>
    intro xs ys r h
    cases xs with
    | nil => cases t <;> cases ys <;> simp [eqCells] at h
    | cons x xs =>
      cases ys with
      | nil => cases t <;> cases x <;> simp [eqCells] at h
      | cons y ys =>
        have : ∃ r', eqCells ts xs ys = some r' := by
          cases t <;> cases x <;> cases y <;> simp only [eqCells] at h <;> (try cases h) <;> (try (split at h)) <;> (try cases h) <;>
            (obtain ⟨r', h1, _⟩ := Option.map_eq_some_iff.1 h; exact ⟨r', h1⟩)
        obtain ⟨r', h1⟩ := this
        have := ih h1
        simp; omega
theorem fieldsEq_guard : ∀ {fl : List Field} {i : Nat} {ts : List Bool}, fieldsEq P fl i = some ts → ∀ d, fl.any (fun f => f.name != "_" && P.eqGuardType (d + 1) f.type) = false := by
  intro fl
  induction fl with
  | nil => intro i ts _ d; rfl
  | cons f fl ih =>
    intro i ts h d
    unfold fieldsEq at h
    cases hn : f.name != "_" && Nat.beq f.offset i with
    | false => simp [hn] at h
    | true =>
      cases hs : simpleEq P f.type with
      | none => simp [hn, hs] at h
      | some t =>
        cases hr : fieldsEq P fl (i + 1) with
        | none => simp [hn, hs, hr] at h
        | some ts' => simp [guard_simple hs d, ih hr d]
theorem eq_agg {T : TypeId} {d : TypeDesc} {ts : List Bool} {xs ys : List AV} {r : Bool} {us vs : Array Value} (hu : P.underlying T = some d) (he : eqcOf P T d = some ts) (ha : aggOf d = true) (hr : eqCells ts xs ys = some r)
    (hl : us.size = xs.length) (hl2 : vs.size = ys.length) (hx : ∀ j, j < xs.length → VR w M σ V (xs.getD j .undef) (us.getD j Go.undef)) (hy : ∀ j, j < ys.length → VR w M σ V (ys.getD j .undef) (vs.getD j Go.undef)) :
    (Op.equal T (.agg us) (.agg vs)).run P w = .ok r w ∧ ∀ op x y, (eqGuard op T x y (.agg us) (.agg vs)).run P w = .ok () w := by
  cases d with
  | struct fs =>
    unfold eqcOf at he
    cases hst : P.stoodInHeld T with
    | true => simp [hst] at he
    | false =>
      simp only [hst] at he
      constructor
      · unfold Op.equal Op.maxDepth
        rw [show (10000 : Nat) = 9998 + 1 + 1 from rfl]
        unfold Op.equalIn
        simp only [Sem.run_bind, run_underlying hu, Result.andThen_ok, run_program, hst, Bool.false_eq_true, if_false]
        rw [← Array.forIn_toList]
        have key := eq_fields (P := P) (w := w) (M := M) (σ := σ) (V := V) 9998 us vs fs.toList 0 ts xs ys r he hr (by omega) (by omega) (fun j hj => by rw [Nat.zero_add]; exact hx j hj) (fun j hj => by rw [Nat.zero_add]; exact hy j hj)
        change ((forIn fs.toList ((none : Option Bool), ()) (stepEq 9998 us vs)).run P w).andThen _ = _
        rw [key]
        cases r <;> simp
      · intro op x y
        unfold eqGuard
        have hg : P.eqGuardType P.depth T = false := by
          unfold Program.depth
          rw [show 2 * (P.types.size + Made.depth) + 2 = (2 * (P.types.size + Made.depth)) + 1 + 1 from rfl]
          unfold Program.eqGuardType
          rw [hu]
          have := fieldsEq_guard he (2 * (P.types.size + Made.depth))
          dsimp only
          rw [← Array.any_toList]
          exact this
        cases op <;> simp [hg]
  | array n e => simp [eqcOf] at he
  | _ => simp [aggOf] at ha
end

section
variable {P : Program} {F : Fr} {H : Nat → Option Blk} {σ : Nat → Value} {o : Oper} {a : Act} {w : World} {c : Nat}
theorem ok_bin {op : BinOp} {T Ty : TypeId} {x y : Operand} (ho : o.op = .binOp op T x y Ty) (rel : RelH F H σ w) {p q : AV} (hx : VR w (Mut F H σ) σ (Ver H) p (a.eval x)) (hy : VR w (Mut F H σ) σ (Ver H) q (a.eval y)) :
    Good P F H σ o a w c (abin (ttOf P) op T p q) := by
  have hrun : ∀ v, (do eqGuard op T x y (a.eval x) (a.eval y); binOp op T (a.eval x) (a.eval y)).run P w = .ok v w → (execOp a.eval o).run P w = .ok (.value v) w :=
    fun v h => run_v (s := do eqGuard op T x y (a.eval x) (a.eval y); binOp op T (a.eval x) (a.eval y)) (by simp [execOp, ho]) h
  cases p with
  | int k m =>
    cases q with
    | int k' n => exact ok_int ho rel hx.int_inv hy.int_inv _
    | _ => exact .fail
  | bool m =>
    cases q with
    | bool n =>
      unfold abin
      dsimp only
      split
      · rename_i he
        obtain ⟨ti, ht, hq⟩ := Option.map_eq_some_iff.1 he
        obtain ⟨i, d, z, h1, h2, h3, h4, _⟩ := tt_info ht
        simp only [h4, Prod.mk.injEq] at hq
        obtain ⟨hd, ha⟩ := hq
        have hu : P.underlying T = some .bool := by
          cases d <;> simp [eqcOf, aggOf] at hd ha
          exact h2
        rw [hx.bool_inv, hy.bool_inv] at hrun
        have hq : ∀ op, (eqGuard op T x y (.bool m) (.bool n)).run P w = .ok () w := by intro op; unfold eqGuard; cases op <;> rfl
        have heq : (Op.equal T (.bool m) (.bool n)).run P w = .ok (m == n) w := by
          unfold Op.equal Op.maxDepth
          rw [show (10000 : Nat) = 9999 + 1 from rfl]
          unfold Op.equalIn
          simp [run_underlying hu]
        cases op with
        | eql => exact .val rel (.bool (m == n)) (hrun _ (by simp [hq, binOp, heq])) (.pure (.bool _))
        | neq => exact .val rel (.bool (!(m == n))) (hrun _ (by simp [hq, binOp, heq])) (.pure (.bool _))
        | _ => exact .fail
      · exact .fail
    | _ => exact .fail
  | agg xs =>
    cases q with
    | agg ys =>
      unfold abin
      dsimp only
      split
      · rename_i ts he
        obtain ⟨ti, ht, hq⟩ := Option.map_eq_some_iff.1 he
        obtain ⟨i, d, z, h1, h2, h3, h4, _⟩ := tt_info ht
        simp only [h4, Prod.mk.injEq] at hq
        cases hr : eqCells ts xs ys with
        | none => exact .fail
        | some r =>
          obtain ⟨us, hus, hl, hc⟩ := hx.agg_inv
          obtain ⟨vs, hvs, hl2, hc2⟩ := hy.agg_inv
          obtain ⟨e1, e2⟩ := eq_agg h2 hq.1 hq.2 hr hl hl2 hc hc2
          rw [hus, hvs] at hrun
          cases op with
          | eql => exact .val rel (.bool r) (hrun _ (by simp [e2, binOp, e1])) (.pure (.bool _))
          | neq => exact .val rel (.bool (!r)) (hrun _ (by simp [e2, binOp, e1])) (.pure (.bool _))
          | _ => exact .fail
      · exact .fail
    | _ => exact .fail
  | _ => exact .fail
end
end Go.Proofs.Ytandmllkfeghbaa.Ab
