/- The plain evaluator's operations are right: what only reads. -/
import Derived.Test.YthkdmemkjojmoaaZC1
import Derived.Deep.MidRow
import Derived.Laws.CopyRow
namespace Go.Proofs.Ythkdmemkjojmoaa.Ab
open Go

theorem run_look {α : Type 1} {id : Nat} {k : Blk → LM α} {H : Nat → Option Blk} {rd : List Nat} {g : α} (h : (LM.look id k).run H = some (rd, g)) :
    ∃ b rd', H id = some b ∧ (k b).run H = some (rd', g) := by
  unfold LM.run at h
  cases hb : H id with
  | none => simp [hb] at h
  | some b =>
    simp only [hb] at h
    cases hk : (k b).run H with
    | none => simp [hk] at h
    | some r =>
      simp only [hk, Option.some.injEq, Prod.mk.injEq] at h
      exact ⟨b, r.1, rfl, by rw [hk, ← h.2]⟩
theorem run_case {α : Type 1} {b : Bool} {x y : LM α} {H : Nat → Option Blk} {r : List Nat × α} (h : (LM.case b x y).run H = some r) : (b = true ∧ x.run H = some r) ∨ (b = false ∧ y.run H = some r) := by
  cases b with
  | true => exact .inl ⟨rfl, h⟩
  | false => exact .inr ⟨rfl, h⟩
theorem run_ret {α : Type 1} {g0 : α} {H : Nat → Option Blk} {rd : List Nat} {g : α} (h : (LM.ret g0).run H = some (rd, g)) : g = g0 := by
  simp only [LM.run, Option.some.injEq, Prod.mk.injEq] at h
  exact h.2.symm
theorem run_fail {α : Type 1} {H : Nat → Option Blk} {r : List Nat × α} (h : (LM.fail : LM α).run H = some r) : False := by simp [LM.run] at h
/-- Only what was looked at counts. -/
theorem LM.run_congr {α : Type 1} {H H' : Nat → Option Blk} (m : LM α) : ∀ {rd : List Nat} {g : α}, m.run H = some (rd, g) → (∀ id ∈ rd, H' id = H id) → m.run H' = some (rd, g) := by
  induction m with
  | fail => intro rd g h _; exact (run_fail h).elim
  | ret a => intro rd g h _; exact h
  | look id k ih =>
    intro rd g h hr
    unfold LM.run at h ⊢
    cases hb : H id with
    | none => simp [hb] at h
    | some b =>
      simp only [hb] at h
      cases hk : (k b).run H with
      | none => simp [hk] at h
      | some r =>
        simp only [hk, Option.some.injEq, Prod.mk.injEq] at h
        obtain ⟨rfl, rfl⟩ := h
        have e := ih b hk (fun i hi => hr i (by simp [hi]))
        rw [hr id (by simp), hb]
        simp only [e]
  | case b x y ihx ihy =>
    intro rd g h hr
    cases b with
    | true => exact ihx h hr
    | false => exact ihy h hr

theorem tt_info {P : Program} {t : TypeId} {ti : TI} (h : ttOf P t = some ti) : ∃ i d z, P.info? t = some i ∧ P.underlying t = some d ∧ i.zero = some z ∧
    ti = ⟨i.size, aggOf d, i.bytes, kindOf d, z.cells.toList.map zcOf, eqcOf P t d⟩ ∧ (∀ v ∈ z.cells.toList, v.oneCell' = true) ∧ z.cells.size = i.size := by
  unfold ttOf at h
  cases hi : P.info? t with
  | none => simp [hi] at h
  | some i =>
    cases hd : P.underlying t with
    | none => simp [hi, hd] at h
    | some d =>
      cases hz : i.zero with
      | none => simp [hi, hd, hz] at h
      | some z =>
        simp only [hi, hd, hz] at h
        split at h
        · rename_i hb
          simp only [Bool.and_eq_true, List.all_eq_true] at hb
          exact ⟨i, d, z, rfl, rfl, hz, (Option.some.inj h).symm, hb.1, Nat.eq_of_beq_eq_true hb.2⟩
        · cases h
theorem run_sizeOf {P : Program} {t : TypeId} {i : TypeInfo} (h : P.info? t = some i) (w : World) : (sizeOf t).run P w = .ok i.size w := by simp [sizeOf, typeInfo, h]
theorem run_isAgg {P : Program} {t : TypeId} {d : TypeDesc} (h : P.underlying t = some d) (w : World) : (isAgg t).run P w = .ok (aggOf d) w := by
  unfold isAgg
  rw [Sem.run_bind, run_underlying h w]
  cases d <;> simp [aggOf]
theorem kind_slice {d : TypeDesc} {e : TypeId} (h : kindOf d = .slice e) : d = .slice e := by
  cases d <;> simp [kindOf] at h
  rw [h]
theorem kind_int {d : TypeDesc} {k : IntKind} (h : kindOf d = .int k) : d = .int k := by
  cases d <;> simp [kindOf] at h
  rw [h]
theorem kind_str {d : TypeDesc} (h : kindOf d = .str) : d = .string := by
  cases d <;> simp [kindOf] at h
  rfl
theorem kind_struct {d : TypeDesc} {fs : List (Nat × TypeId)} (h : kindOf d = .struct fs) : ∃ fields, d = .struct fields ∧ fs = fields.toList.map fun f => (f.offset, f.type) := by
  cases d <;> simp [kindOf] at h
  exact ⟨_, rfl, h.symm⟩
theorem elem_info {P : Program} {T e : TypeId} {ei : TI} (h : elemOf? (ttOf P) T = some (e, ei)) : P.underlying T = some (.slice e) ∧ ttOf P e = some ei ∧ 0 < ei.size := by
  unfold elemOf? at h
  cases ht : ttOf P T with
  | none => simp [ht] at h
  | some ti =>
    obtain ⟨i, d, z, h1, h2, h3, h4, _⟩ := tt_info ht
    simp only [ht] at h
    cases hk : ti.kind with
    | slice e' =>
      simp only [hk] at h
      cases he : ttOf P e' with
      | none => simp [he] at h
      | some ei' =>
        simp only [he] at h
        cases hb : Nat.blt 0 ei'.size with
        | false => simp [hb] at h
        | true =>
          simp only [hb, Option.some.injEq, Prod.mk.injEq] at h
          obtain ⟨rfl, rfl⟩ := h
          have : kindOf d = .slice e' := by rw [h4] at hk; exact hk
          rw [kind_slice this] at h2
          exact ⟨h2, he, Nat.le_of_ble_eq_true hb⟩
    | _ => simp [hk] at h
theorem field_info {P : Program} {S : TypeId} {i off : Nat} {fi : TI} (h : fieldAt? (ttOf P) S i = some (off, fi)) :
    ∃ fields f, P.underlying S = some (.struct fields) ∧ fields[i]? = some f ∧ f.offset = off ∧ ttOf P f.type = some fi ∧ 0 < fi.size := by
  unfold fieldAt? at h
  cases ht : ttOf P S with
  | none => simp [ht] at h
  | some ti =>
    obtain ⟨inf, d, z, h1, h2, h3, h4, _⟩ := tt_info ht
    simp only [ht] at h
    cases hk : ti.kind with
    | struct fs =>
      simp only [hk] at h
      have hkd : kindOf d = .struct fs := by rw [h4] at hk; exact hk
      obtain ⟨fields, rfl, rfl⟩ := kind_struct hkd
      simp only [List.getElem?_map, Array.getElem?_toList] at h
      cases hf : fields[i]? with
      | none => simp [hf] at h
      | some f =>
        simp only [hf, Option.map_some] at h
        cases he : ttOf P f.type with
        | none => simp [he] at h
        | some fi' =>
          simp only [he] at h
          cases hb : Nat.blt 0 fi'.size with
          | false => simp [hb] at h
          | true =>
            simp only [hb, Option.some.injEq, Prod.mk.injEq] at h
            obtain ⟨rfl, rfl⟩ := h
            exact ⟨fields, f, h2, hf, rfl, he, Nat.le_of_ble_eq_true hb⟩
    | _ => simp [hk] at h

/-- What is written by a list of changes. -/
def ups (H : Nat → Option Blk) : List (Nat × Blk) → Nat → Option Blk
  | [] => H
  | p :: ps => ups (upd H p.1 (some p.2)) ps
/-- An operation does what its effect says. -/
def EffOK (P : Program) (F : Fr) (H : Nat → Option Blk) (σ : Nat → Value) (o : Oper) (a : Act) (w : World) (c : Nat) (e : Eff) : Prop :=
  ∀ (K : Act → World → Prop) (Q : Exit → Act → World → Prop),
    (∀ v w' σ', RelH F (ups H (e.upd ++ number c e.news)) σ' w' → VR w' (Mut F (ups H (e.upd ++ number c e.news)) σ') σ' (Ver (ups H (e.upd ++ number c e.news))) e.val v →
      Grow w (Mut F H σ) σ (Ver H) w' (Mut F (ups H (e.upd ++ number c e.news)) σ') σ' (Ver (ups H (e.upd ++ number c e.news))) → K (a.put o.dst v) w') → o.wp P a w K Q
section
variable {P : Program} {F : Fr} {H : Nat → Option Blk} {σ : Nat → Value} {o : Oper} {a : Act} {w : World} {c : Nat}
theorem EffOK.step {e : Eff} {H' : Nat → Option Blk} (v : Value) (w' : World) (σ' : Nat → Value) (hH : ups H (e.upd ++ number c e.news) = H') (hrun : (execOp a.eval o).run P w = .ok (.value v) w')
    (rel : RelH F H' σ' w' ∧ Grow w (Mut F H σ) σ (Ver H) w' (Mut F H' σ') σ' (Ver H')) (hv : VR w' (Mut F H' σ') σ' (Ver H') e.val v) : EffOK P F H σ o a w c e := by
  subst hH
  intro K Q hK
  unfold Oper.wp
  rw [hrun]
  exact hK v w' σ' rel.1 hv rel.2
theorem EffOK.skip {e : Eff} {H' : Nat → Option Blk} (w' : World) (σ' : Nat → Value) (hH : ups H (e.upd ++ number c e.news) = H') (hrun : (execOp a.eval o).run P w = .ok .skip w')
    (rel : RelH F H' σ' w' ∧ Grow w (Mut F H σ) σ (Ver H) w' (Mut F H' σ') σ' (Ver H')) (hv : e.val = .void) : EffOK P F H σ o a w c e := by
  subst hH
  intro K Q hK
  unfold Oper.wp
  rw [hrun]
  exact hK undef w' σ' rel.1 (by rw [hv]; exact .void) rel.2
theorem EffOK.quiet {x : AV} (rel : RelH F H σ w) (v : Value) (hrun : (execOp a.eval o).run P w = .ok (.value v) w) (hv : VR w (Mut F H σ) σ (Ver H) x v) : EffOK P F H σ o a w c ⟨x, [], []⟩ :=
  .step v w σ rfl hrun ⟨rel, .refl _ _ _ _⟩ hv
/-- What a value op gives back. -/
theorem run_v {s : Sem Value} {v : Value} {w' : World} (ho : execOp a.eval o = (do pure (.value (← s)))) (h : s.run P w = .ok v w') : (execOp a.eval o).run P w = .ok (.value v) w' := by
  rw [ho]; simp [h]
theorem run_u {s : Sem Unit} {w' : World} (ho : execOp a.eval o = (do s; pure .skip)) (h : s.run P w = .ok () w') : (execOp a.eval o).run P w = .ok .skip w' := by
  rw [ho]; simp [h]

/-- A block of cells of known values is read. -/
theorem load_cells {t : TypeId} {ti : TI} (ht : ttOf P t = some ti) (g off : Nat) (us : Nat → Value) (hc : ∀ j, j < ti.size → w.cell? ⟨g, off + j, none⟩ = some (us j)) :
    (ti.agg = true → (Instr.loadAt t (.pointer (some ⟨g, off, none⟩))).run P w = .ok (.agg ((List.range ti.size).map us).toArray) w) ∧
    (ti.agg = false → ti.size = 1 → (Instr.loadAt t (.pointer (some ⟨g, off, none⟩))).run P w = .ok (us 0) w) := by
  obtain ⟨i, d, z, h1, h2, h3, h4, _⟩ := tt_info ht
  have hs : ti.size = i.size := by rw [h4]
  have hagg : ti.agg = aggOf d := by rw [h4]
  refine ⟨fun hg => ?_, fun hg h1' => ?_⟩
  · have hl := run_loadCells (P := P) w ⟨g, off, none⟩ i.size us (fun j hj => by rw [Addr.add_mid]; exact hc j (by omega))
    rw [hs]
    simp only [Instr.loadAt, Instr.sureAddr, Sem.run_bind, Sem.run_pure, Result.andThen_ok, loadVar, run_isAgg h2, ← hagg, hg, if_true, run_sizeOf h1, hl]
  · have h0 := hc 0 (by omega)
    rw [Nat.add_zero] at h0
    simp only [Instr.loadAt, Instr.sureAddr, Sem.run_bind, Sem.run_pure, Result.andThen_ok, loadVar, run_isAgg h2, ← hagg, hg, Bool.false_eq_true, if_false, run_load, h0]

/-- A part of related cells. -/
theorem apart_rel {t : TypeId} {ti : TI} (ht : ttOf P t = some ti) {cs : List AV} {off : Nat} {x : AV} (hx : apart ti cs off = some x) {M : Nat → Prop} {V : Nat → Option Nat} (g o : Nat) (us : Nat → Value)
    (hc : ∀ j, j < cs.length → w.cell? ⟨g, o + j, none⟩ = some (us j) ∧ VR w M σ V (cs.getD j .undef) (us j)) :
    ∃ v, (Instr.loadAt t (.pointer (some ⟨g, o + off, none⟩))).run P w = .ok v w ∧ VR w M σ V x v := by
  unfold apart at hx
  cases hb : Nat.ble (off + ti.size) cs.length with
  | false => simp [hb] at hx
  | true =>
    have hle : off + ti.size ≤ cs.length := Nat.le_of_ble_eq_true hb
    simp only [hb] at hx
    obtain ⟨l1, l2⟩ := load_cells (P := P) (w := w) ht g (o + off) (fun j => us (off + j)) (fun j hj => by rw [Nat.add_assoc]; exact (hc (off + j) (by omega)).1)
    cases hg : ti.agg with
    | true =>
      simp only [hg, Option.some.injEq] at hx
      subst hx
      refine ⟨_, l1 hg, .agg _ _ (by simp; omega) fun j hj => ?_⟩
      have hj' : j < ti.size := by simp at hj; omega
      have e1 : ((cs.drop off).take ti.size).getD j .undef = cs.getD (off + j) .undef := by
        simp [List.getD_eq_getElem?_getD, hj', List.getElem?_drop]
      have e2 : ((List.range ti.size).map fun j => us (off + j)).toArray.getD j Go.undef = us (off + j) := by simp [hj']
      rw [e1, e2]
      exact (hc (off + j) (by omega)).2
    | false =>
      simp only [hg] at hx
      cases h1 : Nat.beq ti.size 1 with
      | false => simp [h1] at hx
      | true =>
        simp only [h1, Option.some.injEq] at hx
        subst hx
        have hs : ti.size = 1 := Nat.eq_of_beq_eq_true h1
        exact ⟨_, l2 hg hs, (hc off (by omega)).2⟩

/-- What a var's block says of its cells. -/
theorem BR.var_cells {M : Nat → Prop} {V : Nat → Option Nat} {id : Nat} {cells : List AV} (h : BR w M σ V id (.var cells)) : ∃ g T vs, σ id = .pointer (some ⟨g, 0, none⟩) ∧ w.heap[g]? = some (.cells vs T (0, 0)) ∧ vs.size = cells.length ∧
    ∀ j, j < cells.length → w.cell? ⟨g, j, none⟩ = some (vs.getD j Go.undef) ∧ VR w M σ V (cells.getD j .undef) (vs.getD j Go.undef) ∧ (vs.getD j Go.undef).oneCell' = true := by
  obtain ⟨g, vs, T, h1, h2, h3, h4⟩ := h
  refine ⟨g, T, vs, h1, h2, h3, fun j hj => ⟨?_, (h4 j hj).1, (h4 j hj).2⟩⟩
  have hjs : j < vs.size := by omega
  simp [World.cell?, h2, Array.getD, hjs]
/-- What a row's block says of its cells. -/
theorem BR.row_cells {M : Nat → Prop} {V : Nat → Option Nat} {id ver sz n : Nat} {e : TypeId} {f : Nat → List AV} (h : BR w M σ V id (.row ver sz n e f)) :
    0 < sz ∧ (∀ k, k < n → (f k).length = sz) ∧ ∃ xs, w.ownsRow 0 e sz (σ id) n xs ∧ (∀ k j, k < n → j < sz → PR w M ((f k).getD j .undef) (xs.getD (k * sz + j) Go.undef) ∧ (xs.getD (k * sz + j) Go.undef).oneCell' = true) ∧
    (0 < n → ∃ g cap cur, σ id = .slice (some ⟨g, 0, none⟩) n cap ∧ n ≤ cap ∧ cap ≤ maxLen ∧ w.heap[g]? = some (.cells cur e (0, 0)) ∧ cur.size = cap * sz ∧ cur.toList.take (n * sz) = xs ∧
      ∀ k j, k < n → j < sz → w.cell? ⟨g, k * sz + j, none⟩ = some (xs.getD (k * sz + j) Go.undef)) := by
  obtain ⟨xs, h0, h1, h2, h3⟩ := h
  refine ⟨h0, h2, xs, h1, h3, fun hn => ?_⟩
  rcases h1.2 with ⟨_, h⟩ | ⟨g, cap, cur, e1, _, e3, e4, e5, e6, e7⟩
  · omega
  · refine ⟨g, cap, cur, e1, e4, e5, e3, e6, e7, fun k j hk hj => ?_⟩
    have hlt : k * sz + j < n * sz := by
      have h2 : (k + 1) * sz ≤ n * sz := Nat.mul_le_mul_right _ hk
      rw [Nat.add_mul, Nat.one_mul] at h2
      omega
    have hle : n * sz ≤ cap * sz := Nat.mul_le_mul_right _ e4
    have hcs : k * sz + j < cur.size := by omega
    rw [← e7]
    simp [World.cell?, e3, List.getD_eq_getElem?_getD, hlt, hcs]
/-- What a listed slice's block says of its cells. -/
theorem BR.lrow_cells {M : Nat → Prop} {V : Nat → Option Nat} {id ver sz n : Nat} {e : TypeId} {cells : List AV} (h : BR w M σ V id (.lrow ver sz n e cells)) :
    0 < sz ∧ 0 < n ∧ cells.length = n * sz ∧ ∃ g cap cur xs, w.ownsRow 0 e sz (σ id) n xs ∧ σ id = .slice (some ⟨g, 0, none⟩) n cap ∧ n ≤ cap ∧ cap ≤ maxLen ∧ w.heap[g]? = some (.cells cur e (0, 0)) ∧ cur.size = cap * sz ∧ cur.toList.take (n * sz) = xs ∧
      ∀ j, j < n * sz → w.cell? ⟨g, j, none⟩ = some (xs.getD j Go.undef) ∧ VR w M σ V (cells.getD j .undef) (xs.getD j Go.undef) ∧ (xs.getD j Go.undef).oneCell' = true := by
  obtain ⟨xs, h0, h0', h1, h2, h3⟩ := h
  rcases h1.2 with ⟨_, h⟩ | ⟨g, cap, cur, e1, _, e3, e4, e5, e6, e7⟩
  · omega
  · refine ⟨h0, h0', h2, g, cap, cur, xs, h1, e1, e4, e5, e3, e6, e7, fun j hj => ⟨?_, h3 j hj⟩⟩
    have hle : n * sz ≤ cap * sz := Nat.mul_le_mul_right _ e4
    have hcs : j < cur.size := by omega
    rw [← e7]
    simp [World.cell?, e3, List.getD_eq_getElem?_getD, hj, hcs]
/-- A row of the call's own, as a slice that is only read. -/
theorem BR.row_slc {M M' : Nat → Prop} {V : Nat → Option Nat} {id ver sz n : Nat} {e : TypeId} {f : Nat → List AV} (h : BR w M σ V id (.row ver sz n e f)) (hM : ∀ g, M' g → M g) (hn : ∀ g, blkOf (σ id) = some g → ¬ M' g) :
    PR w M' (.slc sz n f) (σ id) := by
  obtain ⟨h0, h2, xs, h1, h3, h4⟩ := h.row_cells
  by_cases hz : n = 0
  · subst hz
    refine .slc0 sz f _ ?_
    rcases h1.2 with ⟨h, _⟩ | ⟨g, cap, cur, e1, _, _, _, e5, _⟩
    · exact .inl h
    · exact .inr ⟨_, cap, e1, e5⟩
  · obtain ⟨g, cap, cur, e1, e2, e3, e4, e5, e6, e7⟩ := h4 (by omega)
    rw [e1]
    refine .slc sz n f g 0 cap (fun k j => xs.getD (k * sz + j) Go.undef) (by omega) e2 e3 h2 (fun k j hk hj => ⟨hn g (by rw [e1]; rfl), by rw [Nat.zero_add]; exact e7 k j hk hj, (h3 k j hk hj).2⟩) (fun k j hk hj => ?_)
    exact (h3 k j hk hj).1.grow (fun _ _ _ => rfl) (fun g _ h => hM g h)
end
end Go.Proofs.Ythkdmemkjojmoaa.Ab
