/- The plain evaluator's operations are right: alloc, box, build, store, append, slice. -/
import Derived.Test.YthkdmemkjojmoaaZC7
namespace Go.Proofs.Ythkdmemkjojmoaa.Ab
open Go

theorem allB_iff {α : Type} {p : α → Bool} {l : List α} : allB p l = true ↔ ∀ x ∈ l, p x = true := by
  induction l with
  | nil => simp [allB]
  | cons x xs ih =>
    unfold allB
    cases h : p x <;> simp [h, ih]
section
variable {w : World} {M : Nat → Prop} {σ : Nat → Value} {V : Nat → Option Nat}
/-- Cells that are related, one by one. -/
def CellsRel (w : World) (M : Nat → Prop) (σ : Nat → Value) (V : Nat → Option Nat) (cells : List AV) (vs : Array Value) : Prop :=
  vs.size = cells.length ∧ ∀ j, j < cells.length → VR w M σ V (cells.getD j .undef) (vs.getD j Go.undef) ∧ (vs.getD j Go.undef).oneCell' = true
theorem VR.cells {x : AV} {v : Value} (h : VR w M σ V x v) (h1 : allB AV.one x.cells = true) : CellsRel w M σ V x.cells v.cells := by
  by_cases hx : ∃ cs, x = .agg cs
  · obtain ⟨cs, rfl⟩ := hx
    obtain ⟨vs, rfl, hl, hc⟩ := h.agg_inv
    refine ⟨hl, fun j hj => ⟨hc j hj, (hc j hj).one ?_⟩⟩
    refine allB_iff.1 h1 _ ?_
    have hj : j < cs.length := hj
    rw [List.getD_eq_getElem?_getD, List.getElem?_eq_getElem hj]
    exact List.getElem_mem hj
  · have hc : x.cells = [x] := by cases x <;> first | rfl | exact absurd ⟨_, rfl⟩ hx
    rw [hc] at h1 ⊢
    have ho := h.one (allB_iff.1 h1 x (by simp))
    have hv : v.cells = #[v] := by cases v <;> first | rfl | simp [Value.oneCell'] at ho
    rw [hv]
    refine ⟨rfl, fun j hj => ?_⟩
    obtain rfl : j = 0 := by simp at hj; omega
    exact ⟨h, ho⟩
theorem zcells_len : ∀ (zs : List ZC) (c : Nat), (zcells zs c).length = zs.length := by
  intro zs
  induction zs with
  | nil => intro c; rfl
  | cons z zs ih => intro c; cases z <;> simp [zcells, ih]
theorem zplain_len : ∀ (zs : List ZC), (zplain zs).length = zs.length := by
  intro zs
  induction zs with
  | nil => rfl
  | cons z zs ih => cases z <;> simp [zplain, ih]
theorem zcOf_spec (v : Value) : (∃ k, zcOf v = .int k ∧ v = .int k 0) ∨ (zcOf v = .bool ∧ v = .bool false) ∨ (zcOf v = .nilp ∧ v = .pointer none) ∨ (zcOf v = .nilsl ∧ v = .slice none 0 0) ∨ (zcOf v = .str ∧ v = .string ⟨#[]⟩) ∨ zcOf v = .raw v := by
  unfold zcOf
  split
  · exact .inl ⟨_, rfl, rfl⟩
  · exact .inr (.inl ⟨rfl, rfl⟩)
  · exact .inr (.inr (.inl ⟨rfl, rfl⟩))
  · exact .inr (.inr (.inr (.inl ⟨rfl, rfl⟩)))
  · exact .inr (.inr (.inr (.inr (.inl ⟨rfl, rfl⟩))))
  · exact .inr (.inr (.inr (.inr (.inr rfl))))
theorem zcells_rel : ∀ (vals : List Value) (c : Nat), (∀ j, j < zslices (vals.map zcOf) → VR w M σ V (.own (c + j) 0) (.slice none 0 0)) →
    ∀ j, j < vals.length → VR w M σ V ((zcells (vals.map zcOf) c).getD j .undef) (vals.getD j Go.undef) := by
  intro vals
  induction vals with
  | nil => intro c _ j hj; simp at hj
  | cons v vals ih =>
    intro c hown j hj
    simp only [List.map_cons] at hown ⊢
    have step : ∀ (x : AV), VR w M σ V x v → (∀ j, j < zslices (vals.map zcOf) → VR w M σ V (.own (c + j) 0) (.slice none 0 0)) → VR w M σ V ((x :: zcells (vals.map zcOf) c).getD j .undef) ((v :: vals).getD j Go.undef) := by
      intro x hx ho
      cases j with
      | zero => exact hx
      | succ j => simpa using ih c ho j (by simpa using hj)
    rcases zcOf_spec v with ⟨k, e, rfl⟩ | ⟨e, rfl⟩ | ⟨e, rfl⟩ | ⟨e, rfl⟩ | ⟨e, rfl⟩ | e <;> rw [e] at hown ⊢
    · exact step _ (.pure (.int _ _)) hown
    · exact step _ (.pure (.bool _)) hown
    · exact step _ (.pure .nilp) hown
    · simp only [zcells, zslices] at hown ⊢
      cases j with
      | zero => exact hown 0 (by omega)
      | succ j =>
        have := ih (c + 1) (fun j hj => by have := hown (j + 1) (by omega); rwa [show c + (j + 1) = c + 1 + j by omega] at this) j (by simpa using hj)
        simpa using this
    · exact step _ (.pure (.str _)) hown
    · exact step _ (.pure (.raw _)) hown
theorem zplain_rel : ∀ (vals : List Value), ∀ j, j < vals.length → PR w M ((zplain (vals.map zcOf)).getD j .undef) (vals.getD j Go.undef) := by
  intro vals
  induction vals with
  | nil => intro j hj; simp at hj
  | cons v vals ih =>
    intro j hj
    simp only [List.map_cons]
    have step : ∀ (x : AV), PR w M x v → PR w M ((x :: zplain (vals.map zcOf)).getD j .undef) ((v :: vals).getD j Go.undef) := by
      intro x hx
      cases j with
      | zero => exact hx
      | succ j => simpa using ih j (by simpa using hj)
    rcases zcOf_spec v with ⟨k, e, rfl⟩ | ⟨e, rfl⟩ | ⟨e, rfl⟩ | ⟨e, rfl⟩ | ⟨e, rfl⟩ | e <;> rw [e]
    · exact step _ (.int _ _)
    · exact step _ (.bool _)
    · exact step _ .nilp
    · exact step _ (.slc0 _ _ _ (.inl rfl))
    · exact step _ (.str _)
    · exact step _ (.raw _)
end

section
variable {P : Program} {F : Fr} {H : Nat → Option Blk} {σ : Nat → Value} {o : Oper} {a : Act} {w : World} {c : Nat}
theorem ok_move {x : Operand} {y : AV} (ho : o.op = .move x ∨ o.op = .assign x) (rel : RelH F H σ w) (hx : VR w (Mut F H σ) σ (Ver H) y (a.eval x)) (hn : H c = none) :
    Good P F H σ o a w c (match isNilC x with | true => .ret (.of ⟨.own c 0, [], [.nilrow 0]⟩) | false => .ret (.val y)) := by
  have hrun : (execOp a.eval o).run P w = .ok (.value (a.eval x)) w := by
    rcases ho with ho | ho <;> simp [execOp, ho]
  cases hb : isNilC x with
  | false => exact .val rel _ hrun hx
  | true =>
    have he : a.eval x = .slice none 0 0 := by
      unfold isNilC at hb
      split at hb
      · rfl
      · cases hb
    refine .ret fun _ _ _ => ?_
    have h1 := rel.addNil c hn
    refine .step (H' := upd H c (some (.nilrow 0))) _ w _ rfl hrun h1 ?_
    rw [he]
    exact .own c 0 0 _ rfl (by simp [Ver, Blk.ver]) (Nat.le_refl _) (fun _ => by simp)

theorem alloc_push (w : World) (cs : Array Value) (T : TypeId) : (newRow T cs).run P w = .ok ⟨w.heap.size, 0, none⟩ (w.alloc (.cells cs T)) := by
  simp [newRow]
theorem ok_alloc {T : TypeId} {ti : TI} (ho : o.op = .alloc T) (ht : ttOf P T = some ti) (rel : RelH F H σ w) (hn : ∀ j, j < 64 → H (c + j) = none) :
    Good P F H σ o a w c (.ret (.of ⟨.ptr c 0, [], .var (zcells ti.zero (c + 1)) :: nilrows (zslices ti.zero)⟩)) := by
  obtain ⟨i, d, z, h1, h2, h3, h4, h5, h6⟩ := tt_info ht
  have hz : ti.zero = z.cells.toList.map zcOf := by rw [h4]
  refine .ret64 fun _ _ _ hlen => ?_
  have hlen : zslices ti.zero < 64 := by simp only [EffG.of, List.length_cons, nils_len] at hlen; omega
  obtain ⟨σ1, n1, n2⟩ := rel.addNils (zslices ti.zero) (c + 1) (fun j hj => by rw [show c + 1 + j = c + (j + 1) by omega]; exact hn (j + 1) (by omega))
  have hc0 : ups H (number (c + 1) (nilrows (zslices ti.zero))) c = none := by
    rw [ups_off (fun p hp => by have := (number_ge p hp).1; omega)]
    simpa using hn 0 (by omega)
  have n3 := n1.1.addVar c hc0 (zcells ti.zero (c + 1)) z.cells T (by rw [zcells_len, hz]; simp) (fun j hj => by
    rw [zcells_len, hz, List.length_map, Array.length_toList] at hj
    have e : z.cells.getD j Go.undef = z.cells.toList.getD j Go.undef := by simp [List.getD_eq_getElem?_getD, Array.getD_eq_getD_getElem?]
    rw [hz, e]
    refine ⟨zcells_rel z.cells.toList (c + 1) (fun j hj => ?_) j (by simpa using hj), h5 _ ?_⟩
    · rw [← hz] at hj
      obtain ⟨e1, e2⟩ := n2 j hj
      exact .own _ 0 0 _ rfl (by rw [Ver, ← hz, e1]; rfl) (Nat.le_refl _) (fun _ => e2.symm)
    · rw [List.getD_eq_getElem?_getD, List.getElem?_eq_getElem (by simpa using hj)]
      exact List.getElem_mem _)
  refine .step (v := .pointer (some ⟨w.heap.size, 0, none⟩)) (w' := w.alloc (.cells z.cells T)) _ ?_ (run_v (s := Instr.alloc T true (.tuple #[])) (by simp [execOp, ho]) ?_) (n1.trans n3) ?_
  · show ups (upd H c _) _ = _
    rw [ups_upd (fun p hp => by have := (number_ge p hp).1; omega)]
  · simp [Instr.alloc, zeroValue, typeInfo, h1, h3, newVar, alloc_push]
  · exact .ptr c 0 w.heap.size 0 (by simp [Ver, Blk.ver]) (by simp)

theorem ok_box {T : TypeId} {x : Operand} {y : AV} (ho : o.op = .box T x) (rel : RelH F H σ w) (hx : VR w (Mut F H σ) σ (Ver H) y (a.eval x)) (hn : ∀ j, j < 64 → H (c + j) = none) :
    Good P F H σ o a w c (match isNilC x with
      | true => .ret (.of ⟨.ptr c 0, [], [.var [.own (c + 1) 0], .nilrow 0]⟩)
      | false => match allB AV.one y.cells with
        | true => .ret (.of ⟨.ptr c 0, [], [.var y.cells]⟩)
        | false => .fail) := by
  have hrun : (execOp a.eval o).run P w = .ok (.value (.pointer (some ⟨w.heap.size, 0, none⟩))) (w.alloc (.cells (a.eval x).cells T)) := by
    refine run_v (s := Instr.box T (a.eval x)) (by simp [execOp, ho]) ?_
    simp [Instr.box, newVar, alloc_push]
  have hc0 : H c = none := by simpa using hn 0 (by omega)
  cases hb : isNilC x with
  | false =>
    cases h1 : allB AV.one y.cells with
    | false => exact .fail
    | true =>
      refine .ret fun _ _ _ => ?_
      obtain ⟨hl, hc⟩ := hx.cells h1
      exact .step (H' := upd H c (some (.var y.cells))) _ _ _ rfl hrun (rel.addVar c hc0 y.cells (a.eval x).cells T hl hc) (.ptr c 0 w.heap.size 0 (by simp [Ver, Blk.ver]) (by simp))
  | true =>
    have he : a.eval x = .slice none 0 0 := by
      unfold isNilC at hb
      split at hb
      · rfl
      · cases hb
    refine .ret fun _ _ _ => ?_
    have n1 := rel.addNil (c + 1) (hn 1 (by omega))
    have n2 := n1.1.addVar c (by rw [upd_ne _ _ (by omega)]; exact hc0) [.own (c + 1) 0] (a.eval x).cells T (by rw [he]; rfl) (fun j hj => by
      obtain rfl : j = 0 := by simp at hj; omega
      rw [he]
      exact ⟨.own (c + 1) 0 0 (.slice none 0 0) rfl (by simp [Ver, Blk.ver]) (Nat.le_refl _) (fun _ => (upd_same _ _ _).symm), rfl⟩)
    refine .step (H' := upd (upd H (c + 1) (some (.nilrow 0))) c (some (.var [.own (c + 1) 0]))) _ _ _ ?_ hrun (n1.trans n2) (.ptr c 0 w.heap.size 0 (by simp [Ver, Blk.ver]) (by simp))
    show upd (upd H c _) (c + 1) _ = _
    rw [upd_comm _ _ _ (by omega)]

/-- What is given up, and read on. -/
theorem Good.purify {v : AV} {k : AV → List (Nat × Blk) → LM EffG} {x : Value} (rel : RelH F H σ w) (hx : VR w (Mut F H σ) σ (Ver H) v x)
    (h : ∀ v' u, (∀ p ∈ u, ∃ b, H p.1 = some b ∧ b.live ∧ p.2 = .dead (b.ver + 1)) →
      (∀ M' : Nat → Prop, (∀ g, M' g → Mut F H σ g) → (∀ p ∈ u, ∀ g, blkOf (σ p.1) = some g → ¬ M' g) → PR w M' v' x) → x.oneCell' = true → Good P F H σ o a w c (k v' u)) : Good P F H σ o a w c (Ab.purify v k) := by
  by_cases hv : ∃ id ver, v = .own id ver
  · obtain ⟨id, ver, rfl⟩ := hv
    refine .look fun b hb => ?_
    cases b with
    | row ver' sz n e f =>
      cases hq : Nat.beq ver ver' with
      | false => simp only [hq]; exact .fail
      | true =>
        obtain rfl := Nat.eq_of_beq_eq_true hq
        simp only [hq]
        have hval := hx.own_inv (ver_of hb)
        refine h _ _ (fun p hp => ?_) (fun M' hM hnot => ?_) (hx.one rfl)
        · simp only [List.mem_singleton] at hp; subst hp; exact ⟨_, hb, trivial, rfl⟩
        · rw [hval]
          exact (rel.bl id _ hb).row_slc hM (fun g hg => hnot (id, .dead (ver + 1)) (List.mem_singleton.2 rfl) g hg)
    | nilrow ver' =>
      cases hq : Nat.beq ver ver' with
      | false => simp only [hq]; exact .fail
      | true =>
        obtain rfl := Nat.eq_of_beq_eq_true hq
        simp only [hq]
        have hval := hx.own_inv (ver_of hb)
        refine h _ _ (fun p hp => ?_) (fun M' hM hnot => ?_) (hx.one rfl)
        · simp only [List.mem_singleton] at hp; subst hp; exact ⟨_, hb, trivial, rfl⟩
        · have hnil : σ id = .slice none 0 0 := rel.bl id _ hb
          rw [hval, hnil]
          exact .slc0 _ _ _ (.inl rfl)
    | _ => exact .fail
  · have e : Ab.purify v k = match v.plain with | true => k v [] | false => .fail := by cases v <;> first | rfl | exact absurd ⟨_, _, rfl⟩ hv
    rw [e]
    cases hp : v.plain with
    | false => exact .fail
    | true =>
      have h1 : v.one = true := by cases v <;> first | rfl | simp [AV.plain] at hp
      refine h v [] (fun p hp => by cases hp) (fun M' hM _ => ?_) (hx.one h1)
      cases hx with
      | pure hx => exact hx.grow (fun _ _ _ => rfl) (fun g _ hg => hM g hg)
      | _ => simp [AV.plain] at hp
theorem Good.purifyL (rel : RelH F H σ w) : ∀ (xs : List AV) (us : List Value), us.length = xs.length → (∀ j, j < xs.length → VR w (Mut F H σ) σ (Ver H) (xs.getD j .undef) (us.getD j Go.undef)) →
    ∀ k : List AV → List (Nat × Blk) → LM EffG, (∀ xs' u, xs'.length = xs.length → (∀ p ∈ u, ∃ b, H p.1 = some b ∧ b.live ∧ p.2 = .dead (b.ver + 1)) →
      (∀ M' : Nat → Prop, (∀ g, M' g → Mut F H σ g) → (∀ p ∈ u, ∀ g, blkOf (σ p.1) = some g → ¬ M' g) → ∀ j, j < xs.length → PR w M' (xs'.getD j .undef) (us.getD j Go.undef) ∧ (us.getD j Go.undef).oneCell' = true) →
      Good P F H σ o a w c (k xs' u)) → Good P F H σ o a w c (Ab.purifyL xs k) := by
  intro xs
  induction xs with
  | nil => intro us hl _ k h; exact h [] [] rfl (fun p hp => by cases hp) (fun _ _ _ j hj => by simp at hj)
  | cons x xs ih =>
    intro us hl hc k h
    obtain ⟨u0, us, rfl⟩ : ∃ u us', us = u :: us' := by cases us with
      | nil => simp at hl
      | cons u us' => exact ⟨u, us', rfl⟩
    refine Good.purify rel (x := u0) (by simpa using hc 0 (by simp)) fun v' u1 a1 a2 a3 => ?_
    refine ih us (by simpa using hl) (fun j hj => by simpa using hc (j + 1) (by simpa using hj)) _ fun xs' u2 b0 b1 b2 => ?_
    refine h (v' :: xs') (u1 ++ u2) (by simp [b0]) (fun p hp => ?_) (fun M' hM hnot j hj => ?_)
    · rcases List.mem_append.1 hp with hp | hp
      · exact a1 p hp
      · exact b1 p hp
    · cases j with
      | zero => exact ⟨a2 M' hM (fun p hp => hnot p (List.mem_append.2 (.inl hp))), a3⟩
      | succ j =>
        have := b2 M' hM (fun p hp => hnot p (List.mem_append.2 (.inr hp))) j (by simpa using hj)
        simpa using this

theorem ok_astore {T : TypeId} {x y : Operand} {ti : TI} (ho : o.op = .store T x y) (ht : ttOf P T = some ti) (rel : RelH F H σ w) (hn : ∀ j, j < 64 → H (c + j) = none) {p q : AV} (hx : VR w (Mut F H σ) σ (Ver H) p (a.eval x)) (hy : VR w (Mut F H σ) σ (Ver H) q (a.eval y)) :
    Good P F H σ o a w c (match isNilC y with
      | true => astore ti p [.own c 0] [.nilrow 0]
      | false => astore ti p q.cells []) := by
  obtain ⟨i, d, z, h1, h2, h3, h4, h5, h6⟩ := tt_info ht
  have hs : ti.size = i.size := by rw [h4]
  have hrun : ∀ w', (Instr.storeAt T (a.eval x) (a.eval y)).run P w = .ok () w' → (execOp a.eval o).run P w = .ok .skip w' := fun w' h => run_u (by simp [execOp, ho]) h
  cases hb : isNilC y with
  | true =>
    have he : a.eval y = .slice none 0 0 := by
      unfold isNilC at hb
      split at hb
      · rfl
      · cases hb
    have hc0 : H c = none := by simpa using hn 0 (by omega)
    unfold astore
    cases hq : Nat.beq [AV.own c 0].length ti.size && allB AV.one [AV.own c 0] with
    | false => exact .fail
    | true =>
      dsimp only
      simp only [Bool.and_eq_true] at hq
      have hsz : ti.size = 1 := (Nat.eq_of_beq_eq_true hq.1).symm
      cases p with
      | ptr id off =>
        refine .look fun b hb => ?_
        cases b with
        | var cells =>
          cases hle : Nat.ble (off + ti.size) cells.length with
          | false => simp only [hle]; exact .fail
          | true =>
            simp only [hle]
            refine .ret fun _ _ _ => ?_
            have hne : id ≠ c := fun e => by rw [e, hc0] at hb; cases hb
            have n1 := rel.addNil c hc0
            obtain ⟨g, w', e1, e2, n2⟩ := n1.1.setVar (P := P) id cells (by rw [upd_ne _ _ hne]; exact hb) off [.own c 0] [.slice none 0 0] rfl (by have := Nat.le_of_ble_eq_true hle; simp; omega)
              (fun j hj => by
                obtain rfl : j = 0 := by simp at hj; omega
                exact ⟨.own c 0 0 _ rfl (by simp [Ver, Blk.ver]) (Nat.le_refl _) (fun _ => by simp), rfl⟩) T i h1 (by simp; omega) (.slice none 0 0) rfl
            obtain ⟨g', f1, f2, _⟩ := hx.ptr_inv
            rw [upd_ne _ _ hne, f1] at e1
            injection e1 with e1; injection e1 with e1; injection e1 with e1
            subst e1
            refine .skip w' _ ?_ (hrun w' (by rw [f2, he]; exact e2)) (n1.trans n2) rfl
            show upd (upd H id _) c _ = _
            rw [upd_comm _ _ _ hne]
        | _ => exact .fail
      | rptr id ver sz k off =>
        refine .look fun b hb => ?_
        rw [hc0] at hb; cases hb
      | lptr id ver off => exact .fail
      | _ => exact .fail
  | false =>
    unfold astore
    simp only [updRow_eq]
    cases hq : Nat.beq q.cells.length ti.size && allB AV.one q.cells with
    | false => exact .fail
    | true =>
      dsimp only
      simp only [Bool.and_eq_true] at hq
      have hsz : q.cells.length = ti.size := Nat.eq_of_beq_eq_true hq.1
      obtain ⟨hl, hcells⟩ := hy.cells hq.2
      have eg : ∀ j, (a.eval y).cells.toList.getD j Go.undef = (a.eval y).cells.getD j Go.undef := fun j => by simp [List.getD_eq_getElem?_getD, Array.getD_eq_getD_getElem?]
      cases p with
      | ptr id off =>
        refine .look fun b hb => ?_
        cases b with
        | var cells =>
          cases hle : Nat.ble (off + ti.size) cells.length with
          | false => simp only [hle]; exact .fail
          | true =>
            simp only [hle]
            refine .ret fun _ _ _ => ?_
            obtain ⟨g, w', e1, e2, n2⟩ := rel.setVar (P := P) id cells hb off q.cells (a.eval y).cells.toList (by simpa using hl) (by have := Nat.le_of_ble_eq_true hle; omega)
              (fun j hj => by rw [eg]; exact hcells j hj) T i h1 (by omega) (a.eval y) rfl
            obtain ⟨g', f1, f2, _⟩ := hx.ptr_inv
            rw [f1] at e1
            injection e1 with e1; injection e1 with e1; injection e1 with e1
            subst e1
            exact .skip w' _ rfl (hrun w' (by rw [f2]; exact e2)) n2 rfl
        | _ => exact .fail
      | rptr id ver sz k off =>
        refine Good.purifyL rel q.cells (a.eval y).cells.toList (by simpa using hl) (fun j hj => by rw [eg]; exact (hcells j hj).1) _ fun xs' u b0 b1 b2 => ?_
        refine .look fun b hb => ?_
        cases b with
        | row ver' sz' n e f =>
          cases hv : Nat.beq ver ver' && Nat.beq sz sz' && Nat.ble (off + ti.size) sz && notIn [id] (u.map fun p => (p.1, 0)) with
          | false => simp only [hv]; exact .fail
          | true =>
            simp only [hv]
            simp only [Bool.and_eq_true] at hv
            obtain ⟨⟨⟨v1, v2⟩, v3⟩, v4⟩ := hv
            obtain rfl := Nat.eq_of_beq_eq_true v1
            obtain rfl := Nat.eq_of_beq_eq_true v2
            have hid : ∀ p ∈ u, p.1 ≠ id := by
              intro p hp e
              have := allB_iff.1 v4 (p.1, 0) (List.mem_map.2 ⟨p, hp, rfl⟩)
              subst e
              simp [idx] at this
            refine .ret fun _ _ _ => ?_
            obtain ⟨n1, k1, k2⟩ := rel.kill u b1
            obtain ⟨g, n', cap, g1, g2, g3⟩ := hx.rptr_inv (ver_of hb)
            have hb' : ups H u id = some (.row ver sz n e f) := by rw [ups_off hid]; exact hb
            have hkn : k < n := by
              obtain ⟨h0, h2', xs0, h1', h3', h4'⟩ := (rel.bl id _ hb).row_cells
              rcases h1'.2 with ⟨h, _⟩ | ⟨g1', cap1, cur1, e1, _⟩
              · rw [g1] at h; cases h
              · rw [g1] at e1; injection e1 with _ e1; omega
            obtain ⟨w', e2, n2⟩ := n1.1.setRow (P := P) id ver sz n e f hb' g n' cap k off g1 hkn xs' (a.eval y).cells.toList (by rw [b0]; simpa using hl) (by rw [b0]; have := Nat.le_of_ble_eq_true v3; omega)
              (fun j hj => b2 _ k2 k1 j (by omega)) T i h1 (by omega) (a.eval y) rfl
            refine .skip w' _ ?_ (hrun w' (by rw [g3]; exact e2)) (n1.trans n2) rfl
            simp only [EffG.of, number, List.append_nil]
            show ups (upd H id _) u = _
            rw [ups_upd hid]
        | _ => exact .fail
      | lptr id ver off =>
        refine .look fun b hb => ?_
        cases b with
        | lrow ver' sz n e cells =>
          cases hv : Nat.beq ver ver' && Nat.ble (off + ti.size) cells.length with
          | false => simp only [hv]; exact .fail
          | true =>
            simp only [hv]
            simp only [Bool.and_eq_true] at hv
            obtain rfl := Nat.eq_of_beq_eq_true hv.1
            refine .ret fun _ _ _ => ?_
            obtain ⟨g, cap, w', e1, e2, n2⟩ := rel.setLrow (P := P) id ver sz n e cells hb off q.cells (a.eval y).cells.toList (by simpa using hl) (by have := Nat.le_of_ble_eq_true hv.2; omega)
              (fun j hj => by rw [eg]; exact hcells j hj) T i h1 (by omega) (a.eval y) rfl
            obtain ⟨g', n', cap', f1, f2⟩ := hx.lptr_inv (ver_of hb)
            rw [f1] at e1
            injection e1 with e1; injection e1 with e1; injection e1 with e1
            subst e1
            exact .skip w' _ rfl (hrun w' (by rw [f2]; exact e2)) n2 rfl
        | _ => exact .fail
      | _ => exact .fail
end
end Go.Proofs.Ythkdmemkjojmoaa.Ab
