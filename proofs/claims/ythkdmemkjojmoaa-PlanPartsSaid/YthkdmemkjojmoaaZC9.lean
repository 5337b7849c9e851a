/- The plain evaluator's operations are right: parts put together, append, slice, len. -/
import Derived.Test.YthkdmemkjojmoaaZC8
namespace Go.Proofs.Ythkdmemkjojmoaa.Ab
open Go

theorem foldl_set (off : Nat) : ∀ (l : List Value) (k : Nat) (cs : Array Value), off + k + l.length ≤ cs.size →
    ((l.zipIdx k).foldl (fun cs p => cs.setIfInBounds (off + p.2) p.1) cs).size = cs.size ∧
    ∀ j, ((l.zipIdx k).foldl (fun cs p => cs.setIfInBounds (off + p.2) p.1) cs).getD j Go.undef = if off + k ≤ j ∧ j < off + k + l.length then l.getD (j - (off + k)) Go.undef else cs.getD j Go.undef := by
  intro l
  induction l with
  | nil => intro k cs _; exact ⟨rfl, fun j => by rw [if_neg (by simp only [List.length_nil]; omega)]; rfl⟩
  | cons v l ih =>
    intro k cs hl
    simp only [List.zipIdx_cons, List.foldl_cons]
    simp only [List.length_cons] at hl
    obtain ⟨h1, h2⟩ := ih (k + 1) (cs.setIfInBounds (off + k) v) (by simp; omega)
    refine ⟨by rw [h1]; simp, fun j => ?_⟩
    rw [h2 j]
    by_cases c1 : j = off + k
    · subst c1
      rw [if_neg (by omega), if_pos (by simp)]
      have : off + k < cs.size := by omega
      simp [Array.getD, this]
    · by_cases c2 : off + (k + 1) ≤ j ∧ j < off + (k + 1) + l.length
      · rw [if_pos c2, if_pos (by simp; omega), show j - (off + k) = (j - (off + (k + 1))) + 1 by omega]
        simp
      · rw [if_neg c2, if_neg (by simp; omega)]
        simp only [Array.getD_eq_getD_getElem?]
        rw [Array.getElem?_setIfInBounds_ne (by omega)]

section
variable {w : World} {M : Nat → Prop} {σ : Nat → Value} {V : Nat → Option Nat}
theorem fill_rel (a : Act) (ρ : Operand → AV) (hρ : ∀ x, VR w M σ V (ρ x) (a.eval x)) (placeA placeR : Nat → Option (Nat × Nat)) (hpl : ∀ i p, placeA i = some p → placeR i = some p) :
    ∀ (ps : List (Nat × Operand)) (cells : List AV) (vs : Array Value) (cells' : List AV), vs.size = cells.length → (∀ j, j < cells.length → VR w M σ V (cells.getD j .undef) (vs.getD j Go.undef) ∧ (vs.getD j Go.undef).oneCell' = true) →
      lastElem (ps.map fun p => (p.1, ρ p.2)) cells 0 placeA = some cells' →
      ∃ vs', Instr.fill placeR vs (ps.map fun p => (p.1, a.eval p.2)) = some vs' ∧ vs'.size = cells'.length ∧ cells'.length = cells.length ∧ ∀ j, j < cells'.length → VR w M σ V (cells'.getD j .undef) (vs'.getD j Go.undef) ∧ (vs'.getD j Go.undef).oneCell' = true := by
  intro ps
  induction ps with
  | nil =>
    intro cells vs cells' hl hc h
    simp only [List.map_nil, lastElem, Option.some.injEq] at h
    subst h
    exact ⟨vs, rfl, hl, rfl, hc⟩
  | cons p ps ih =>
    intro cells vs cells' hl hc h
    simp only [List.map_cons, lastElem] at h
    cases hp : placeA p.1 with
    | none => simp [hp] at h
    | some q =>
      obtain ⟨off, size⟩ := q
      simp only [hp] at h
      cases hb : Nat.beq (ρ p.2).cells.length size && Nat.ble (off + size) cells.length && allB AV.one (ρ p.2).cells with
      | false => simp [hb] at h
      | true =>
        simp only [hb] at h
        simp only [Bool.and_eq_true] at hb
        obtain ⟨⟨b1, b2⟩, b3⟩ := hb
        have b1 := Nat.eq_of_beq_eq_true b1
        have b2 := Nat.le_of_ble_eq_true b2
        obtain ⟨c1, c2⟩ := (hρ p.2).cells b3
        have e1 : (a.eval p.2).cells.toList.zipIdx = (a.eval p.2).cells.zipIdx.toList := by simp
        obtain ⟨f1, f2⟩ := foldl_set off (a.eval p.2).cells.toList 0 vs (by simp; omega)
        have hlen : (setAt cells off (ρ p.2).cells).length = cells.length := by simp [setAt]; omega
        obtain ⟨vs', g1, g2, g3, g4⟩ := ih (setAt cells off (ρ p.2).cells) _ cells' (by rw [f1, hlen, hl]) (fun j hj => by
          rw [hlen] at hj
          rw [f2 j, setAt_get (by omega)]
          by_cases hin : off ≤ j ∧ j < off + (ρ p.2).cells.length
          · rw [if_pos hin, if_pos (by simp; omega)]
            have := c2 (j - off) (by omega)
            have e : (a.eval p.2).cells.toList.getD (j - (off + 0)) Go.undef = (a.eval p.2).cells.getD (j - off) Go.undef := by simp [List.getD_eq_getElem?_getD, Array.getD_eq_getD_getElem?]
            rw [e]
            exact this
          · rw [if_neg hin, if_neg (by simp; omega)]
            exact hc j hj) h
        refine ⟨vs', ?_, g2, by rw [g3, hlen], g4⟩
        simp only [List.map_cons, Instr.fill, hpl _ _ hp]
        rw [if_neg (by simp; omega), ← Array.foldl_toList, ← e1]
        exact g1
end

theorem mapM_places {P : Program} {w : World} : ∀ (fs : List Field), (∀ f ∈ fs, ∃ i, P.info? f.type = some i) →
    (fs.mapM fun f => do pure (f.offset, ← sizeOf f.type) : Sem (List (Nat × Nat))).run P w = .ok (fs.map fun f => (f.offset, P.cellsOf f.type)) w := by
  intro fs
  induction fs with
  | nil => intro _; simp
  | cons f fs ih =>
    intro h
    obtain ⟨i, hi⟩ := h f (by simp)
    have := ih (fun g hg => h g (by simp [hg]))
    simp only [List.mapM_cons, Sem.run_bind, run_sizeOf hi, Result.andThen_ok, Sem.run_pure, this, List.map_cons]
    simp [Program.cellsOf, hi]

section
variable {P : Program} {F : Fr} {H : Nat → Option Blk} {σ : Nat → Value} {o : Oper} {a : Act} {w : World} {c : Nat}
theorem ok_build {T : TypeId} {parts : Array (Nat × Operand)} {ti : TI} {fs : List (Nat × TypeId)} {cells : List AV} {ρ : Operand → AV} (ho : o.op = .build T parts) (ht : ttOf P T = some ti) (hk : ti.kind = .struct fs) (hall : allB (fun p : Nat × TypeId => (ttOf P p.2).isSome) fs = true)
    (rel : RelH F H σ w) (hρ : ∀ x, VR w (Mut F H σ) σ (Ver H) (ρ x) (a.eval x)) (hn : ∀ j, j < 64 → H (c + j) = none)
    (hf : lastElem (parts.toList.map fun p => (p.1, ρ p.2)) (zcells ti.zero c) 0 (fun i => (fieldAt? (ttOf P) T i).map fun p => (p.1, p.2.size)) = some cells) :
    Good P F H σ o a w c (.ret (.of ⟨.agg cells, [], nilrows (zslices ti.zero)⟩)) := by
  obtain ⟨i, d, z, h1, h2, h3, h4, h5, h6⟩ := tt_info ht
  have hz : ti.zero = z.cells.toList.map zcOf := by rw [h4]
  have hkd : kindOf d = .struct fs := by rw [h4] at hk; exact hk
  obtain ⟨fields, rfl, rfl⟩ := kind_struct hkd
  refine .ret64 fun _ _ _ hlen => ?_
  have hlen : zslices ti.zero ≤ 64 := by simp only [EffG.of, nils_len] at hlen; omega
  obtain ⟨σ1, n1, n2⟩ := rel.addNils (zslices ti.zero) c (fun j hj => hn j (by omega))
  have hzc : ∀ j, j < (zcells ti.zero c).length → VR w (Mut F (ups H (number c (nilrows (zslices ti.zero)))) σ1) σ1 (Ver (ups H (number c (nilrows (zslices ti.zero))))) ((zcells ti.zero c).getD j .undef) (z.cells.getD j Go.undef) ∧ (z.cells.getD j Go.undef).oneCell' = true := by
    intro j hj
    rw [zcells_len, hz, List.length_map, Array.length_toList] at hj
    have e : z.cells.getD j Go.undef = z.cells.toList.getD j Go.undef := by simp [List.getD_eq_getElem?_getD, Array.getD_eq_getD_getElem?]
    rw [e]
    refine ⟨?_, h5 _ ?_⟩
    · rw [show zcells ti.zero c = zcells (z.cells.toList.map zcOf) c by rw [hz]]
      refine zcells_rel z.cells.toList c (fun j hj => ?_) j (by simpa using hj)
      rw [← hz] at hj
      obtain ⟨e1, e2⟩ := n2 j hj
      exact .own _ 0 0 _ rfl (by rw [Ver, e1]; rfl) (Nat.le_refl _) (fun _ => e2.symm)
    · rw [List.getD_eq_getElem?_getD, List.getElem?_eq_getElem (by simpa using hj)]
      exact List.getElem_mem _
  have hplaces := mapM_places (P := P) (w := w) fields.toList (fun f hf' => by
    have := allB_iff.1 hall (f.offset, f.type) (List.mem_map.2 ⟨f, hf', rfl⟩)
    obtain ⟨ti', ht'⟩ := Option.isSome_iff_exists.1 this
    obtain ⟨i', _, _, k1, _⟩ := tt_info ht'
    exact ⟨i', k1⟩)
  obtain ⟨vs', g1, g2, g3, g4⟩ := fill_rel a ρ (fun x => (hρ x).grow n1.2) _ ((fields.map fun f => (f.offset, P.cellsOf f.type))[·]?) (fun i p hp => by
    obtain ⟨q, hq, rfl⟩ := Option.map_eq_some_iff.1 hp
    obtain ⟨off, fi⟩ := q
    obtain ⟨fields', f, k1, k2, k3, k4, k5⟩ := field_info hq
    rw [h2] at k1; injection k1 with k1; injection k1 with k1; subst k1
    obtain ⟨i', d', z', q1, _, _, q4, _⟩ := tt_info k4
    simp [k2, k3, Program.cellsOf, q1, q4]) parts.toList (zcells ti.zero c) z.cells cells (by rw [zcells_len, hz]; simp) hzc hf
  refine .step (H' := ups H (number c (nilrows (zslices ti.zero)))) (.agg vs') w σ1 rfl (run_v (s := Instr.build T (parts.map fun (i, x) => (i, a.eval x))) (by simp [execOp, ho]) ?_) n1 (.agg _ _ g2 fun j hj => (g4 j hj).1)
  have e2 : (parts.map fun (p : Nat × Operand) => (p.1, a.eval p.2)).toList = parts.toList.map fun p => (p.1, a.eval p.2) := by simp
  have hpl : (fields.mapM fun f => do pure (f.offset, ← sizeOf f.type) : Sem (Array (Nat × Nat))).run P w = .ok (fields.map fun f => (f.offset, P.cellsOf f.type)) w := by
    rw [Array.mapM_eq_mapM_toList, Sem.run_map, hplaces]
    simp only [Result.andThen_ok]
    congr 1
    apply Array.ext'
    simp
  unfold Instr.build
  simp only [Sem.run_bind, zeroValue, typeInfo, run_program, h1, Result.andThen_ok, Sem.run_pure, h3, run_underlying h2, hpl]
  have e3 : (parts.map fun x => match x with | (i, x) => (i, a.eval x)).toList = parts.toList.map fun p => (p.1, a.eval p.2) := by simp
  rw [e3, g1]
  rfl

theorem ok_slice {T : TypeId} {x : Operand} {lo hi : Option Operand} {ei : TypeId × TI} {y : AV} {ρ : Operand → AV} (ho : o.op = .slice T x lo hi none) (ht : elemOf? (ttOf P) T = some ei) (rel : RelH F H σ w) (hρ : ∀ x, VR w (Mut F H σ) σ (Ver H) (ρ x) (a.eval x)) (u : List (Nat × Blk)) (hu : ∀ p ∈ u, ∃ b, H p.1 = some b ∧ b.live ∧ p.2 = .dead (b.ver + 1))
    (hx : ∀ M' : Nat → Prop, (∀ g, M' g → Mut F H σ g) → (∀ p ∈ u, ∀ g, blkOf (σ p.1) = some g → ¬ M' g) → PR w M' y (a.eval x)) (hsz : ∀ sz n f, y = .slc sz n f → n = 0 ∨ sz = ei.2.size) :
    Good P F H σ o a w c (aslice y (lo.map ρ) (hi.map ρ) u) := by
  obtain ⟨e, ei⟩ := ei
  obtain ⟨hut, he, hsz0⟩ := elem_info ht
  obtain ⟨inf, d, z, h1, h2, h3, h4, _⟩ := tt_info he
  have hs : ei.size = inf.size := by rw [h4]
  obtain ⟨n1, k1, k2⟩ := rel.kill u hu
  have hp := hx _ k2 k1
  have key : ∀ sz n f l h m, y = .slc sz n f → l ≤ h → h ≤ n →
      (∀ cap, n ≤ cap → (Instr.sliceBounds true n cap (lo.map a.eval) (hi.map a.eval) none).run P w = .ok (l, h, cap) w) → m = h - l →
      EffOK P F H σ o a w c ⟨.slc sz m fun k => f (k + l), u, []⟩ := by
    intro sz n f l h m hy hlh hhn hbnd hm
    subst hy hm
    obtain ⟨ad, cap, hv, hnc, hcm⟩ := hp.slc_len
    have hrun : (execOp a.eval o).run P w = .ok (.value (.slice (if cap = l then ad else ad.map (·.add (l * ei.size))) (h - l) (cap - l))) w := by
      refine run_v (s := Instr.sliceAt T (a.eval x) (lo.map a.eval) (hi.map a.eval) none) (by simp [execOp, ho]) ?_
      rw [hv]
      simp [Instr.sliceAt, Instr.slice, run_underlying hut, hbnd cap hnc, run_sizeOf h1, hs]
    refine .step (H' := ups H u) _ w σ (by simp [number]) hrun n1 (.pure ?_)
    by_cases h0 : h - l = 0
    · rw [h0]
      refine .slc0 sz _ _ ?_
      by_cases hc : cap = l
      · rw [if_pos hc]
        cases ad with
        | none => exact .inl (by rw [hc, Nat.sub_self])
        | some q => exact .inr ⟨q, _, rfl, by omega⟩
      · rw [if_neg hc]
        cases ad with
        | none =>
          left
          simp only [Option.map_none]
          congr 1
          rw [hv] at hp
          generalize hq : (Value.slice none n cap) = q at hp
          cases hp with
          | slc0 _ _ _ hh =>
            rcases hh with rfl | ⟨_, _, rfl, _⟩
            · injection hq with _ _ hq; omega
            · cases hq
          | slc => cases hq
        | some q => exact .inr ⟨_, _, rfl, by omega⟩
    · have hn0 : 0 < n := by omega
      rw [hv] at hp
      dsimp only
      generalize hq : (Value.slice ad n cap) = q at hp
      cases hp with
      | slc0 => omega
      | slc _ _ _ g off cap2 us hn hc hm hl hg hp2 =>
        injection hq with q1 q2 q3
        subst q1 q3
        have hsze : sz = ei.size := (hsz sz n f rfl).resolve_left (by omega)
        rw [if_neg (by omega)]
        simp only [Option.map_some, Addr.add_mid]
        rw [← hsze]
        refine .slc sz (h - l) _ g (off + l * sz) (cap - l) (fun k j => us (k + l) j) (by omega) (by omega) (by omega) (fun k hk => hl _ (by omega)) (fun k j hk hj => ?_) (fun k j hk hj => hp2 _ _ (by omega) hj)
        have := hg (k + l) j (by omega) hj
        rw [Nat.add_mul] at this
        rwa [show off + l * sz + (k * sz + j) = off + (k * sz + l * sz + j) by omega]
  unfold aslice
  cases y with
  | slc sz n f =>
    cases lo with
    | none =>
      cases hi with
      | none =>
        refine .ret fun _ _ _ => ?_
        have := key sz n f 0 n n rfl (Nat.zero_le _) (Nat.le_refl _) (fun cap hc => by simp [Instr.sliceBounds]) (by omega)
        exact this
      | some hi =>
        simp only [Option.map_none, Option.map_some]
        cases hq : ρ hi with
        | int k h =>
          refine .ret fun _ hr _ => ?_
          have hr := of_decide_eq_true hr
          have hv := hρ hi
          rw [hq] at hv
          have := key sz n f 0 h.toNat h.toNat rfl (Nat.zero_le _) (by omega) (fun cap hc => by simp [Instr.sliceBounds, Instr.sliceBound, hv.int_inv, asIntOf, show (0 : Int) ≤ h ∧ h ≤ cap by omega]) (by omega)
          exact this
        | _ => exact .fail
    | some lo =>
      simp only [Option.map_some]
      cases hi with
      | none =>
        simp only [Option.map_none]
        cases hq : ρ lo with
        | int k l =>
          refine .ret fun _ hr _ => ?_
          have hr := of_decide_eq_true hr
          have hv := hρ lo
          rw [hq] at hv
          exact key sz n f l.toNat n _ rfl (by omega) (Nat.le_refl _) (fun cap hc => by simp [Instr.sliceBounds, Instr.sliceBound, hv.int_inv, asIntOf, show (0 : Int) ≤ l ∧ l ≤ n by omega]) rfl
        | _ => exact .fail
      | some hi =>
        simp only [Option.map_some]
        cases hq : ρ lo with
        | int k l =>
          cases hq2 : ρ hi with
          | int k2 h =>
            refine .ret fun _ hr _ => ?_
            have hr := of_decide_eq_true hr
            have hv := hρ lo
            rw [hq] at hv
            have hv2 := hρ hi
            rw [hq2] at hv2
            exact key sz n f l.toNat h.toNat _ rfl (by omega) (by omega) (fun cap hc => by
              simp [Instr.sliceBounds, Instr.sliceBound, hv.int_inv, hv2.int_inv, asIntOf, show (0 : Int) ≤ h ∧ h ≤ cap by omega, show (0 : Int) ≤ l by omega]
              intro hh; omega) rfl
          | _ => exact .fail
        | _ => cases hi <;> exact .fail
  | _ => exact .fail
end
end Go.Proofs.Ythkdmemkjojmoaa.Ab
