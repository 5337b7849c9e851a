/- The plain evaluator's operations are right: slices that are laid, append, len. -/
import Derived.Test.YthkdmemkjojmoaaZC9
namespace Go.Proofs.Ythkdmemkjojmoaa.Ab
open Go

theorem repl_len (zs : List AV) (n : Nat) : (repl zs n).length = n * zs.length := by
  induction n with
  | zero => simp [repl]
  | succ n ih => simp [repl, ih, Nat.add_mul]; omega
theorem repl_get (zs : List AV) (n j : Nat) (hj : j < n * zs.length) : (repl zs n).getD j .undef = zs.getD (j % zs.length) .undef := by
  induction n generalizing j with
  | zero => simp at hj
  | succ n ih =>
    rw [Nat.add_mul, Nat.one_mul] at hj
    rw [repl]
    by_cases h : j < zs.length
    · rw [List.getD_eq_getElem?_getD, List.getElem?_append_left h, Nat.mod_eq_of_lt h, List.getD_eq_getElem?_getD]
    · rw [List.getD_eq_getElem?_getD, List.getElem?_append_right (by omega), ← List.getD_eq_getElem?_getD, ih _ (by omega), Nat.mod_eq_sub_mod (a := j) (by omega)]

section
variable {P : Program} {F : Fr} {H : Nat → Option Blk} {σ : Nat → Value} {o : Oper} {a : Act} {w : World} {c : Nat}
theorem rowC_lt {sz : Nat} : ∀ {len : Nat} {cells : List AV} {k : Nat}, k < len → rowC sz len cells k = rowOf sz cells k := by
  intro len
  induction len with
  | zero => intro cells k h; omega
  | succ n ih =>
    intro cells k h
    cases n with
    | zero => obtain rfl : k = 0 := by omega
              rfl
    | succ n =>
      show selRow (Nat.beq k 0) (rowOf sz cells 0) (rowC sz (n + 1) (cells.drop sz) (k - 1)) = _
      rw [selRow_eq]
      cases k with
      | zero => rfl
      | succ k =>
        show rowC sz (n + 1) (cells.drop sz) k = _
        rw [ih (by omega)]
        unfold rowOf
        rw [List.drop_drop, Nat.add_mul, Nat.one_mul, Nat.add_comm]
theorem ok_buildSlice {T e : TypeId} {len : Nat} {parts : Array (Nat × Operand)} {ei : TI} {cells : List AV} {ρ : Operand → AV} (ho : o.op = .buildSlice T len parts) (ht : elemOf? (ttOf P) T = some (e, ei)) (hlen : Nat.ble (len * ei.size) 16777216 = true)
    (rel : RelH F H σ w) (hρ : ∀ x, VR w (Mut F H σ) σ (Ver H) (ρ x) (a.eval x)) (hn : ∀ j, j < 64 → H (c + j) = none)
    (hf : lastElem (parts.toList.map fun p => (p.1, ρ p.2)) (repl (zplain ei.zero) len) 0 (fun i => some (i * ei.size, ei.size)) = some cells) :
    ∀ lst : Bool, Good P F H σ o a w c (match lst && (anyOwn cells && Nat.blt 0 len) with
      | true => .ret (.of ⟨.own c 0, [], [.lrow 0 ei.size len e cells]⟩)
      | false => purifyL cells fun cells' u => .ret (.of ⟨.own c 0, u, [.row 0 ei.size len e (rowC ei.size len cells')]⟩)) := by
  intro lst
  obtain ⟨hut, he, hsz0⟩ := elem_info ht
  obtain ⟨i, d, z, h1, h2, h3, h4, h5, h6⟩ := tt_info he
  have hs : ei.size = i.size := by rw [h4]
  have hz : ei.zero = z.cells.toList.map zcOf := by rw [h4]
  have hzl : (zplain ei.zero).length = ei.size := by rw [zplain_len, hz, hs, List.length_map, Array.length_toList, h6]
  have hle : len * ei.size ≤ 16777216 := Nat.le_of_ble_eq_true hlen
  have hcs : z.cells.size = ei.size := by rw [h6, hs]
  have zc : ∀ j, j < len * ei.size → ((Array.range (len * ei.size)).map (z.cells[· % z.cells.size]!)).getD j Go.undef = z.cells.getD (j % ei.size) Go.undef := by
    intro j hj
    have hm : j % ei.size < z.cells.size := by rw [hcs]; exact Nat.mod_lt _ hsz0
    rw [Array.getD_eq_getD_getElem?]
    simp only [Array.getElem?_map, hcs]
    rw [Array.getElem?_eq_getElem (by simpa using hj)]
    simp only [Array.getElem_range, Option.map_some, Option.getD_some]
    rw [getElem!_pos z.cells _ hm, Array.getD_eq_getD_getElem?, Array.getElem?_eq_getElem hm]
    rfl
  obtain ⟨vs', g1, g2, g3, g4⟩ := fill_rel a ρ hρ (fun i => some (i * ei.size, ei.size)) (fun i => some (i * ei.size, ei.size)) (fun _ _ h => h) parts.toList (repl (zplain ei.zero) len)
    ((Array.range (len * ei.size)).map (z.cells[· % z.cells.size]!)) cells (by rw [repl_len, hzl]; simp) (fun j hj => by
      rw [repl_len, hzl] at hj
      rw [zc j hj, repl_get _ _ _ (by rw [hzl]; exact hj), hzl]
      have hm : j % ei.size < z.cells.size := by rw [hcs]; exact Nat.mod_lt _ hsz0
      have e : z.cells.getD (j % ei.size) Go.undef = z.cells.toList.getD (j % ei.size) Go.undef := by simp [List.getD_eq_getElem?_getD, Array.getD_eq_getD_getElem?]
      rw [e]
      refine ⟨.pure (by rw [hz]; exact zplain_rel z.cells.toList _ (by simpa using hm)), h5 _ ?_⟩
      rw [List.getD_eq_getElem?_getD, List.getElem?_eq_getElem (by simpa using hm)]
      exact List.getElem_mem _) hf
  rw [repl_len, hzl] at g3
  have eg : ∀ j, vs'.toList.getD j Go.undef = vs'.getD j Go.undef := fun j => by simp [List.getD_eq_getElem?_getD, Array.getD_eq_getD_getElem?]
  have hc0 : H c = none := by simpa using hn 0 (by omega)
  have hlm : len ≤ maxLen := by
    have : len ≤ len * ei.size := Nat.le_mul_of_pos_right _ hsz0
    unfold maxLen; omega
  have hrunB : (execOp a.eval o).run P w = .ok (.value (.slice (some ⟨w.heap.size, 0, none⟩) len len)) (w.alloc (.cells vs' e)) := by
    refine run_v (s := Instr.buildSlice T len (parts.map fun (i, x) => (i, a.eval x))) (by simp [execOp, ho]) ?_
    have e3 : (parts.map fun x => match x with | (i, x) => (i, a.eval x)).toList = parts.toList.map fun p => (p.1, a.eval p.2) := by simp
    unfold Instr.buildSlice
    simp only [Sem.run_bind, run_underlying hut, Result.andThen_ok, run_sizeOf h1, ← hs]
    rw [if_neg (by omega)]
    by_cases h0 : len * ei.size = 0
    · have hlen0 : len = 0 := by
        rcases Nat.mul_eq_zero.1 h0 with h | h
        · exact h
        · omega
      have e4 : (Array.range (len * ei.size)).map (z.cells[· % z.cells.size]!) = (Array.range (len * ei.size)).map ((#[] : Array Value)[· % (#[] : Array Value).size]!) := by
        rw [h0]; simp
      rw [e4] at g1
      rw [if_pos h0]
      simp only [Sem.run_bind, Sem.run_pure, Result.andThen_ok, e3, g1, alloc_push]
    · rw [if_neg h0]
      simp only [Sem.run_bind, Sem.run_pure, Result.andThen_ok, zeroValue, typeInfo, run_program, h1, h3, e3, g1, alloc_push]
  cases hany : lst && (anyOwn cells && Nat.blt 0 len) with
  | true =>
    simp only
    simp only [Bool.and_eq_true] at hany
    have hl0 : 0 < len := Nat.le_of_ble_eq_true hany.2.2
    refine .ret fun _ _ _ => ?_
    have n2 := rel.addLrow c hc0 ei.size len e cells vs' hsz0 hl0 hlm (by rw [g2, g3]) g3 (fun j hj => g4 j (by omega))
    exact .step (H' := upd H c (some (.lrow 0 ei.size len e cells))) (.slice (some ⟨w.heap.size, 0, none⟩) len len) _ _ rfl hrunB n2 (.own c 0 0 _ rfl (by simp [Ver, Blk.ver]) (Nat.le_refl _) (fun _ => (upd_same _ _ _).symm))
  | false =>
  refine Good.purifyL rel cells vs'.toList (by simpa using g2) (fun j hj => by rw [eg]; exact (g4 j hj).1) _ fun cells' u b0 b1 b2 => ?_
  refine .ret fun _ _ _ => ?_
  obtain ⟨n1, k1, k2⟩ := rel.kill u b1
  have hcu : ∀ p ∈ u, p.1 ≠ c := fun p hp e => by
    obtain ⟨b, hb, _⟩ := b1 p hp
    rw [e, hc0] at hb; cases hb
  have n2 := n1.1.addRow c (by rw [ups_off hcu]; exact hc0) ei.size len len e (rowC ei.size len cells') vs' hsz0 (Nat.le_refl _) hlm (by rw [g2, g3])
    (fun k hk => by
      have := row_ix hk (show ei.size - 1 < ei.size by omega)
      rw [rowC_lt hk]
      simp [rowOf]
      have h2 : (k + 1) * ei.size ≤ len * ei.size := Nat.mul_le_mul_right _ hk
      rw [Nat.add_mul, Nat.one_mul] at h2
      omega)
    (fun k j hk hj => by
      have hlt := row_ix hk hj
      have e1 : (rowC ei.size len cells' k).getD j .undef = cells'.getD (k * ei.size + j) .undef := by
        rw [rowC_lt hk]
        simp [rowOf, List.getD_eq_getElem?_getD, hj, List.getElem?_drop]
      rw [e1, ← eg]
      exact b2 _ k2 k1 (k * ei.size + j) (by omega))
  refine .step (H' := upd (ups H u) c (some (.row 0 ei.size len e (rowC ei.size len cells')))) (.slice (some ⟨w.heap.size, 0, none⟩) len len) _ _ ?_ hrunB (n1.trans n2) (.own c 0 0 _ rfl (by simp [Ver, Blk.ver]) (Nat.le_refl _) (fun _ => (upd_same _ _ _).symm))
  simp only [EffG.of]
  rw [ups_append]
  rfl

theorem ok_append {t e : TypeId} {ei : TI} {s x : AV} {sv xv : Value} (isnil : Bool) (hrun : ∀ v w', (Builtin.append_ #[t, t] o.type #[sv, xv]).run P w = .ok v w' → (execOp a.eval o).run P w = .ok (.value v) w') (ht : elemOf? (ttOf P) t = some (e, ei)) (rel : RelH F H σ w)
    (hs : VR w (Mut F H σ) σ (Ver H) s sv) (hx : VR w (Mut F H σ) σ (Ver H) x xv) (hnil : isnil = true → sv = .slice none 0 0) (hn : ∀ j, j < 64 → H (c + j) = none) :
    Good P F H σ o a w c (aappend2 e ei s isnil c x) := by
  obtain ⟨hut, he, hsz0⟩ := elem_info ht
  obtain ⟨i, d, z, h1, h2, h3, h4, h5, h6⟩ := tt_info he
  have hsz : ei.size = i.size := by rw [h4]
  have hby : ei.bytes = i.bytes := by rw [h4]
  have hc0 : H c = none := by simpa using hn 0 (by omega)
  have main : ∀ (m : Nat) (g : Nat → List AV) (ys : List Value), ys.length = m * i.size → (m = 0 ∧ (xv = .slice none 0 0 ∨ ∃ a cap, xv = .slice (some a) 0 cap) ∨ ∃ g off cap, xv = .slice (some ⟨g, off, none⟩) m cap ∧ ∀ j, j < m * i.size → w.cell? ⟨g, off + j, none⟩ = some (ys.getD j Go.undef)) →
      (∀ k, k < m → (g k).length = ei.size) → (∀ k j, k < m → j < ei.size → PR w (Mut F H σ) ((g k).getD j .undef) (ys.getD (k * ei.size + j) Go.undef) ∧ (ys.getD (k * ei.size + j) Go.undef).oneCell' = true) →
      Good P F H σ o a w c (aappend e ei s isnil c m g) := by
    intro m g ys hyl hxv hgl hgc
    have h1c : ∀ u ∈ ys, u.oneCell' = true := fun u hu => by
      obtain ⟨j, hj, e⟩ := List.mem_iff_getElem.1 hu
      have hj2 : j < m * ei.size := by rw [hsz, ← hyl]; exact hj
      have hq : j = j / ei.size * ei.size + j % ei.size := by rw [Nat.mul_comm]; exact (Nat.div_add_mod j ei.size).symm
      have := (hgc (j / ei.size) (j % ei.size) ((Nat.div_lt_iff_lt_mul hsz0).2 hj2) (Nat.mod_lt _ hsz0)).2
      rw [← hq, List.getD_eq_getElem?_getD, List.getElem?_eq_getElem hj] at this
      simpa [e] using this
    have fresh : sv = .slice none 0 0 → decide (m * ei.bytes ≤ 140737488355328 ∧ m ≤ 1099511627776) = true → ∀ (id : Nat) (ver' : Nat), (∃ b, H id = some b ∧ b.live ∧ b.ver < ver' ∧ σ id = .slice none 0 0) → ∀ rest : List (Nat × Blk), rest = [(id, .row ver' ei.size m e g)] →
        EffOK P F H σ o a w c ⟨.own id ver', rest, []⟩ := by
      intro hsv hr id ver' hid rest hrest
      obtain ⟨b, hb, hbl, hbv, hσ⟩ := hid
      have hr := of_decide_eq_true hr
      have hown : w.ownsRow 0 e i.size (σ id) 0 [] := by rw [hσ]; exact World.ownsRow_nil w 0 e i.size
      obtain ⟨v', w', r1, r2, r3, r4⟩ := append_run (P := P) t o.type e i z hut h1 h3 h6 (by omega) (σ id) 0 [] hown xv m ys hyl hxv h1c (by unfold maxLen; omega) (by rw [← hby]; simpa using hr.1)
      have n1 := rel.grown id b hb hbl ver' i.size 0 m hbv e g [] ys v' w' (by omega) hown r2 r3 r4 (fun k hk => by rw [← hsz]; exact hgl k (by omega)) (fun k j hk hj => by
        rw [← hsz] at hj ⊢
        simpa using hgc k j (by omega) hj)
      rw [Nat.zero_add] at n1
      refine .step (H' := upd H id (some (.row ver' i.size m e g))) v' w' _ ?_ (hrun v' w' (by rw [hsv, ← hσ]; exact r1)) n1 (.own id ver' ver' _ ?_ (by simp [Ver, Blk.ver]) (Nat.le_refl _) (fun _ => (upd_same _ _ _).symm))
      · subst hrest; simp [number, ups, hsz]
      · rcases r2.2 with ⟨h, _⟩ | ⟨_, _, _, h, _⟩ <;> rw [h] <;> rfl
    unfold aappend
    simp only [appRow_eq]
    cases isnil with
    | true =>
      refine .ret fun _ hr _ => ?_
      have hr := of_decide_eq_true hr
      have hsv := hnil rfl
      have hown : w.ownsRow 0 e i.size (.slice none 0 0) 0 [] := World.ownsRow_nil w 0 e i.size
      obtain ⟨v', w', r1, r2, r3, r4⟩ := append_run (P := P) t o.type e i z hut h1 h3 h6 (by omega) (.slice none 0 0) 0 [] hown xv m ys hyl hxv h1c (by unfold maxLen; omega) (by rw [← hby]; simpa using hr.1)
      rw [Nat.zero_add, List.nil_append] at r2
      have n1 := rel.chg c (.row 0 ei.size m e g) v' r3.os r3.tape r3.output r3.size (fun g hl _ => r3.block g hl (by simp [Value.ownBlock])) (fun g _ h => by
        rw [own_blk r2] at h
        exact ⟨(r2.lt g h).2, .inl ((r4 g h).resolve_left (by simp [Value.ownBlock]))⟩) (fun b h => by rw [hc0] at h; cases h) (fun G => ⟨ys, hsz0, by rw [upd_same, hsz]; exact r2, hgl, fun k j hk hj => ⟨(hgc k j hk hj).1.grow G.keep G.mutd, (hgc k j hk hj).2⟩⟩)
      refine .step (H' := upd H c (some (.row 0 ei.size m e g))) v' w' _ rfl (hrun v' w' (by rw [hsv]; exact r1)) n1 (.own c 0 0 _ ?_ (by simp [Ver, Blk.ver]) (Nat.le_refl _) (fun _ => (upd_same _ _ _).symm))
      rcases r2.2 with ⟨h, _⟩ | ⟨_, _, _, h, _⟩ <;> rw [h] <;> rfl
    | false =>
      dsimp only
      cases s with
      | own id ver =>
        refine .look fun b hb => ?_
        cases b with
        | row ver' sz n e' f =>
          cases hq : Nat.beq ver ver' && Nat.beq e e' && Nat.beq sz ei.size with
          | false => simp only [hq]; exact .fail
          | true =>
            simp only [hq]
            simp only [Bool.and_eq_true] at hq
            obtain ⟨⟨q1, q2⟩, q3⟩ := hq
            obtain rfl := Nat.eq_of_beq_eq_true q1
            obtain rfl := Nat.eq_of_beq_eq_true q2
            obtain rfl := Nat.eq_of_beq_eq_true q3
            refine .ret fun _ hr _ => ?_
            have hr := of_decide_eq_true hr
            have hv := hs.own_inv (ver_of hb)
            obtain ⟨g0, g2, xs, g1, g3, g4⟩ := (rel.bl id _ hb).row_cells
            rw [hsz] at g1
            have hxl : xs.length = n * ei.size := by rw [hsz]; exact g1.1
            obtain ⟨v', w', r1, r2, r3, r4⟩ := append_run (P := P) t o.type e i z hut h1 h3 h6 (by omega) (σ id) n xs g1 xv m ys hyl hxv h1c (by unfold maxLen; omega) (by rw [← hby]; exact hr.1)
            have n1 := rel.grown id _ hb trivial (ver + 1) i.size n m (by simp [Blk.ver]) e (fun k => if k < n then f k else g (k - n)) xs ys v' w' (by omega) g1 r2 r3 r4 (fun k hk => by
                split
                · rw [g2 k (by assumption), hsz]
                · rw [hgl _ (by omega), hsz]) (fun k j hk hj => by
                rw [← hsz] at hj ⊢
                by_cases hkn : k < n
                · have e2 : (xs ++ ys).getD (k * ei.size + j) Go.undef = xs.getD (k * ei.size + j) Go.undef := by
                    rw [List.getD_eq_getElem?_getD, List.getElem?_append_left (by rw [hxl]; exact row_ix hkn hj), ← List.getD_eq_getElem?_getD]
                  rw [if_pos hkn, e2]
                  exact g3 k j hkn hj
                · have e1 : k * ei.size + j - xs.length = (k - n) * ei.size + j := by
                    rw [hxl, Nat.sub_mul]
                    have : n * ei.size ≤ k * ei.size := Nat.mul_le_mul_right _ (by omega)
                    omega
                  have : n * ei.size ≤ k * ei.size := Nat.mul_le_mul_right _ (by omega)
                  have e2 : (xs ++ ys).getD (k * ei.size + j) Go.undef = ys.getD ((k - n) * ei.size + j) Go.undef := by
                    rw [List.getD_eq_getElem?_getD, List.getElem?_append_right (by omega), e1, ← List.getD_eq_getElem?_getD]
                  rw [if_neg hkn, e2]
                  exact hgc (k - n) j (by omega) hj)
            rw [← hsz] at n1
            refine .step (H' := upd H id (some (.row (ver + 1) ei.size (n + m) e fun k => if k < n then f k else g (k - n)))) v' w' _ rfl (hrun v' w' (by rw [hv]; exact r1)) n1 (.own id (ver + 1) (ver + 1) _ ?_ (by simp [Ver, Blk.ver]) (Nat.le_refl _) (fun _ => (upd_same _ _ _).symm))
            rcases r2.2 with ⟨h, _⟩ | ⟨_, _, _, h, _⟩ <;> rw [h] <;> rfl
        | nilrow ver' =>
          cases hq : Nat.beq ver ver' with
          | false => simp only [hq]; exact .fail
          | true =>
            obtain rfl := Nat.eq_of_beq_eq_true hq
            simp only [hq]
            refine .ret fun _ hr _ => ?_
            have hv := hs.own_inv (ver_of hb)
            have hnl : σ id = .slice none 0 0 := rel.bl id _ hb
            exact fresh (by rw [hv, hnl]) hr id (ver + 1) ⟨_, hb, trivial, by simp [Blk.ver], hnl⟩ _ rfl
        | _ => exact .fail
      | _ => exact .fail
  have mainL : ∀ (m : Nat) (cs : List AV) (ys : List Value), 0 < m → ys.length = m * i.size → (m = 0 ∧ (xv = .slice none 0 0 ∨ ∃ a cap, xv = .slice (some a) 0 cap) ∨ ∃ g off cap, xv = .slice (some ⟨g, off, none⟩) m cap ∧ ∀ j, j < m * i.size → w.cell? ⟨g, off + j, none⟩ = some (ys.getD j Go.undef)) →
      cs.length = m * ei.size → (∀ j, j < m * ei.size → VR w (Mut F H σ) σ (Ver H) (cs.getD j .undef) (ys.getD j Go.undef) ∧ (ys.getD j Go.undef).oneCell' = true) →
      Good P F H σ o a w c (aappendL e ei s isnil c m cs) := by
    intro m cs ys hm0 hyl hxv hgl hgc
    have h1c : ∀ u ∈ ys, u.oneCell' = true := fun u hu => by
      obtain ⟨j, hj, e⟩ := List.mem_iff_getElem.1 hu
      have := (hgc j (by rw [hsz, ← hyl]; exact hj)).2
      rw [List.getD_eq_getElem?_getD, List.getElem?_eq_getElem hj] at this
      simpa [e] using this
    have fresh : sv = .slice none 0 0 → decide (m * ei.bytes ≤ 140737488355328 ∧ m ≤ 1099511627776) = true → ∀ (id : Nat) (ver' : Nat), (∃ b, H id = some b ∧ b.live ∧ b.ver < ver' ∧ σ id = .slice none 0 0) → ∀ rest : List (Nat × Blk), rest = [(id, .lrow ver' ei.size m e cs)] →
        EffOK P F H σ o a w c ⟨.own id ver', rest, []⟩ := by
      intro hsv hr id ver' hid rest hrest
      obtain ⟨b, hb, hbl, hbv, hσ⟩ := hid
      have hr := of_decide_eq_true hr
      have hown : w.ownsRow 0 e i.size (σ id) 0 [] := by rw [hσ]; exact World.ownsRow_nil w 0 e i.size
      obtain ⟨v', w', r1, r2, r3, r4⟩ := append_run (P := P) t o.type e i z hut h1 h3 h6 (by omega) (σ id) 0 [] hown xv m ys hyl hxv h1c (by unfold maxLen; omega) (by rw [← hby]; simpa using hr.1)
      have n1 := rel.grownL id b hb hbl ver' i.size 0 m hbv e cs [] ys v' w' (by omega) (by omega) hown r2 r3 r4 (by rw [← hsz, Nat.zero_add]; exact hgl) (fun j hj => by
        rw [← hsz, Nat.zero_add] at hj
        simpa using hgc j hj)
      rw [Nat.zero_add] at n1
      refine .step (H' := upd H id (some (.lrow ver' i.size m e cs))) v' w' _ ?_ (hrun v' w' (by rw [hsv, ← hσ]; exact r1)) n1 (.own id ver' ver' _ ?_ (by simp [Ver, Blk.ver]) (Nat.le_refl _) (fun _ => (upd_same _ _ _).symm))
      · subst hrest; simp [number, ups, hsz]
      · rcases r2.2 with ⟨h, _⟩ | ⟨_, _, _, h, _⟩ <;> rw [h] <;> rfl
    unfold aappendL
    cases isnil with
    | true =>
      refine .ret fun _ hr _ => ?_
      have hr := of_decide_eq_true hr
      have hsv := hnil rfl
      have hown : w.ownsRow 0 e i.size (.slice none 0 0) 0 [] := World.ownsRow_nil w 0 e i.size
      obtain ⟨v', w', r1, r2, r3, r4⟩ := append_run (P := P) t o.type e i z hut h1 h3 h6 (by omega) (.slice none 0 0) 0 [] hown xv m ys hyl hxv h1c (by unfold maxLen; omega) (by rw [← hby]; simpa using hr.1)
      rw [Nat.zero_add, List.nil_append] at r2
      have n1 := rel.chg c (.lrow 0 ei.size m e cs) v' r3.os r3.tape r3.output r3.size (fun g hl _ => r3.block g hl (by simp [Value.ownBlock])) (fun g _ h => by
        rw [own_blk r2] at h
        exact ⟨(r2.lt g h).2, .inl ((r4 g h).resolve_left (by simp [Value.ownBlock]))⟩) (fun b h => by rw [hc0] at h; cases h) (fun G => ⟨ys, hsz0, hm0, by rw [upd_same, hsz]; exact r2, hgl, fun j hj => ⟨(hgc j hj).1.grow G, (hgc j hj).2⟩⟩)
      refine .step (H' := upd H c (some (.lrow 0 ei.size m e cs))) v' w' _ rfl (hrun v' w' (by rw [hsv]; exact r1)) n1 (.own c 0 0 _ ?_ (by simp [Ver, Blk.ver]) (Nat.le_refl _) (fun _ => (upd_same _ _ _).symm))
      rcases r2.2 with ⟨h, _⟩ | ⟨_, _, _, h, _⟩ <;> rw [h] <;> rfl
    | false =>
      dsimp only
      cases s with
      | own id ver =>
        refine .look fun b hb => ?_
        cases b with
        | lrow ver' sz n e' cs0 =>
          cases hq : Nat.beq ver ver' && Nat.beq e e' && Nat.beq sz ei.size with
          | false => simp only [hq]; exact .fail
          | true =>
            simp only [hq]
            simp only [Bool.and_eq_true] at hq
            obtain ⟨⟨q1, q2⟩, q3⟩ := hq
            obtain rfl := Nat.eq_of_beq_eq_true q1
            obtain rfl := Nat.eq_of_beq_eq_true q2
            obtain rfl := Nat.eq_of_beq_eq_true q3
            refine .ret fun _ hr _ => ?_
            have hr := of_decide_eq_true hr
            have hv := hs.own_inv (ver_of hb)
            obtain ⟨g0, g0', gl, g, cap, cur, xs, g1, k2, k3, k4, k5, k6, k7, k8⟩ := (rel.bl id _ hb).lrow_cells
            rw [hsz] at g1
            have hxl : xs.length = n * ei.size := by rw [hsz]; exact g1.1
            obtain ⟨v', w', r1, r2, r3, r4⟩ := append_run (P := P) t o.type e i z hut h1 h3 h6 (by omega) (σ id) n xs g1 xv m ys hyl hxv h1c (by unfold maxLen; omega) (by rw [← hby]; exact hr.1)
            have n1 := rel.grownL id _ hb trivial (ver + 1) i.size n m (by simp [Blk.ver]) e (cs0 ++ cs) xs ys v' w' (by omega) (by omega) g1 r2 r3 r4 (by rw [List.length_append, gl, hgl, ← Nat.add_mul, hsz]) (fun j hj => by
                rw [← hsz, Nat.add_mul] at hj
                by_cases hjn : j < n * ei.size
                · have q1 : (cs0 ++ cs).getD j .undef = cs0.getD j .undef := by
                    rw [List.getD_eq_getElem?_getD, List.getElem?_append_left (by omega), ← List.getD_eq_getElem?_getD]
                  have q2 : (xs ++ ys).getD j Go.undef = xs.getD j Go.undef := by
                    rw [List.getD_eq_getElem?_getD, List.getElem?_append_left (by omega), ← List.getD_eq_getElem?_getD]
                  rw [q1, q2]
                  exact (k8 j hjn).2
                · have q1 : (cs0 ++ cs).getD j .undef = cs.getD (j - n * ei.size) .undef := by
                    rw [List.getD_eq_getElem?_getD, List.getElem?_append_right (by omega), ← List.getD_eq_getElem?_getD, gl]
                  have q2 : (xs ++ ys).getD j Go.undef = ys.getD (j - n * ei.size) Go.undef := by
                    rw [List.getD_eq_getElem?_getD, List.getElem?_append_right (by omega), ← List.getD_eq_getElem?_getD, hxl]
                  rw [q1, q2]
                  exact hgc _ (by omega))
            rw [← hsz] at n1
            refine .step (H' := upd H id (some (.lrow (ver + 1) ei.size (n + m) e (cs0 ++ cs)))) v' w' _ rfl (hrun v' w' (by rw [hv]; exact r1)) n1 (.own id (ver + 1) (ver + 1) _ ?_ (by simp [Ver, Blk.ver]) (Nat.le_refl _) (fun _ => (upd_same _ _ _).symm))
            rcases r2.2 with ⟨h, _⟩ | ⟨_, _, _, h, _⟩ <;> rw [h] <;> rfl
        | nilrow ver' =>
          cases hq : Nat.beq ver ver' with
          | false => simp only [hq]; exact .fail
          | true =>
            obtain rfl := Nat.eq_of_beq_eq_true hq
            simp only [hq]
            refine .ret fun _ hr _ => ?_
            have hv := hs.own_inv (ver_of hb)
            have hnl : σ id = .slice none 0 0 := rel.bl id _ hb
            exact fresh (by rw [hv, hnl]) hr id (ver + 1) ⟨_, hb, trivial, by simp [Blk.ver], hnl⟩ _ rfl
        | _ => exact .fail
      | _ => exact .fail
  unfold aappend2
  cases x with
  | slc sz m g =>
    cases hq : Nat.beq sz ei.size || Nat.beq m 0 with
    | false => simp only [hq]; exact .fail
    | true =>
      simp only [hq]
      simp only [Bool.or_eq_true] at hq
      have hp := hx.slc_inv
      by_cases hm : m = 0
      · subst hm
        refine main 0 g [] (by simp) (.inl ⟨rfl, ?_⟩) (fun k hk => by omega) (fun k j hk => by omega)
        cases hp with
        | slc0 _ _ _ h => exact h.imp_right fun ⟨a, cap, h, _⟩ => ⟨a, cap, h⟩
        | slc => omega
      · have hse : sz = ei.size := by
          rcases hq with h | h
          · exact Nat.eq_of_beq_eq_true h
          · exact absurd (Nat.eq_of_beq_eq_true h) hm
        subst hse
        cases hp with
        | slc0 => omega
        | slc _ _ _ g0 off cap us hn' hc hm' hl hg hp2 =>
          have hget : ∀ k j, k < m → j < ei.size → ((List.range (m * ei.size)).map fun j => us (j / ei.size) (j % ei.size)).getD (k * ei.size + j) Go.undef = us k j := by
            intro k j hk hj
            have hlt := row_ix hk hj
            have e1 : (k * ei.size + j) / ei.size = k := by rw [Nat.mul_comm, Nat.mul_add_div hsz0, Nat.div_eq_of_lt hj, Nat.add_zero]
            have e2 : (k * ei.size + j) % ei.size = j := by rw [Nat.mul_comm, Nat.mul_add_mod, Nat.mod_eq_of_lt hj]
            rw [List.getD_eq_getElem?_getD, List.getElem?_map, List.getElem?_range hlt]
            simp only [Option.map_some, Option.getD_some, e1, e2]
          refine main m g ((List.range (m * ei.size)).map fun j => us (j / ei.size) (j % ei.size)) (by simp [hsz]) (.inr ⟨g0, off, cap, rfl, fun j hj => ?_⟩) hl (fun k j hk hj => ?_)
          · rw [← hsz] at hj
            have hk : j / ei.size < m := (Nat.div_lt_iff_lt_mul hsz0).2 hj
            have hq2 : j = j / ei.size * ei.size + j % ei.size := by rw [Nat.mul_comm]; exact (Nat.div_add_mod j ei.size).symm
            have := (hg (j / ei.size) (j % ei.size) hk (Nat.mod_lt _ hsz0)).2.1
            rw [← hq2] at this
            rw [this]
            rw [show ((List.range (m * ei.size)).map fun j => us (j / ei.size) (j % ei.size)).getD j Go.undef = us (j / ei.size) (j % ei.size) from by
              have := hget (j / ei.size) (j % ei.size) hk (Nat.mod_lt _ hsz0)
              rwa [← hq2] at this]
          · rw [hget k j hk hj]
            exact ⟨hp2 k j hk hj, (hg k j hk hj).2.2⟩
  | own id ver =>
    refine .look fun b hb => ?_
    cases b with
    | row ver' sz m e' g =>
      cases hq : Nat.beq ver ver' && Nat.beq sz ei.size with
      | false => simp only [hq]; exact .fail
      | true =>
        simp only [hq]
        simp only [Bool.and_eq_true] at hq
        obtain ⟨q1, q2⟩ := hq
        obtain rfl := Nat.eq_of_beq_eq_true q1
        obtain rfl := Nat.eq_of_beq_eq_true q2
        have hv := hx.own_inv (ver_of hb)
        obtain ⟨g0, g2, xs, g1, g3, g4⟩ := (rel.bl id _ hb).row_cells
        refine main m g xs (by rw [← hsz]; exact g1.1) ?_ g2 g3
        by_cases hm : m = 0
        · subst hm
          left
          refine ⟨rfl, ?_⟩
          rcases g1.2 with ⟨h, _⟩ | ⟨_, _, _, h, _⟩
          · exact .inl (by rw [hv, h])
          · exact .inr ⟨_, _, by rw [hv, h]⟩
        · right
          obtain ⟨g, cap, cur, e1, e2, e3, e4, e5, e6, e7⟩ := g4 (by omega)
          refine ⟨g, 0, cap, by rw [hv, e1], fun j hj => ?_⟩
          rw [← hsz] at hj
          have hk : j / ei.size < m := (Nat.div_lt_iff_lt_mul hsz0).2 hj
          have hq2 : j = j / ei.size * ei.size + j % ei.size := by rw [Nat.mul_comm]; exact (Nat.div_add_mod j ei.size).symm
          have := e7 (j / ei.size) (j % ei.size) hk (Nat.mod_lt _ hsz0)
          rw [← hq2] at this
          rw [Nat.zero_add]
          exact this
    | nilrow ver' =>
      cases hq : Nat.beq ver ver' with
      | false => simp only [hq]; exact .fail
      | true =>
        obtain rfl := Nat.eq_of_beq_eq_true hq
        simp only [hq]
        have hv := hx.own_inv (ver_of hb)
        have hnl : σ id = .slice none 0 0 := rel.bl id _ hb
        exact main 0 _ [] (by simp) (.inl ⟨rfl, .inl (by rw [hv, hnl])⟩) (fun k hk => by omega) (fun k j hk => by omega)
    | lrow ver' sz m e' cs =>
      cases hq : Nat.beq ver ver' && Nat.beq sz ei.size with
      | false => simp only [hq]; exact .fail
      | true =>
        simp only [hq]
        simp only [Bool.and_eq_true] at hq
        obtain ⟨q1, q2⟩ := hq
        obtain rfl := Nat.eq_of_beq_eq_true q1
        obtain rfl := Nat.eq_of_beq_eq_true q2
        have hv := hx.own_inv (ver_of hb)
        obtain ⟨g0, g0', gl, g, cap, cur, ys, k1, k2, k3, k4, k5, k6, k7, k8⟩ := (rel.bl id _ hb).lrow_cells
        have hyl : ys.length = m * i.size := by rw [← hsz]; exact k1.1
        refine mainL m cs ys g0' hyl (.inr ⟨g, 0, cap, by rw [hv, k2], fun j hj => ?_⟩) gl (fun j hj => (k8 j hj).2)
        rw [Nat.zero_add]
        exact (k8 j (by rw [hsz]; exact hj)).1
    | _ => exact .fail
  | _ => exact .fail
end
end Go.Proofs.Ythkdmemkjojmoaa.Ab
