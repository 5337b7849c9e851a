/- A part of the proof, what is needed of it. -/
import Derived.Laws.MakeOwn
import Derived.Test.YtimkpfnbkclclaaGreatPk01
namespace Go.Proofs.YtimkpfnbkclclaaGreat.Ab
open Go
theorem iQ (zs : List AV) (n : Nat) : (repl zs n).length = n * zs.length := by
  induction n with
  | zero => simp [repl]
  | succ n ih => simp [repl, ih, Nat.add_mul]; omega
theorem nH (zs : List AV) (n j : Nat) (hj : j < n * zs.length) : (repl zs n).getD j .undef = zs.getD (j % zs.length) .undef := by
  induction n generalizing j with
  | zero => simp at hj
  | succ n ih =>
    rw [Nat.add_mul, Nat.one_mul] at hj
    rw [repl]
    by_cases h : j < zs.length
    · rw [List.getD_eq_getElem?_getD, List.getElem?_append_left h, Nat.mod_eq_of_lt h, List.getD_eq_getElem?_getD]
    · rw [List.getD_eq_getElem?_getD, List.getElem?_append_right (by omega), ← List.getD_eq_getElem?_getD, ih _ (by omega), Nat.mod_eq_sub_mod (a := j) (by omega)]
section
variable {P : Program} {F : Fr} {H : Nat → Option Blk} {σ : Nat → Value} {o : Oper} {a : Act} {w : World} {c : Nat}
theorem iR {sz : Nat} : ∀ {len : Nat} {cells : List AV} {k : Nat}, k < len → rowC sz len cells k = rowOf sz cells k := by
  intro len
  induction len with
  | zero => intro cells k h; omega
  | succ n ih =>
    intro cells k h
    cases n with
    | zero => obtain rfl : k = 0 := by omega
              rfl
    | succ n =>
      show iy (Nat.beq k 0) (rowOf sz cells 0) (rowC sz (n + 1) (cells.drop sz) (k - 1)) = _
      rw [gK]
      cases k with
      | zero => rfl
      | succ k =>
        show rowC sz (n + 1) (cells.drop sz) k = _
        rw [ih (by omega)]
        unfold rowOf
        rw [List.drop_drop, Nat.add_mul, Nat.one_mul, Nat.add_comm]
theorem iO {T e : TypeId} {len : Nat} {parts : Array (Nat × Operand)} {ei : TI} {cells : List AV} {ρ : Operand → AV} (ho : o.op = .buildSlice T len parts) (ht : aO (ttOf P) T = some (e, ei)) (hlen : Nat.ble (len * ei.size) 16777216 = true)
    (rel : RelH F H σ w) (hρ : ∀ x, VR w (Mut F H σ) σ (Ver H) (ρ x) (a.eval x)) (hn : ∀ j, j < 64 → H (c + j) = none)
    (hf : bq (parts.toList.map fun p => (p.1, ρ p.2)) (repl (aC ei.zero) len) 0 (fun i => some (i * ei.size, ei.size)) = some cells) :
    ∀ lst : Bool, Good P F H σ o a w c (match lst && (jN cells && Nat.blt 0 len) with
      | true => .ret (.of ⟨.own c 0, [], [.lrow 0 ei.size len e cells]⟩)
      | false => cB cells fun cells' u => .ret (.of ⟨.own c 0, u, [.row 0 ei.size len e (rowC ei.size len cells')]⟩)) := by
  intro lst
  obtain ⟨hut, he, hsz0⟩ := bG ht
  obtain ⟨i, d, z, h1, h2, h3, h4, h5, h6⟩ := ay he
  have hs : ei.size = i.size := by rw [h4]
  have hz : ei.zero = z.cells.toList.map zcOf := by rw [h4]
  have hzl : (aC ei.zero).length = ei.size := by rw [eB, hz, hs, List.length_map, Array.length_toList, h6]
  have hle : len * ei.size ≤ 16777216 := Nat.le_of_ble_eq_true hlen
  have hcs : z.cells.size = ei.size := by rw [h6, hs]
  have zc : ∀ j, j < len * ei.size → ((Array.range (len * ei.size)).map (z.cells[· % z.cells.size]!)).getD j Go.undef = z.cells.getD (j % ei.size) Go.undef := by
    intro j hj
    have hm : j % ei.size < z.cells.size := by rw [hcs]; exact Nat.mod_lt _ hsz0
    rw [Array.getD_eq_getD_getElem?]
    simp only [Array.getElem?_map, hcs]
    rw [Array.getElem?_eq_getElem (by simpa using hj)]
    simp only [Array.getElem_range, Option.map_some, Option.getD_some]
    rw [getElem!_pos z.cells _ hm, Array.getD_eq_getD_getElem?, Array.getElem?_eq_getElem hm]
    rfl
  obtain ⟨vs', g1, g2, g3, g4⟩ := jQ a ρ hρ (fun i => some (i * ei.size, ei.size)) (fun i => some (i * ei.size, ei.size)) (fun _ _ h => h) parts.toList (repl (aC ei.zero) len)
    ((Array.range (len * ei.size)).map (z.cells[· % z.cells.size]!)) cells (by rw [iQ, hzl]; simp) (fun j hj => by
      rw [iQ, hzl] at hj
      rw [zc j hj, nH _ _ _ (by rw [hzl]; exact hj), hzl]
      have hm : j % ei.size < z.cells.size := by rw [hcs]; exact Nat.mod_lt _ hsz0
      have e : z.cells.getD (j % ei.size) Go.undef = z.cells.toList.getD (j % ei.size) Go.undef := by simp [List.getD_eq_getElem?_getD, Array.getD_eq_getD_getElem?]
      rw [e]
      refine ⟨.pure (by rw [hz]; exact eF z.cells.toList _ (by simpa using hm)), h5 _ ?_⟩
      rw [List.getD_eq_getElem?_getD, List.getElem?_eq_getElem (by simpa using hm)]
      exact List.getElem_mem _) hf
  rw [iQ, hzl] at g3
  have eg : ∀ j, vs'.toList.getD j Go.undef = vs'.getD j Go.undef := fun j => by simp [List.getD_eq_getElem?_getD, Array.getD_eq_getD_getElem?]
  have hc0 : H c = none := by simpa using hn 0 (by omega)
  have hlm : len ≤ maxLen := by
    have : len ≤ len * ei.size := Nat.le_mul_of_pos_right _ hsz0
    unfold maxLen; omega
  have hrunB : (execOp a.eval o).run P w = .ok (.value (.slice (some ⟨w.heap.size, 0, none⟩) len len)) (w.alloc (.cells vs' e)) := by
    refine bV (s := Instr.buildSlice T len (parts.map fun (i, x) => (i, a.eval x))) (by simp [execOp, ho]) ?_
    have e3 : (parts.map fun x => match x with | (i, x) => (i, a.eval x)).toList = parts.toList.map fun p => (p.1, a.eval p.2) := by simp
    unfold Instr.buildSlice
    simp only [Sem.run_bind, run_underlying hut, Result.andThen_ok, run_sizeOf h1, ← hs]
    rw [if_neg (by omega)]
    by_cases h0 : len * ei.size = 0
    · have hlen0 : len = 0 := by
        rcases Nat.mul_eq_zero.1 h0 with h | h
        · exact h
        · omega
      have e4 : (Array.range (len * ei.size)).map (z.cells[· % z.cells.size]!) = (Array.range (len * ei.size)).map ((#[] : Array Value)[· % (#[] : Array Value).size]!) := by
        rw [h0]; simp
      rw [e4] at g1
      rw [if_pos h0]
      simp only [Sem.run_bind, Sem.run_pure, Result.andThen_ok, e3, g1, cO]
    · rw [if_neg h0]
      simp only [Sem.run_bind, Sem.run_pure, Result.andThen_ok, zeroValue, typeInfo, run_program, h1, h3, e3, g1, cO]
  cases hany : lst && (jN cells && Nat.blt 0 len) with
  | true =>
    simp only
    simp only [Bool.and_eq_true] at hany
    have hl0 : 0 < len := Nat.le_of_ble_eq_true hany.2.2
    refine .ret fun _ _ _ => ?_
    have n2 := rel.addLrow c hc0 ei.size len e cells vs' hsz0 hl0 hlm (by rw [g2, g3]) g3 (fun j hj => g4 j (by omega))
    exact .step (H' := upd H c (some (.lrow 0 ei.size len e cells))) (.slice (some ⟨w.heap.size, 0, none⟩) len len) _ _ rfl hrunB n2 (.own c 0 0 _ rfl (by simp [Ver, Blk.ver]) (Nat.le_refl _) (fun _ => (upd_same _ _ _).symm))
  | false =>
  refine Good.cB rel cells vs'.toList (by simpa using g2) (fun j hj => by rw [eg]; exact (g4 j hj).1) _ fun cells' u b0 b1 b2 => ?_
  refine .ret fun _ _ _ => ?_
  obtain ⟨n1, k1, k2⟩ := rel.kill u b1
  have hcu : ∀ p ∈ u, p.1 ≠ c := fun p hp e => by
    obtain ⟨b, hb, _⟩ := b1 p hp
    rw [e, hc0] at hb; cases hb
  have n2 := n1.1.addRow c (by rw [aL hcu]; exact hc0) ei.size len len e (rowC ei.size len cells') vs' hsz0 (Nat.le_refl _) hlm (by rw [g2, g3])
    (fun k hk => by
      have := dD hk (show ei.size - 1 < ei.size by omega)
      rw [iR hk]
      simp [rowOf]
      have h2 : (k + 1) * ei.size ≤ len * ei.size := Nat.mul_le_mul_right _ hk
      rw [Nat.add_mul, Nat.one_mul] at h2
      omega)
    (fun k j hk hj => by
      have hlt := dD hk hj
      have e1 : (rowC ei.size len cells' k).getD j .undef = cells'.getD (k * ei.size + j) .undef := by
        rw [iR hk]
        simp [rowOf, List.getD_eq_getElem?_getD, hj, List.getElem?_drop]
      rw [e1, ← eg]
      exact b2 _ k2 k1 (k * ei.size + j) (by omega))
  refine .step (H' := upd (ups H u) c (some (.row 0 ei.size len e (rowC ei.size len cells')))) (.slice (some ⟨w.heap.size, 0, none⟩) len len) _ _ ?_ hrunB (n1.trans n2) (.own c 0 0 _ rfl (by simp [Ver, Blk.ver]) (Nat.le_refl _) (fun _ => (upd_same _ _ _).symm))
  simp only [EffG.of]
  rw [aK]
  rfl
theorem lZ {t e : TypeId} {ei : TI} {s x : AV} {sv xv : Value} (isnil : Bool) (hrun : ∀ v w', (Builtin.append_ #[t, t] o.type #[sv, xv]).run P w = .ok v w' → (execOp a.eval o).run P w = .ok (.value v) w') (ht : aO (ttOf P) t = some (e, ei)) (rel : RelH F H σ w)
    (hs : VR w (Mut F H σ) σ (Ver H) s sv) (hx : VR w (Mut F H σ) σ (Ver H) x xv) (hnil : isnil = true → sv = .slice none 0 0) (hn : ∀ j, j < 64 → H (c + j) = none) :
    Good P F H σ o a w c (iE e ei s isnil c x) := by
  obtain ⟨hut, he, hsz0⟩ := bG ht
  obtain ⟨i, d, z, h1, h2, h3, h4, h5, h6⟩ := ay he
  have hsz : ei.size = i.size := by rw [h4]
  have hby : ei.bytes = i.bytes := by rw [h4]
  have hc0 : H c = none := by simpa using hn 0 (by omega)
  have main : ∀ (m : Nat) (g : Nat → List AV) (ys : List Value), ys.length = m * i.size → (m = 0 ∧ (xv = .slice none 0 0 ∨ ∃ a cap, xv = .slice (some a) 0 cap) ∨ ∃ g off cap, xv = .slice (some ⟨g, off, none⟩) m cap ∧ ∀ j, j < m * i.size → w.cell? ⟨g, off + j, none⟩ = some (ys.getD j Go.undef)) →
      (∀ k, k < m → (g k).length = ei.size) → (∀ k j, k < m → j < ei.size → PR w (Mut F H σ) ((g k).getD j .undef) (ys.getD (k * ei.size + j) Go.undef) ∧ (ys.getD (k * ei.size + j) Go.undef).oneCell' = true) →
      Good P F H σ o a w c (fF e ei s isnil c m g) := by
    intro m g ys hyl hxv hgl hgc
    have h1c : ∀ u ∈ ys, u.oneCell' = true := fun u hu => by
      obtain ⟨j, hj, e⟩ := List.mem_iff_getElem.1 hu
      have hj2 : j < m * ei.size := by rw [hsz, ← hyl]; exact hj
      have hq : j = j / ei.size * ei.size + j % ei.size := by rw [Nat.mul_comm]; exact (Nat.div_add_mod j ei.size).symm
      have := (hgc (j / ei.size) (j % ei.size) ((Nat.div_lt_iff_lt_mul hsz0).2 hj2) (Nat.mod_lt _ hsz0)).2
      rw [← hq, List.getD_eq_getElem?_getD, List.getElem?_eq_getElem hj] at this
      simpa [e] using this
    have fresh : sv = .slice none 0 0 → decide (m * ei.bytes ≤ 140737488355328 ∧ m ≤ 1099511627776) = true → ∀ (id : Nat) (ver' : Nat), (∃ b, H id = some b ∧ b.live ∧ b.ver < ver' ∧ σ id = .slice none 0 0) → ∀ rest : List (Nat × Blk), rest = [(id, .row ver' ei.size m e g)] →
        dX P F H σ o a w c ⟨.own id ver', rest, []⟩ := by
      intro hsv hr id ver' hid rest hrest
      obtain ⟨b, hb, hbl, hbv, hσ⟩ := hid
      have hr := of_decide_eq_true hr
      have hown : w.ownsRow 0 e i.size (σ id) 0 [] := by rw [hσ]; exact World.ownsRow_nil w 0 e i.size
      obtain ⟨v', w', r1, r2, r3, r4⟩ := aU (P := P) t o.type e i z hut h1 h3 h6 (by omega) (σ id) 0 [] hown xv m ys hyl hxv h1c (by unfold maxLen; omega) (by rw [← hby]; simpa using hr.1)
      have n1 := rel.grown id b hb hbl ver' i.size 0 m hbv e g [] ys v' w' (by omega) hown r2 r3 r4 (fun k hk => by rw [← hsz]; exact hgl k (by omega)) (fun k j hk hj => by
        rw [← hsz] at hj ⊢
        simpa using hgc k j (by omega) hj)
      rw [Nat.zero_add] at n1
      refine .step (H' := upd H id (some (.row ver' i.size m e g))) v' w' _ ?_ (hrun v' w' (by rw [hsv, ← hσ]; exact r1)) n1 (.own id ver' ver' _ ?_ (by simp [Ver, Blk.ver]) (Nat.le_refl _) (fun _ => (upd_same _ _ _).symm))
      · subst hrest; simp [number, ups, hsz]
      · rcases r2.2 with ⟨h, _⟩ | ⟨_, _, _, h, _⟩ <;> rw [h] <;> rfl
    unfold fF
    simp only [kX]
    cases isnil with
    | true =>
      refine .ret fun _ hr _ => ?_
      have hr := of_decide_eq_true hr
      have hsv := hnil rfl
      have hown : w.ownsRow 0 e i.size (.slice none 0 0) 0 [] := World.ownsRow_nil w 0 e i.size
      obtain ⟨v', w', r1, r2, r3, r4⟩ := aU (P := P) t o.type e i z hut h1 h3 h6 (by omega) (.slice none 0 0) 0 [] hown xv m ys hyl hxv h1c (by unfold maxLen; omega) (by rw [← hby]; simpa using hr.1)
      rw [Nat.zero_add, List.nil_append] at r2
      have n1 := rel.chg c (.row 0 ei.size m e g) v' r3.os r3.tape r3.output r3.size (fun g hl _ => r3.block g hl (by simp [Value.ownBlock])) (fun g _ h => by
        rw [cu r2] at h
        exact ⟨(r2.lt g h).2, .inl ((r4 g h).resolve_left (by simp [Value.ownBlock]))⟩) (fun b h => by rw [hc0] at h; cases h) (fun G => ⟨ys, hsz0, by rw [upd_same, hsz]; exact r2, hgl, fun k j hk hj => ⟨(hgc k j hk hj).1.grow G.keep G.mutd, (hgc k j hk hj).2⟩⟩)
      refine .step (H' := upd H c (some (.row 0 ei.size m e g))) v' w' _ rfl (hrun v' w' (by rw [hsv]; exact r1)) n1 (.own c 0 0 _ ?_ (by simp [Ver, Blk.ver]) (Nat.le_refl _) (fun _ => (upd_same _ _ _).symm))
      rcases r2.2 with ⟨h, _⟩ | ⟨_, _, _, h, _⟩ <;> rw [h] <;> rfl
    | false =>
      dsimp only
      cases s with
      | own id ver =>
        refine .look fun b hb => ?_
        cases b with
        | row ver' sz n e' f =>
          cases hq : Nat.beq ver ver' && Nat.beq e e' && Nat.beq sz ei.size with
          | false => simp only [hq]; exact .fail
          | true =>
            simp only [hq]
            simp only [Bool.and_eq_true] at hq
            obtain ⟨⟨q1, q2⟩, q3⟩ := hq
            obtain rfl := Nat.eq_of_beq_eq_true q1
            obtain rfl := Nat.eq_of_beq_eq_true q2
            obtain rfl := Nat.eq_of_beq_eq_true q3
            refine .ret fun _ hr _ => ?_
            have hr := of_decide_eq_true hr
            have hv := hs.own_inv (ak hb)
            obtain ⟨g0, g2, xs, g1, g3, g4⟩ := (rel.bl id _ hb).row_cells
            rw [hsz] at g1
            have hxl : xs.length = n * ei.size := by rw [hsz]; exact g1.1
            obtain ⟨v', w', r1, r2, r3, r4⟩ := aU (P := P) t o.type e i z hut h1 h3 h6 (by omega) (σ id) n xs g1 xv m ys hyl hxv h1c (by unfold maxLen; omega) (by rw [← hby]; exact hr.1)
            have n1 := rel.grown id _ hb trivial (ver + 1) i.size n m (by simp [Blk.ver]) e (fun k => if k < n then f k else g (k - n)) xs ys v' w' (by omega) g1 r2 r3 r4 (fun k hk => by
                split
                · rw [g2 k (by assumption), hsz]
                · rw [hgl _ (by omega), hsz]) (fun k j hk hj => by
                rw [← hsz] at hj ⊢
                by_cases hkn : k < n
                · have e2 : (xs ++ ys).getD (k * ei.size + j) Go.undef = xs.getD (k * ei.size + j) Go.undef := by
                    rw [List.getD_eq_getElem?_getD, List.getElem?_append_left (by rw [hxl]; exact dD hkn hj), ← List.getD_eq_getElem?_getD]
                  rw [if_pos hkn, e2]
                  exact g3 k j hkn hj
                · have e1 : k * ei.size + j - xs.length = (k - n) * ei.size + j := by
                    rw [hxl, Nat.sub_mul]
                    have : n * ei.size ≤ k * ei.size := Nat.mul_le_mul_right _ (by omega)
                    omega
                  have : n * ei.size ≤ k * ei.size := Nat.mul_le_mul_right _ (by omega)
                  have e2 : (xs ++ ys).getD (k * ei.size + j) Go.undef = ys.getD ((k - n) * ei.size + j) Go.undef := by
                    rw [List.getD_eq_getElem?_getD, List.getElem?_append_right (by omega), e1, ← List.getD_eq_getElem?_getD]
                  rw [if_neg hkn, e2]
                  exact hgc (k - n) j (by omega) hj)
            rw [← hsz] at n1
            refine .step (H' := upd H id (some (.row (ver + 1) ei.size (n + m) e fun k => if k < n then f k else g (k - n)))) v' w' _ rfl (hrun v' w' (by rw [hv]; exact r1)) n1 (.own id (ver + 1) (ver + 1) _ ?_ (by simp [Ver, Blk.ver]) (Nat.le_refl _) (fun _ => (upd_same _ _ _).symm))
            rcases r2.2 with ⟨h, _⟩ | ⟨_, _, _, h, _⟩ <;> rw [h] <;> rfl
        | nilrow ver' =>
          cases hq : Nat.beq ver ver' with
          | false => simp only [hq]; exact .fail
          | true =>
            obtain rfl := Nat.eq_of_beq_eq_true hq
            simp only [hq]
            refine .ret fun _ hr _ => ?_
            have hv := hs.own_inv (ak hb)
            have hnl : σ id = .slice none 0 0 := rel.bl id _ hb
            exact fresh (by rw [hv, hnl]) hr id (ver + 1) ⟨_, hb, trivial, by simp [Blk.ver], hnl⟩ _ rfl
        | _ => exact .fail
      | _ => exact .fail
  have mainL : ∀ (m : Nat) (cs : List AV) (ys : List Value), 0 < m → ys.length = m * i.size → (m = 0 ∧ (xv = .slice none 0 0 ∨ ∃ a cap, xv = .slice (some a) 0 cap) ∨ ∃ g off cap, xv = .slice (some ⟨g, off, none⟩) m cap ∧ ∀ j, j < m * i.size → w.cell? ⟨g, off + j, none⟩ = some (ys.getD j Go.undef)) →
      cs.length = m * ei.size → (∀ j, j < m * ei.size → VR w (Mut F H σ) σ (Ver H) (cs.getD j .undef) (ys.getD j Go.undef) ∧ (ys.getD j Go.undef).oneCell' = true) →
      Good P F H σ o a w c (iF e ei s isnil c m cs) := by
    intro m cs ys hm0 hyl hxv hgl hgc
    have h1c : ∀ u ∈ ys, u.oneCell' = true := fun u hu => by
      obtain ⟨j, hj, e⟩ := List.mem_iff_getElem.1 hu
      have := (hgc j (by rw [hsz, ← hyl]; exact hj)).2
      rw [List.getD_eq_getElem?_getD, List.getElem?_eq_getElem hj] at this
      simpa [e] using this
    have fresh : sv = .slice none 0 0 → decide (m * ei.bytes ≤ 140737488355328 ∧ m ≤ 1099511627776) = true → ∀ (id : Nat) (ver' : Nat), (∃ b, H id = some b ∧ b.live ∧ b.ver < ver' ∧ σ id = .slice none 0 0) → ∀ rest : List (Nat × Blk), rest = [(id, .lrow ver' ei.size m e cs)] →
        dX P F H σ o a w c ⟨.own id ver', rest, []⟩ := by
      intro hsv hr id ver' hid rest hrest
      obtain ⟨b, hb, hbl, hbv, hσ⟩ := hid
      have hr := of_decide_eq_true hr
      have hown : w.ownsRow 0 e i.size (σ id) 0 [] := by rw [hσ]; exact World.ownsRow_nil w 0 e i.size
      obtain ⟨v', w', r1, r2, r3, r4⟩ := aU (P := P) t o.type e i z hut h1 h3 h6 (by omega) (σ id) 0 [] hown xv m ys hyl hxv h1c (by unfold maxLen; omega) (by rw [← hby]; simpa using hr.1)
      have n1 := rel.grownL id b hb hbl ver' i.size 0 m hbv e cs [] ys v' w' (by omega) (by omega) hown r2 r3 r4 (by rw [← hsz, Nat.zero_add]; exact hgl) (fun j hj => by
        rw [← hsz, Nat.zero_add] at hj
        simpa using hgc j hj)
      rw [Nat.zero_add] at n1
      refine .step (H' := upd H id (some (.lrow ver' i.size m e cs))) v' w' _ ?_ (hrun v' w' (by rw [hsv, ← hσ]; exact r1)) n1 (.own id ver' ver' _ ?_ (by simp [Ver, Blk.ver]) (Nat.le_refl _) (fun _ => (upd_same _ _ _).symm))
      · subst hrest; simp [number, ups, hsz]
      · rcases r2.2 with ⟨h, _⟩ | ⟨_, _, _, h, _⟩ <;> rw [h] <;> rfl
    unfold iF
    cases isnil with
    | true =>
      refine .ret fun _ hr _ => ?_
      have hr := of_decide_eq_true hr
      have hsv := hnil rfl
      have hown : w.ownsRow 0 e i.size (.slice none 0 0) 0 [] := World.ownsRow_nil w 0 e i.size
      obtain ⟨v', w', r1, r2, r3, r4⟩ := aU (P := P) t o.type e i z hut h1 h3 h6 (by omega) (.slice none 0 0) 0 [] hown xv m ys hyl hxv h1c (by unfold maxLen; omega) (by rw [← hby]; simpa using hr.1)
      rw [Nat.zero_add, List.nil_append] at r2
      have n1 := rel.chg c (.lrow 0 ei.size m e cs) v' r3.os r3.tape r3.output r3.size (fun g hl _ => r3.block g hl (by simp [Value.ownBlock])) (fun g _ h => by
        rw [cu r2] at h
        exact ⟨(r2.lt g h).2, .inl ((r4 g h).resolve_left (by simp [Value.ownBlock]))⟩) (fun b h => by rw [hc0] at h; cases h) (fun G => ⟨ys, hsz0, hm0, by rw [upd_same, hsz]; exact r2, hgl, fun j hj => ⟨(hgc j hj).1.grow G, (hgc j hj).2⟩⟩)
      refine .step (H' := upd H c (some (.lrow 0 ei.size m e cs))) v' w' _ rfl (hrun v' w' (by rw [hsv]; exact r1)) n1 (.own c 0 0 _ ?_ (by simp [Ver, Blk.ver]) (Nat.le_refl _) (fun _ => (upd_same _ _ _).symm))
      rcases r2.2 with ⟨h, _⟩ | ⟨_, _, _, h, _⟩ <;> rw [h] <;> rfl
    | false =>
      dsimp only
      cases s with
      | own id ver =>
        refine .look fun b hb => ?_
        cases b with
        | lrow ver' sz n e' cs0 =>
          cases hq : Nat.beq ver ver' && Nat.beq e e' && Nat.beq sz ei.size with
          | false => simp only [hq]; exact .fail
          | true =>
            simp only [hq]
            simp only [Bool.and_eq_true] at hq
            obtain ⟨⟨q1, q2⟩, q3⟩ := hq
            obtain rfl := Nat.eq_of_beq_eq_true q1
            obtain rfl := Nat.eq_of_beq_eq_true q2
            obtain rfl := Nat.eq_of_beq_eq_true q3
            refine .ret fun _ hr _ => ?_
            have hr := of_decide_eq_true hr
            have hv := hs.own_inv (ak hb)
            obtain ⟨g0, g0', gl, g, cap, cur, xs, g1, k2, k3, k4, k5, k6, k7, k8⟩ := (rel.bl id _ hb).lrow_cells
            rw [hsz] at g1
            have hxl : xs.length = n * ei.size := by rw [hsz]; exact g1.1
            obtain ⟨v', w', r1, r2, r3, r4⟩ := aU (P := P) t o.type e i z hut h1 h3 h6 (by omega) (σ id) n xs g1 xv m ys hyl hxv h1c (by unfold maxLen; omega) (by rw [← hby]; exact hr.1)
            have n1 := rel.grownL id _ hb trivial (ver + 1) i.size n m (by simp [Blk.ver]) e (cs0 ++ cs) xs ys v' w' (by omega) (by omega) g1 r2 r3 r4 (by rw [List.length_append, gl, hgl, ← Nat.add_mul, hsz]) (fun j hj => by
                rw [← hsz, Nat.add_mul] at hj
                by_cases hjn : j < n * ei.size
                · have q1 : (cs0 ++ cs).getD j .undef = cs0.getD j .undef := by
                    rw [List.getD_eq_getElem?_getD, List.getElem?_append_left (by omega), ← List.getD_eq_getElem?_getD]
                  have q2 : (xs ++ ys).getD j Go.undef = xs.getD j Go.undef := by
                    rw [List.getD_eq_getElem?_getD, List.getElem?_append_left (by omega), ← List.getD_eq_getElem?_getD]
                  rw [q1, q2]
                  exact (k8 j hjn).2
                · have q1 : (cs0 ++ cs).getD j .undef = cs.getD (j - n * ei.size) .undef := by
                    rw [List.getD_eq_getElem?_getD, List.getElem?_append_right (by omega), ← List.getD_eq_getElem?_getD, gl]
                  have q2 : (xs ++ ys).getD j Go.undef = ys.getD (j - n * ei.size) Go.undef := by
                    rw [List.getD_eq_getElem?_getD, List.getElem?_append_right (by omega), ← List.getD_eq_getElem?_getD, hxl]
                  rw [q1, q2]
                  exact hgc _ (by omega))
            rw [← hsz] at n1
            refine .step (H' := upd H id (some (.lrow (ver + 1) ei.size (n + m) e (cs0 ++ cs)))) v' w' _ rfl (hrun v' w' (by rw [hv]; exact r1)) n1 (.own id (ver + 1) (ver + 1) _ ?_ (by simp [Ver, Blk.ver]) (Nat.le_refl _) (fun _ => (upd_same _ _ _).symm))
            rcases r2.2 with ⟨h, _⟩ | ⟨_, _, _, h, _⟩ <;> rw [h] <;> rfl
        | nilrow ver' =>
          cases hq : Nat.beq ver ver' with
          | false => simp only [hq]; exact .fail
          | true =>
            obtain rfl := Nat.eq_of_beq_eq_true hq
            simp only [hq]
            refine .ret fun _ hr _ => ?_
            have hv := hs.own_inv (ak hb)
            have hnl : σ id = .slice none 0 0 := rel.bl id _ hb
            exact fresh (by rw [hv, hnl]) hr id (ver + 1) ⟨_, hb, trivial, by simp [Blk.ver], hnl⟩ _ rfl
        | _ => exact .fail
      | _ => exact .fail
  unfold iE
  cases x with
  | slc sz m g =>
    cases hq : Nat.beq sz ei.size || Nat.beq m 0 with
    | false => simp only [hq]; exact .fail
    | true =>
      simp only [hq]
      simp only [Bool.or_eq_true] at hq
      have hp := hx.slc_inv
      by_cases hm : m = 0
      · subst hm
        refine main 0 g [] (by simp) (.inl ⟨rfl, ?_⟩) (fun k hk => by omega) (fun k j hk => by omega)
        cases hp with
        | slc0 _ _ _ h => exact h.imp_right fun ⟨a, cap, h, _⟩ => ⟨a, cap, h⟩
        | slc => omega
      · have hse : sz = ei.size := by
          rcases hq with h | h
          · exact Nat.eq_of_beq_eq_true h
          · exact absurd (Nat.eq_of_beq_eq_true h) hm
        subst hse
        cases hp with
        | slc0 => omega
        | slc _ _ _ g0 off cap us hn' hc hm' hl hg hp2 =>
          have hget : ∀ k j, k < m → j < ei.size → ((List.range (m * ei.size)).map fun j => us (j / ei.size) (j % ei.size)).getD (k * ei.size + j) Go.undef = us k j := by
            intro k j hk hj
            have hlt := dD hk hj
            have e1 : (k * ei.size + j) / ei.size = k := by rw [Nat.mul_comm, Nat.mul_add_div hsz0, Nat.div_eq_of_lt hj, Nat.add_zero]
            have e2 : (k * ei.size + j) % ei.size = j := by rw [Nat.mul_comm, Nat.mul_add_mod, Nat.mod_eq_of_lt hj]
            rw [List.getD_eq_getElem?_getD, List.getElem?_map, List.getElem?_range hlt]
            simp only [Option.map_some, Option.getD_some, e1, e2]
          refine main m g ((List.range (m * ei.size)).map fun j => us (j / ei.size) (j % ei.size)) (by simp [hsz]) (.inr ⟨g0, off, cap, rfl, fun j hj => ?_⟩) hl (fun k j hk hj => ?_)
          · rw [← hsz] at hj
            have hk : j / ei.size < m := (Nat.div_lt_iff_lt_mul hsz0).2 hj
            have hq2 : j = j / ei.size * ei.size + j % ei.size := by rw [Nat.mul_comm]; exact (Nat.div_add_mod j ei.size).symm
            have := (hg (j / ei.size) (j % ei.size) hk (Nat.mod_lt _ hsz0)).2.1
            rw [← hq2] at this
            rw [this]
            rw [show ((List.range (m * ei.size)).map fun j => us (j / ei.size) (j % ei.size)).getD j Go.undef = us (j / ei.size) (j % ei.size) from by
              have := hget (j / ei.size) (j % ei.size) hk (Nat.mod_lt _ hsz0)
              rwa [← hq2] at this]
          · rw [hget k j hk hj]
            exact ⟨hp2 k j hk hj, (hg k j hk hj).2.2⟩
  | own id ver =>
    refine .look fun b hb => ?_
    cases b with
    | row ver' sz m e' g =>
      cases hq : Nat.beq ver ver' && Nat.beq sz ei.size with
      | false => simp only [hq]; exact .fail
      | true =>
        simp only [hq]
        simp only [Bool.and_eq_true] at hq
        obtain ⟨q1, q2⟩ := hq
        obtain rfl := Nat.eq_of_beq_eq_true q1
        obtain rfl := Nat.eq_of_beq_eq_true q2
        have hv := hx.own_inv (ak hb)
        obtain ⟨g0, g2, xs, g1, g3, g4⟩ := (rel.bl id _ hb).row_cells
        refine main m g xs (by rw [← hsz]; exact g1.1) ?_ g2 g3
        by_cases hm : m = 0
        · subst hm
          left
          refine ⟨rfl, ?_⟩
          rcases g1.2 with ⟨h, _⟩ | ⟨_, _, _, h, _⟩
          · exact .inl (by rw [hv, h])
          · exact .inr ⟨_, _, by rw [hv, h]⟩
        · right
          obtain ⟨g, cap, cur, e1, e2, e3, e4, e5, e6, e7⟩ := g4 (by omega)
          refine ⟨g, 0, cap, by rw [hv, e1], fun j hj => ?_⟩
          rw [← hsz] at hj
          have hk : j / ei.size < m := (Nat.div_lt_iff_lt_mul hsz0).2 hj
          have hq2 : j = j / ei.size * ei.size + j % ei.size := by rw [Nat.mul_comm]; exact (Nat.div_add_mod j ei.size).symm
          have := e7 (j / ei.size) (j % ei.size) hk (Nat.mod_lt _ hsz0)
          rw [← hq2] at this
          rw [Nat.zero_add]
          exact this
    | nilrow ver' =>
      cases hq : Nat.beq ver ver' with
      | false => simp only [hq]; exact .fail
      | true =>
        obtain rfl := Nat.eq_of_beq_eq_true hq
        simp only [hq]
        have hv := hx.own_inv (ak hb)
        have hnl : σ id = .slice none 0 0 := rel.bl id _ hb
        exact main 0 _ [] (by simp) (.inl ⟨rfl, .inl (by rw [hv, hnl])⟩) (fun k hk => by omega) (fun k j hk => by omega)
    | lrow ver' sz m e' cs =>
      cases hq : Nat.beq ver ver' && Nat.beq sz ei.size with
      | false => simp only [hq]; exact .fail
      | true =>
        simp only [hq]
        simp only [Bool.and_eq_true] at hq
        obtain ⟨q1, q2⟩ := hq
        obtain rfl := Nat.eq_of_beq_eq_true q1
        obtain rfl := Nat.eq_of_beq_eq_true q2
        have hv := hx.own_inv (ak hb)
        obtain ⟨g0, g0', gl, g, cap, cur, ys, k1, k2, k3, k4, k5, k6, k7, k8⟩ := (rel.bl id _ hb).lrow_cells
        have hyl : ys.length = m * i.size := by rw [← hsz]; exact k1.1
        refine mainL m cs ys g0' hyl (.inr ⟨g, 0, cap, by rw [hv, k2], fun j hj => ?_⟩) gl (fun j hj => (k8 j hj).2)
        rw [Nat.zero_add]
        exact (k8 j (by rw [hsz]; exact hj)).1
    | _ => exact .fail
  | _ => exact .fail
end
end Go.Proofs.YtimkpfnbkclclaaGreat.Ab
namespace Go.Proofs.YtimkpfnbkclclaaGreat.Ab
open Go
theorem aZ (t : Tr) : ∀ cs : List AV, (AV.trL t cs).length = cs.length := by
  intro cs
  induction cs with
  | nil => rfl
  | cons c cs ih => simp [AV.trL, ih]
theorem dh (t : Tr) : ∀ (cs : List AV) (j : Nat), (AV.trL t cs).getD j .undef = (cs.getD j .undef).tr t := by
  intro cs
  induction cs with
  | nil => intro j; rfl
  | cons c cs ih =>
    intro j
    cases j with
    | zero => rfl
    | succ j => simpa [AV.trL] using ih j
theorem bL : ∀ {cs : List AV}, AV.flatL cs = true → ∀ j, (cs.getD j .undef).flat = true := by
  intro cs
  induction cs with
  | nil => intro _ j; rfl
  | cons c cs ih =>
    intro h j
    unfold AV.flatL at h
    cases hc : AV.flat c with
    | false => simp [hc] at h
    | true =>
      simp only [hc] at h
      cases j with
      | zero => exact hc
      | succ j => simpa using ih h j
section
variable {w : World} {M M' : Nat → Prop} {σ σ' : Nat → Value} {V V' : Nat → Option Nat}
theorem PR.tr {t : Tr} {x : AV} {v : Value} (h : PR w M x v) (hM : ∀ g, M' g → M g) : PR w M' (x.tr t) v := by
  have e : x.tr t = x := by cases h <;> simp [AV.tr]
  rw [e]
  exact h.grow (fun _ _ _ => rfl) (fun g _ hg => hM g hg)
theorem VR.tr {t : Tr} (hM : ∀ g, M' g → M g)
    (hp : ∀ id i m, V id = some m → t.gp id = some i → (∃ m', V' i = some m') ∧ ∀ g, σ id = .pointer (some g) → σ' i = σ id)
    (ho : ∀ id ver i ver' m, V id = some m → ver ≤ m → t.go id ver = some (i, ver') → ∃ m', V' i = some m' ∧ ver' ≤ m' ∧ (ver' = m' → ver = m ∧ σ' i = σ id))
    {x : AV} {v : Value} (h : VR w M σ V x v) : VR w M' σ' V' (x.tr t) v := by
  induction h with
  | pure h => exact .pure (h.tr hM)
  | void => simp only [AV.tr]; exact .void
  | own id ver m v h1 hV hm h =>
    simp only [AV.tr]
    cases hg : t.go id ver with
    | none => exact .pure (.undef _)
    | some p =>
      obtain ⟨i, ver'⟩ := p
      obtain ⟨m', e1, e2, e3⟩ := ho id ver i ver' m hV hm hg
      exact .own i ver' m' v h1 e1 e2 (fun e => by rw [(e3 e).2]; exact h (e3 e).1)
  | ptr id off g m hV h =>
    simp only [AV.tr]
    cases hg : t.gp id with
    | none => exact .pure (.undef _)
    | some i =>
      obtain ⟨⟨m', e1⟩, e2⟩ := hp id i m hV hg
      exact .ptr i off g m' e1 (by rw [e2 _ h]; exact h)
  | rptr id ver sz k off m g b hV hm h =>
    simp only [AV.tr]
    cases hg : t.go id ver with
    | none => exact .pure (.undef _)
    | some p =>
      obtain ⟨i, ver'⟩ := p
      obtain ⟨m', e1, e2, e3⟩ := ho id ver i ver' m hV hm hg
      exact .rptr i ver' sz k off m' g b e1 e2 (fun e => by rw [(e3 e).2]; exact h (e3 e).1)
  | lptr id ver off m g hV hm h =>
    simp only [AV.tr]
    cases hg : t.go id ver with
    | none => exact .pure (.undef _)
    | some p =>
      obtain ⟨i, ver'⟩ := p
      obtain ⟨m', e1, e2, e3⟩ := ho id ver i ver' m hV hm hg
      exact .lptr i ver' off m' g e1 e2 (fun e => by rw [(e3 e).2]; exact h (e3 e).1)
  | pptr cs off g o us hg hp =>
    simp only [AV.tr]
    exact .pptr cs off g o us (fun j hj => ⟨fun h => (hg j hj).1 (hM g h), (hg j hj).2⟩) (fun j hj => (hp j hj).grow (fun _ _ _ => rfl) (fun g _ hg => hM g hg))
  | agg cs vs hl _ ih =>
    simp only [AV.tr]
    exact .agg _ vs (by rw [aZ]; exact hl) (fun j hj => by rw [aZ] at hj; rw [dh]; exact ih j hj)
  | tup cs vs hl _ ih =>
    simp only [AV.tr]
    exact .tup _ vs (by rw [aZ]; exact hl) (fun j hj => by rw [aZ] at hj; rw [dh]; exact ih j hj)
  | fn f cs vs hl _ ih =>
    simp only [AV.tr]
    exact .fn f _ vs (by rw [aZ]; exact hl) (fun j hj => by rw [aZ] at hj; rw [dh]; exact ih j hj)
theorem BR.tr {t : Tr} (hM : ∀ g, M' g → M g)
    (hp : ∀ id i m, V id = some m → t.gp id = some i → (∃ m', V' i = some m') ∧ ∀ g, σ id = .pointer (some g) → σ' i = σ id)
    (ho : ∀ id ver i ver' m, V id = some m → ver ≤ m → t.go id ver = some (i, ver') → ∃ m', V' i = some m' ∧ ver' ≤ m' ∧ (ver' = m' → ver = m ∧ σ' i = σ id))
    {id i ver : Nat} (hσ : σ' i = σ id) {b : Blk} (h : BR w M σ V id b) : BR w M' σ' V' i (b.tr t ver) := by
  cases b with
  | var cells =>
    obtain ⟨g, vs, T, h1, h2, h3, h4⟩ := h
    exact ⟨g, vs, T, by rw [hσ]; exact h1, h2, by rw [aZ]; exact h3, fun j hj => by
      rw [aZ] at hj
      rw [dh]
      exact ⟨(h4 j hj).1.tr hM hp ho, (h4 j hj).2⟩⟩
  | row v sz n e f =>
    obtain ⟨xs, h0, h1, h2, h3⟩ := h
    exact ⟨xs, h0, by rw [hσ]; exact h1, h2, fun k j hk hj => ⟨(h3 k j hk hj).1.grow (fun _ _ _ => rfl) (fun g _ hg => hM g hg), (h3 k j hk hj).2⟩⟩
  | nilrow v => exact hσ.trans h
  | lrow v sz n e cells =>
    obtain ⟨xs, h0, h0', h1, h2, h3⟩ := h
    exact ⟨xs, h0, h0', by rw [hσ]; exact h1, by rw [aZ]; exact h2, fun j hj => by
      rw [dh]
      exact ⟨(h3 j hj).1.tr hM hp ho, (h3 j hj).2⟩⟩
  | dead v => trivial
theorem PR.flat {x : AV} {v : Value} (hf : x.flat = true) (h : PR w M x v) : PR w M' x v := by
  cases h with
  | slc sz n f g off cap us hn => simp only [AV.flat] at hf; have := Nat.eq_of_beq_eq_true hf; omega
  | slc0 sz f v h => exact .slc0 sz f v h
  | any1 v h => exact .any1 v h
  | _ => constructor
theorem VR.flat {x : AV} {v : Value} (h : VR w M σ V x v) (hf : x.flat = true) : VR w M' σ V x v := by
  induction h with
  | pure h => exact .pure (h.flat hf)
  | void => exact .void
  | own id ver m v h1 hV hm h => exact .own id ver m v h1 hV hm h
  | ptr id off g m hV h => exact .ptr id off g m hV h
  | rptr id ver sz k off m g b hV hm h => exact .rptr id ver sz k off m g b hV hm h
  | lptr id ver off m g hV hm h => exact .lptr id ver off m g hV hm h
  | pptr => simp [AV.flat] at hf
  | agg cs vs hl _ ih => simp only [AV.flat] at hf; exact .agg cs vs hl (fun j hj => ih j hj (bL hf j))
  | tup cs vs hl _ ih => simp only [AV.flat] at hf; exact .tup cs vs hl (fun j hj => ih j hj (bL hf j))
  | fn f cs vs hl _ ih => simp only [AV.flat] at hf; exact .fn f cs vs hl (fun j hj => ih j hj (bL hf j))
theorem BR.flat {id : Nat} {b : Blk} (h : BR w M σ V id b) (hf : b.flat) : BR w M' σ V id b := by
  cases b with
  | var cells =>
    obtain ⟨g, vs, T, h1, h2, h3, h4⟩ := h
    exact ⟨g, vs, T, h1, h2, h3, fun j hj => ⟨(h4 j hj).1.flat (bL hf j), (h4 j hj).2⟩⟩
  | row v sz n e f =>
    obtain ⟨xs, h0, h1, h2, h3⟩ := h
    exact ⟨xs, h0, h1, h2, fun k j hk hj => ⟨(h3 k j hk hj).1.flat (bL (hf k hk) j), (h3 k j hk hj).2⟩⟩
  | nilrow v => exact h
  | lrow v sz n e cells =>
    obtain ⟨xs, h0, h0', h1, h2, h3⟩ := h
    exact ⟨xs, h0, h0', h1, h2, fun j hj => ⟨(h3 j hj).1.flat (bL hf j), (h3 j hj).2⟩⟩
  | dead v => trivial
theorem eU (t : Tr) (ver : Nat) (b : Blk) : (b.tr t ver).ver = if b.isVar then 0 else ver := by cases b <;> rfl
theorem nQ (t : Tr) (ver : Nat) (b : Blk) : (b.tr t ver).isVar = b.isVar := by cases b <;> rfl
theorem aF {t : Tr} {ver : Nat} {b : Blk} : (b.tr t ver).live ↔ b.live := by cases b <;> exact Iff.rfl
end
def Hof (l : List Blk) (id : Nat) : Option Blk := l[id]?
def aI (P : Program) (f : FuncId) (S : List AV → List Blk → Option Ans) : Prop :=
  ∀ (xs : List AV) (ins : List Blk) (r : Ans) (x : r.α), S xs ins = some r → r.get = some x →
    (∃ fn, P.funcs[f]? = some fn ∧ fn.body.isSome = true) ∧
    ∀ (F : Fr) (σ : Nat → Value) (w : World) (vs : Array Value), F.w0 = w → (∀ g, F.m0 g ↔ Own (Hof ins) σ g) → RelH F (Hof ins) σ w → vs.size = xs.length →
      (∀ j, j < xs.length → VR w (Mut F (Hof ins) σ) σ (Ver (Hof ins)) (xs.getD j .undef) (vs.getD j Go.undef)) →
      Calls P f vs w fun e w' => ∃ v σ', e = .returned v ∧ RelH F (Hof (r.outs x)) σ' w' ∧ VR w' (Mut F (Hof (r.outs x)) σ') σ' (Ver (Hof (r.outs x))) (r.av x) v ∧
        ins.length ≤ (r.outs x).length ∧ (∀ (j : Nat) b, (r.outs x)[j]? = some b → b.ver ≤ 1 ∧ (ins.length ≤ j → b.ver = 0)) ∧ (∀ id g, id < ins.length → σ id = .pointer (some g) → σ' id = σ id) ∧
        ∀ (id : Nat) b, id < ins.length → (r.outs x)[id]? = some b → b.ver = 0 → b.isVar = false → σ' id = σ id
structure POK (P : Program) : Prop where
  mixed : P.follows .mixedOrders = true
  names : ∀ (f : FuncId) (fn : Func), P.funcs[f]? = some fn → fn.body.isSome = true → fn.name ≠ "runtime.NumGoroutine"
section
variable {P : Program} {F : Fr} {H : Nat → Option Blk} {σ : Nat → Value} {o : Oper} {a : Act} {w : World} {c : Nat}
theorem Good.aX : ∀ (ids : List Nat) (k : List Blk → LM EffG), (∀ bs : List Blk, bs.length = ids.length → (∀ (j id : Nat), ids[j]? = some id → ∃ b, bs[j]? = some b ∧ H id = some b) → Good P F H σ o a w c (k bs)) → Good P F H σ o a w c (Ab.aX ids k) := by
  intro ids
  induction ids with
  | nil => intro k h; exact h [] rfl (fun j id hj => by simp at hj)
  | cons id ids ih =>
    intro k h
    refine .look fun b hb => ih _ fun bs h1 h2 => h (b :: bs) (by simp [h1]) fun j id' hj => ?_
    cases j with
    | zero => simp at hj; subst hj; exact ⟨b, rfl, hb⟩
    | succ j => simpa using h2 j id' (by simpa using hj)
def Lent (F : Fr) (H : Nat → Option Blk) (σ : Nat → Value) (w : World) (bor : List (Nat × Nat)) (x : AV) (v : Value) : Prop :=
  ∀ M' : Nat → Prop, (∀ g, M' g → Mut F H σ g) → (∀ p ∈ bor, ∀ g, aA (σ p.1) = some g → ¬ M' g) → VR w M' σ (Ver H) x v
theorem Lent.mono {bor bor' : List (Nat × Nat)} {x : AV} {v : Value} (h : Lent F H σ w bor x v) (hb : ∀ p ∈ bor, p ∈ bor') : Lent F H σ w bor' x v :=
  fun M' hM hn => h M' hM (fun p hp => hn p (hb p hp))
def gU (H : Nat → Option Blk) (bor : List (Nat × Nat)) : Prop := ∀ p ∈ bor, ∃ b, H p.1 = some b ∧ b.live ∧ b.ver = p.2
theorem Good.gG {v : AV} {k : AV → List (Nat × Nat) → LM EffG} {x : Value} (rel : RelH F H σ w) (hx : VR w (Mut F H σ) σ (Ver H) v x)
    (h : ∀ v' u, gU H u → Lent F H σ w u v' x → Good P F H σ o a w c (k v' u)) : Good P F H σ o a w c (Ab.gG v k) := by
  by_cases hv : ∃ id ver, v = .own id ver
  · obtain ⟨id, ver, rfl⟩ := hv
    refine .look fun b hb => ?_
    cases b with
    | row ver' sz n e f =>
      cases hq : Nat.beq ver ver' with
      | false => simp only [hq]; exact .fail
      | true =>
        obtain rfl := Nat.eq_of_beq_eq_true hq
        simp only [hq]
        have hval := hx.own_inv (ak hb)
        refine h _ _ (fun p hp => ?_) (fun M' hM hnot => ?_)
        · simp only [List.mem_singleton] at hp; subst hp; exact ⟨_, hb, trivial, rfl⟩
        · rw [hval]
          exact .pure ((rel.bl id _ hb).row_slc hM (fun g hg => hnot (id, ver) (List.mem_singleton.2 rfl) g hg))
    | nilrow ver' =>
      cases hq : Nat.beq ver ver' with
      | false => simp only [hq]; exact .fail
      | true =>
        obtain rfl := Nat.eq_of_beq_eq_true hq
        simp only [hq]
        have hval := hx.own_inv (ak hb)
        refine h _ _ (fun p hp => by cases hp) (fun M' _ _ => ?_)
        have hnil : σ id = .slice none 0 0 := rel.bl id _ hb
        rw [hval, hnil]
        exact .pure (.slc0 _ _ _ (.inl rfl))
    | _ => exact .fail
  · have e : Ab.gG v k = k v [] := by cases v <;> first | rfl | exact absurd ⟨_, _, rfl⟩ hv
    rw [e]
    refine h v [] (fun p hp => by cases hp) (fun M' hM _ => ?_)
    exact hx.grow ⟨Nat.le_refl _, fun _ _ _ => rfl, fun g _ hg => hM g hg, fun _ m h => ⟨m, h, Nat.le_refl _, fun _ => rfl⟩, fun _ _ _ _ _ => rfl⟩
theorem Good.gY (rel : RelH F H σ w) : ∀ (xs : List AV) (us : List Value), us.length = xs.length → (∀ j, j < xs.length → VR w (Mut F H σ) σ (Ver H) (xs.getD j .undef) (us.getD j Go.undef)) →
    ∀ k : List AV → List (Nat × Nat) → LM EffG, (∀ xs' u, xs'.length = xs.length → gU H u → (∀ j, j < xs.length → Lent F H σ w u (xs'.getD j .undef) (us.getD j Go.undef)) → Good P F H σ o a w c (k xs' u)) → Good P F H σ o a w c (Ab.gY xs k) := by
  intro xs
  induction xs with
  | nil => intro us hl _ k h; exact h [] [] rfl (fun p hp => by cases hp) (fun j hj => by simp at hj)
  | cons x xs ih =>
    intro us hl hc k h
    obtain ⟨u0, us, rfl⟩ : ∃ u us', us = u :: us' := by cases us with
      | nil => simp at hl
      | cons u us' => exact ⟨u, us', rfl⟩
    refine Good.gG rel (x := u0) (by simpa using hc 0 (by simp)) fun v' u1 a1 a2 => ?_
    refine ih us (by simpa using hl) (fun j hj => by simpa using hc (j + 1) (by simpa using hj)) _ fun xs' u2 b0 b1 b2 => ?_
    refine h (v' :: xs') (u1 ++ u2) (by simp [b0]) (fun p hp => (List.mem_append.1 hp).elim (a1 p) (b1 p)) (fun j hj => ?_)
    cases j with
    | zero => exact a2.mono fun p hp => List.mem_append.2 (.inl hp)
    | succ j => simpa using (b2 j (by simpa using hj)).mono (fun p hp => List.mem_append.2 (.inr hp))
theorem VR.plain_pr {w : World} {M : Nat → Prop} {V : Nat → Option Nat} {x : AV} {v : Value} (h : VR w M σ V x v) (hp : x.plain = true) : PR w M x v := by
  cases h with
  | pure h => exact h
  | _ => simp [AV.plain] at hp
theorem Good.lend {v : AV} {k : AV → List (Nat × Nat) → LM EffG} {x : Value} (rel : RelH F H σ w) (hx : VR w (Mut F H σ) σ (Ver H) v x)
    (h : ∀ v' u, gU H u → Lent F H σ w u v' x → Good P F H σ o a w c (k v' u)) : Good P F H σ o a w c (Ab.lend v k) := by
  by_cases hv : ∃ id ver, v = .own id ver
  · obtain ⟨id, ver, rfl⟩ := hv
    refine .look fun b hb => ?_
    have other : Good P F H σ o a w c (Ab.gG (.own id ver) k) := Good.gG rel hx h
    cases b with
    | lrow ver' sz n e cells =>
      cases hq : Nat.beq ver ver' with
      | false => simp only [hq]; exact .fail
      | true =>
        obtain rfl := Nat.eq_of_beq_eq_true hq
        simp only [hq]
        have hval := hx.own_inv (ak hb)
        obtain ⟨h0, h0', hcl, g, cap, cur, xs, k1, k2, k3, k4, k5, k6, k7, k8⟩ := (rel.bl id _ hb).lrow_cells
        refine Good.gY rel cells xs (by rw [k1.1, hcl]) (fun j hj => (k8 j (by omega)).2.1) _ fun cells' u c0 c1 c2 => ?_
        cases hpl : allB AV.plain cells' with
        | false => simp only; exact .fail
        | true =>
          simp only
          refine h _ _ (fun p hp => ?_) (fun M' hM hnot => ?_)
          · rcases List.mem_cons.1 hp with rfl | hp
            · exact ⟨_, hb, trivial, rfl⟩
            · exact c1 p hp
          · rw [hval, k2]
            refine .pure (.slc sz n _ g 0 cap (fun k j => xs.getD (k * sz + j) Go.undef) h0' k3 k4 (fun k hk => ?_) (fun k j hk hj => ?_) (fun k j hk hj => ?_))
            · have h2 : (k + 1) * sz ≤ n * sz := Nat.mul_le_mul_right _ hk
              rw [Nat.add_mul, Nat.one_mul] at h2
              rw [iR hk]
              simp [rowOf]
              omega
            · have hlt := dD hk hj
              rw [Nat.zero_add]
              exact ⟨hnot (id, ver) (List.mem_cons_self ..) g (by rw [k2]; rfl), (k8 _ hlt).1, (k8 _ hlt).2.2⟩
            · have hlt := dD hk hj
              have e1 : (rowC sz n cells' k).getD j .undef = cells'.getD (k * sz + j) .undef := by
                rw [iR hk]
                simp [rowOf, List.getD_eq_getElem?_getD, hj, List.getElem?_drop]
              rw [e1]
              refine (c2 _ (by omega) M' hM (fun p hp => hnot p (List.mem_cons_of_mem _ hp))).plain_pr ?_
              refine bf.1 hpl _ ?_
              rw [List.getD_eq_getElem?_getD, List.getElem?_eq_getElem (by omega)]
              exact List.getElem_mem _
    | _ => exact other
  · have e : Ab.lend v k = Ab.gG v k := by cases v <;> first | rfl | exact absurd ⟨_, _, rfl⟩ hv
    rw [e]
    exact Good.gG rel hx h
theorem Good.gX (rel : RelH F H σ w) : ∀ (xs : List AV) (us : List Value), us.length = xs.length → (∀ j, j < xs.length → VR w (Mut F H σ) σ (Ver H) (xs.getD j .undef) (us.getD j Go.undef)) →
    ∀ k : List AV → List (Nat × Nat) → LM EffG, (∀ xs' u, xs'.length = xs.length → gU H u → (∀ j, j < xs.length → Lent F H σ w u (xs'.getD j .undef) (us.getD j Go.undef)) → Good P F H σ o a w c (k xs' u)) → Good P F H σ o a w c (Ab.gX xs k) := by
  intro xs
  induction xs with
  | nil => intro us hl _ k h; exact h [] [] rfl (fun p hp => by cases hp) (fun j hj => by simp at hj)
  | cons x xs ih =>
    intro us hl hc k h
    obtain ⟨u0, us, rfl⟩ : ∃ u us', us = u :: us' := by cases us with
      | nil => simp at hl
      | cons u us' => exact ⟨u, us', rfl⟩
    have hx0 : VR w (Mut F H σ) σ (Ver H) x u0 := by simpa using hc 0 (by simp)
    have rest : ∀ v' u1, gU H u1 → Lent F H σ w u1 v' u0 → Good P F H σ o a w c (Ab.gX xs fun vs' us => k (v' :: vs') (u1 ++ us)) := by
      intro v' u1 a1 a2
      refine ih us (by simpa using hl) (fun j hj => by simpa using hc (j + 1) (by simpa using hj)) _ fun xs' u2 b0 b1 b2 => ?_
      refine h (v' :: xs') (u1 ++ u2) (by simp [b0]) (fun p hp => (List.mem_append.1 hp).elim (a1 p) (b1 p)) (fun j hj => ?_)
      cases j with
      | zero => exact a2.mono fun p hp => List.mem_append.2 (.inl hp)
      | succ j => simpa using (b2 j (by simpa using hj)).mono (fun p hp => List.mem_append.2 (.inr hp))
    by_cases hag : ∃ cs, x = .agg cs
    · obtain ⟨cs, rfl⟩ := hag
      obtain ⟨vs, rfl, hvl, hvc⟩ := hx0.agg_inv
      have eg : ∀ j, vs.toList.getD j Go.undef = vs.getD j Go.undef := fun j => by simp [List.getD_eq_getElem?_getD, Array.getD_eq_getD_getElem?]
      refine Good.gY rel cs vs.toList (by simpa using hvl) (fun j hj => by rw [eg]; exact hvc j hj) _ fun cs' u1 c0 c1 c2 => ?_
      exact rest (.agg cs') u1 c1 (fun M' hM hn => .agg cs' vs (by rw [c0]; exact hvl) (fun j hj => by
        have := c2 j (by omega) M' hM hn
        rwa [eg] at this))
    · have e : Ab.gX (x :: xs) k = Ab.lend x fun v' u => Ab.gX xs fun vs' us => k (v' :: vs') (u ++ us) := by cases x <;> first | rfl | exact absurd ⟨_, rfl⟩ hag
      rw [e]
      exact Good.lend rel hx0 rest
theorem Good.dx (rel : RelH F H σ w) (ws : List Nat) : ∀ (xs : List AV) (us : List Value), us.length = xs.length → (∀ j, j < xs.length → VR w (Mut F H σ) σ (Ver H) (xs.getD j .undef) (us.getD j Go.undef)) →
    ∀ k : List AV → List (Nat × Nat) → LM EffG, (∀ xs' u, xs'.length = xs.length → gU H u → (∀ j, j < xs.length → Lent F H σ w u (xs'.getD j .undef) (us.getD j Go.undef)) → Good P F H σ o a w c (k xs' u)) → Good P F H σ o a w c (Ab.dx ws xs k) := by
  intro xs
  induction xs with
  | nil => intro us hl _ k h; exact h [] [] rfl (fun p hp => by cases hp) (fun j hj => by simp at hj)
  | cons x xs ih =>
    intro us hl hc k h
    obtain ⟨u0, us, rfl⟩ : ∃ u us', us = u :: us' := by cases us with
      | nil => simp at hl
      | cons u us' => exact ⟨u, us', rfl⟩
    have hx0 : VR w (Mut F H σ) σ (Ver H) x u0 := by simpa using hc 0 (by simp)
    have rest : ∀ v' u1, gU H u1 → Lent F H σ w u1 v' u0 → Good P F H σ o a w c (Ab.dx ws xs fun vs' us => k (v' :: vs') (u1 ++ us)) := by
      intro v' u1 a1 a2
      refine ih us (by simpa using hl) (fun j hj => by simpa using hc (j + 1) (by simpa using hj)) _ fun xs' u2 b0 b1 b2 => ?_
      refine h (v' :: xs') (u1 ++ u2) (by simp [b0]) (fun p hp => (List.mem_append.1 hp).elim (a1 p) (b1 p)) (fun j hj => ?_)
      cases j with
      | zero => exact a2.mono fun p hp => List.mem_append.2 (.inl hp)
      | succ j => simpa using (b2 j (by simpa using hj)).mono (fun p hp => List.mem_append.2 (.inr hp))
    by_cases hag : ∃ cs, x = .agg cs
    · obtain ⟨cs, rfl⟩ := hag
      obtain ⟨vs, rfl, hvl, hvc⟩ := hx0.agg_inv
      have eg : ∀ j, vs.toList.getD j Go.undef = vs.getD j Go.undef := fun j => by simp [List.getD_eq_getElem?_getD, Array.getD_eq_getD_getElem?]
      cases hw : idx ws xs.length with
      | some q =>
        have e : Ab.dx ws (.agg cs :: xs) k = Ab.dx ws xs fun vs' us => k (.agg cs :: vs') ([] ++ us) := by
          show (match idx ws xs.length with | some _ => _ | none => _) = _
          rw [hw]; rfl
        rw [e]
        exact rest (.agg cs) [] (fun p hp => by cases hp) (fun M' hM _ => hx0.grow ⟨Nat.le_refl _, fun _ _ _ => rfl, fun g _ hg => hM g hg, fun _ m h => ⟨m, h, Nat.le_refl _, fun _ => rfl⟩, fun _ _ _ _ _ => rfl⟩)
      | none =>
        have e : Ab.dx ws (.agg cs :: xs) k = Ab.gY cs fun cs' u => Ab.dx ws xs fun vs' us => k (.agg cs' :: vs') (u ++ us) := by
          show (match idx ws xs.length with | some _ => _ | none => _) = _
          rw [hw]
        rw [e]
        refine Good.gY rel cs vs.toList (by simpa using hvl) (fun j hj => by rw [eg]; exact hvc j hj) _ fun cs' u1 c0 c1 c2 => ?_
        exact rest (.agg cs') u1 c1 (fun M' hM hn => .agg cs' vs (by rw [c0]; exact hvl) (fun j hj => by
          have := c2 j (by omega) M' hM hn
          rwa [eg] at this))
    · by_cases how : ∃ id ver, x = .own id ver
      · obtain ⟨id, ver, rfl⟩ := how
        exact rest (.own id ver) [] (fun p hp => by cases hp) (fun M' hM _ => hx0.grow ⟨Nat.le_refl _, fun _ _ _ => rfl, fun g _ hg => hM g hg, fun _ m h => ⟨m, h, Nat.le_refl _, fun _ => rfl⟩, fun _ _ _ _ _ => rfl⟩)
      · have e : Ab.dx ws (x :: xs) k = Ab.lend x fun v' u => Ab.dx ws xs fun vs' us => k (v' :: vs') (u ++ us) := by cases x <;> first | rfl | exact absurd ⟨_, rfl⟩ hag | exact absurd ⟨_, _, rfl⟩ how
        rw [e]
        exact Good.lend rel hx0 rest
end
theorem bU {ids : List Nat} {y i : Nat} (h : idx ids y = some i) : ids[i]? = some y := by
  induction ids generalizing i with
  | nil => simp [idx] at h
  | cons x xs ih =>
    unfold idx at h
    cases hb : Nat.beq x y with
    | true => simp only [hb, Option.some.injEq] at h; subst h; rw [Nat.eq_of_beq_eq_true hb]; rfl
    | false =>
      simp only [hb] at h
      cases hi : idx xs y with
      | none => simp [hi] at h
      | some j => simp only [hi, Option.some.injEq] at h; subst h; simpa using ih hi
theorem jS {ids : List Nat} {y : Nat} (h : idx ids y = none) : y ∉ ids := by
  induction ids with
  | nil => simp
  | cons x xs ih =>
    unfold idx at h
    cases hb : Nat.beq x y with
    | true => simp [hb] at h
    | false =>
      simp only [hb] at h
      cases hi : idx xs y with
      | some j => simp [hi] at h
      | none =>
        have hne : x ≠ y := fun e => by rw [e, Nat.beq_refl] at hb; cases hb
        intro hm
        rcases List.mem_cons.1 hm with e | hm
        · exact hne e.symm
        · exact ih hi hm
theorem lX {ids : List Nat} {y : Nat} (h : y ∈ ids) : ∃ i, idx ids y = some i := by
  cases hi : idx ids y with
  | some i => exact ⟨i, rfl⟩
  | none => exact absurd h (jS hi)
theorem iZ {ids : List Nat} {y : Nat} (h : ids.Nodup) : (aW ids y).Nodup := by
  unfold aW
  cases hi : idx ids y with
  | some i => exact h
  | none => exact List.nodup_append.2 ⟨h, by simp, fun a ha b hb => by simp at hb; subst hb; exact fun e => jS hi (e ▸ ha)⟩
theorem aV : ∀ (l ids : List Nat), ids.Nodup → (l.foldl aW ids).Nodup := by
  intro l
  induction l with
  | nil => intro ids h; exact h
  | cons y l ih => intro ids h; exact ih _ (iZ h)
theorem bZ {ids : List Nat} (h : ids.Nodup) {i y : Nat} (hi : ids[i]? = some y) : idx ids y = some i := by
  obtain ⟨j, hj⟩ := lX (List.mem_of_getElem? hi)
  have h2 := bU hj
  have : j = i := (List.getElem?_inj (List.getElem?_eq_some_iff.1 h2).1 h).1 (h2.trans hi.symm)
  rw [hj, this]
end Go.Proofs.YtimkpfnbkclclaaGreat.Ab
namespace Go.Proofs.YtimkpfnbkclclaaGreat.Ab
open Go
theorem gT (t : Tr) : ∀ (bs : List Blk) (j : Nat), (eu t bs)[j]? = (bs[j]?).map (Blk.tr t 0) := by
  intro bs
  induction bs with
  | nil => intro j; simp [eu]
  | cons b bs ih => intro j; cases j with
    | zero => simp [eu]
    | succ j => simpa [eu] using ih j
theorem dW (t : Tr) : ∀ (bs : List Blk), (eu t bs).length = bs.length := by
  intro bs
  induction bs with
  | nil => rfl
  | cons b bs ih => simp [eu, ih]
theorem iG (t : Tr) (b b' : Blk) : (b.isVar = false ∧ b'.isVar = false ∧ (back t b b').ver = b.ver + b'.ver) ∨ (back t b b').ver = b.ver + 1 ∨ (b.isVar = true ∧ b'.isVar = true ∧ back t b b' = b'.tr t 0 ∧ (back t b b').ver = 0 ∧ b.ver = 0) := by
  unfold back
  cases h1 : b.isVar <;> cases h2 : b'.isVar <;> simp only
  · left; refine ⟨trivial, trivial, ?_⟩; rw [eU, h2]; rfl
  · right; left; rfl
  · right; left; rfl
  · right; right; refine ⟨trivial, trivial, trivial, by rw [eU, h2]; rfl, by cases b <;> simp [Blk.isVar] at h1; rfl⟩
theorem lg {t : Tr} {b b' : Blk} (h : (back t b b').live) : b'.live ∧ ∃ ver, back t b b' = b'.tr t ver := by
  unfold back at h ⊢
  cases h1 : b.isVar <;> cases h2 : b'.isVar <;> simp only [h1, h2] at h ⊢
  · exact ⟨aF.1 h, _, rfl⟩
  · exact h.elim
  · exact h.elim
  · exact ⟨aF.1 h, _, rfl⟩
theorem iB (t : Tr) : ∀ (ids : List Nat) (bs outs : List Blk) (H : Nat → Option Blk), ids.Nodup → bs.length = ids.length → ids.length ≤ outs.length →
    (∀ (j id : Nat) (b b' : Blk), ids[j]? = some id → bs[j]? = some b → outs[j]? = some b' → ups H (cK t ids bs outs) id = some (back t b b')) ∧ ∀ id, id ∉ ids → ups H (cK t ids bs outs) id = H id := by
  intro ids
  induction ids with
  | nil => intro bs outs H _ _ _; exact ⟨fun j id b b' h => by simp at h, fun id _ => by simp [cK, ups]⟩
  | cons i ids ih =>
    intro bs outs H hn hl hl2
    obtain ⟨b0, bs, rfl⟩ : ∃ b bs', bs = b :: bs' := by cases bs with
      | nil => simp at hl
      | cons b bs' => exact ⟨b, bs', rfl⟩
    obtain ⟨o0, outs, rfl⟩ : ∃ b bs', outs = b :: bs' := by cases outs with
      | nil => simp at hl2
      | cons b bs' => exact ⟨b, bs', rfl⟩
    have hn' := List.nodup_cons.1 hn
    obtain ⟨h1, h2⟩ := ih bs outs (upd H i (some (back t b0 o0))) hn'.2 (by simpa using hl) (by simpa using hl2)
    simp only [cK, ups]
    refine ⟨fun j id b b' e1 e2 e3 => ?_, fun id hid => ?_⟩
    · cases j with
      | zero =>
        simp at e1 e2 e3
        subst e1 e2 e3
        rw [h2 _ hn'.1, upd_same]
      | succ j => exact h1 j id b b' (by simpa using e1) (by simpa using e2) (by simpa using e3)
    · rw [h2 id (fun h => hid (by simp [h])), upd_ne _ _ (fun e => hid (by simp [e]))]
theorem dn : ∀ (bs : List Blk) (c : Nat) (H : Nat → Option Blk), (∀ j, j < bs.length → ups H (number c bs) (c + j) = bs[j]?) ∧ ∀ id, ¬ (c ≤ id ∧ id < c + bs.length) → ups H (number c bs) id = H id := by
  intro bs
  induction bs with
  | nil => intro c H; exact ⟨fun j hj => by simp at hj, fun id _ => rfl⟩
  | cons b bs ih =>
    intro c H
    obtain ⟨h1, h2⟩ := ih (c + 1) (upd H c (some b))
    simp only [number, ups]
    refine ⟨fun j hj => ?_, fun id hid => ?_⟩
    · cases j with
      | zero => rw [h2 _ (by omega)]; simp
      | succ j =>
        have := h1 j (by simpa using hj)
        rw [show c + 1 + j = c + (j + 1) by omega] at this
        simpa using this
    · simp only [List.length_cons] at hid
      rw [h2 id (by omega), upd_ne _ _ (by omega)]
theorem mH : ∀ (bor : List (Nat × Nat)) (H : Nat → Option Blk), (∀ p ∈ bor, ∀ q ∈ bor, p.1 = q.1 → p.2 = q.2) →
    (∀ p ∈ bor, ups H (bor.map fun p => (p.1, Blk.dead (p.2 + 1))) p.1 = some (.dead (p.2 + 1))) ∧ ∀ id, (∀ p ∈ bor, p.1 ≠ id) → ups H (bor.map fun p => (p.1, Blk.dead (p.2 + 1))) id = H id := by
  intro bor
  induction bor with
  | nil => intro H _; exact ⟨fun p hp => (by cases hp), fun id _ => rfl⟩
  | cons q bor ih =>
    intro H hq
    obtain ⟨h1, h2⟩ := ih (upd H q.1 (some (.dead (q.2 + 1)))) (fun p hp r hr => hq p (by simp [hp]) r (by simp [hr]))
    simp only [List.map_cons, ups]
    refine ⟨fun p hp => ?_, fun id hid => ?_⟩
    · by_cases hm : ∃ r ∈ bor, r.1 = p.1
      · obtain ⟨r, hr, e⟩ := hm
        have e2 : r.2 = p.2 := by
          rcases List.mem_cons.1 hp with rfl | hp'
          · exact hq r (by simp [hr]) p (by simp) e
          · exact hq r (by simp [hr]) p (by simp [hp']) e
        rw [← e, ← e2]
        exact h1 r hr
      · have : p = q := by
          rcases List.mem_cons.1 hp with rfl | hp'
          · rfl
          · exact absurd ⟨p, hp', rfl⟩ hm
        subst this
        rw [h2 _ (fun r hr e => hm ⟨r, hr, e⟩), upd_same]
    · rw [h2 id (fun p hp => hid p (by simp [hp])), upd_ne _ _ (fun e => hid q (by simp) e.symm)]
section
variable {P : Program} {F : Fr} {H : Nat → Option Blk} {σ : Nat → Value} {w : World} {c : Nat}
theorem nZ (rel : RelH F H σ w) (ids : List Nat) (hnd : ids.Nodup) (bs : List Blk) (hbl : bs.length = ids.length) (hbs : ∀ (j id : Nat), ids[j]? = some id → ∃ b : Blk, bs[j]? = some b ∧ H id = some b) (bor : List (Nat × Nat)) (hbor : gU H bor) (hni : ∀ p ∈ bor, p.1 ∉ ids)
    (xs : List AV) (us : List Value) (hxs : ∀ j, j < xs.length → Lent F H σ w bor (xs.getD j .undef) (us.getD j Go.undef)) :
    let t := trIn ids (bs.map Blk.ver)
    let ins := eu t bs
    let σc := fun j => σ (ids.getD j 0)
    let Fc : Fr := ⟨w, Own (Hof ins) σc, fun g => Mut F H σ g ∧ (∀ id ∈ ids, ∀ b, H id = some b → b.live → aA (σ id) ≠ some g) ∧ ∀ p ∈ bor, aA (σ p.1) ≠ some g, σc, bs.length, False⟩
    RelH Fc (Hof ins) σc w ∧ (∀ j, j < xs.length → VR w (Mut Fc (Hof ins) σc) σc (Ver (Hof ins)) ((AV.trL t xs).getD j .undef) (us.getD j Go.undef)) ∧
    (∀ (j : Nat) b', Hof ins j = some b' → ∃ (id : Nat) (b : Blk), ids[j]? = some id ∧ H id = some b ∧ bs[j]? = some b ∧ b' = b.tr t 0) := by
  intro t ins σc Fc
  have hin : ∀ (j : Nat) b', Hof ins j = some b' → ∃ (id : Nat) (b : Blk), ids[j]? = some id ∧ H id = some b ∧ bs[j]? = some b ∧ b' = b.tr t 0 := by
    intro j b' h
    have h : (eu t bs)[j]? = some b' := h
    rw [gT] at h
    obtain ⟨b, hb, rfl⟩ := Option.map_eq_some_iff.1 h
    have hj : j < ids.length := by rw [← hbl]; exact (List.getElem?_eq_some_iff.1 hb).1
    obtain ⟨b2, e1, e2⟩ := hbs j ids[j] (List.getElem?_eq_getElem hj)
    rw [hb] at e1; injection e1 with e1; subst e1
    exact ⟨ids[j], b, List.getElem?_eq_getElem hj, e2, hb, rfl⟩
  have hσ : ∀ (j id : Nat), ids[j]? = some id → σc j = σ id := by
    intro j id h
    show σ (ids.getD j 0) = _
    rw [List.getD_eq_getElem?_getD, h]; rfl
  have hown : ∀ g, Own (Hof ins) σc g → ∃ id ∈ ids, ∃ b, H id = some b ∧ b.live ∧ aA (σ id) = some g := by
    rintro g ⟨j, b', h1, h2, h3⟩
    obtain ⟨id, b, e1, e2, e3, rfl⟩ := hin j b' h1
    exact ⟨id, List.mem_of_getElem? e1, b, e2, aF.1 h2, by rw [← hσ j id e1]; exact h3⟩
  have hM : ∀ g, Mut Fc (Hof ins) σc g → Mut F H σ g := by
    rintro g (h | h)
    · exact h.1
    · obtain ⟨id, _, b, h1, h2, h3⟩ := hown g h
      exact .inr ⟨id, b, h1, h2, h3⟩
  have hMb : ∀ p ∈ bor, ∀ g, aA (σ p.1) = some g → ¬ Mut Fc (Hof ins) σc g := by
    rintro p hp g hg (h | h)
    · exact h.2.2 p hp hg
    · obtain ⟨id, hid, b, h1, h2, h3⟩ := hown g h
      obtain ⟨b0, e1, e2, _⟩ := hbor p hp
      exact rel.ds p.1 id b0 b g (fun e => hni p hp (e ▸ hid)) e1 h1 e2 h2 hg h3
  have hp : ∀ id i m, Ver H id = some m → t.gp id = some i → (∃ m', Ver (Hof ins) i = some m') ∧ ∀ g, σ id = .pointer (some g) → σc i = σ id := by
    intro id i m _ hg
    have hi := bU hg
    obtain ⟨b, e1, e2⟩ := hbs i id hi
    exact ⟨⟨(b.tr t 0).ver, ak (show (eu t bs)[i]? = _ by rw [gT, e1]; rfl)⟩, fun g _ => hσ i id hi⟩
  have ho : ∀ id ver i ver' m, Ver H id = some m → ver ≤ m → t.go id ver = some (i, ver') → ∃ m', Ver (Hof ins) i = some m' ∧ ver' ≤ m' ∧ (ver' = m' → ver = m ∧ σc i = σ id) := by
    intro id ver i ver' m hV _ hg
    have hg : (match idx ids id with | some j => (match Nat.beq ver ((bs.map Blk.ver).getD j 0) with | true => some (j, 0) | false => none) | none => none) = some (i, ver') := hg
    cases hi : idx ids id with
    | none => simp [hi] at hg
    | some j =>
      simp only [hi] at hg
      cases hb : Nat.beq ver ((bs.map Blk.ver).getD j 0) with
      | false => rw [hb] at hg; cases hg
      | true =>
        rw [hb] at hg
        simp only [Option.some.injEq, Prod.mk.injEq] at hg
        obtain ⟨rfl, rfl⟩ := hg
        have hi := bU hi
        obtain ⟨b, e1, e2⟩ := hbs j id hi
        have hbv := Nat.eq_of_beq_eq_true hb
        rw [List.getD_eq_getElem?_getD, List.getElem?_map, e1] at hbv
        simp only [Option.map_some, Option.getD_some] at hbv
        rw [ak e2] at hV
        injection hV with hV
        refine ⟨(b.tr t 0).ver, ak (show (eu t bs)[j]? = _ by rw [gT, e1]; rfl), Nat.zero_le _, fun _ => ⟨by omega, hσ j id hi⟩⟩
  refine ⟨⟨rfl, rfl, rfl, Nat.le_refl _, fun _ _ _ => rfl, fun j b' h => ?_, fun j j' b b' g hne h1 h2 l1 l2 k1 k2 => ?_, fun j b' g h1 h2 h3 => ?_, fun g h => ?_⟩, fun j hj => ?_, hin⟩
  · obtain ⟨id, b, e1, e2, e3, rfl⟩ := hin j b' h
    exact (rel.bl id b e2).tr hM hp ho (hσ j id e1)
  · obtain ⟨id, b0, e1, e2, e3, rfl⟩ := hin j b h1
    obtain ⟨id', b0', f1, f2, f3, rfl⟩ := hin j' b' h2
    rw [hσ j id e1] at k1
    rw [hσ j' id' f1] at k2
    refine rel.ds id id' b0 b0' g (fun e => hne ?_) e2 f2 (aF.1 l1) (aF.1 l2) k1 k2
    subst e
    have := bZ hnd e1
    rw [bZ hnd f1] at this
    injection this with this; exact this.symm
  · refine ⟨?_, .inr ⟨j, b', h1, h2, h3⟩, fun hm => ?_⟩
    · obtain ⟨id, b, e1, e2, e3, rfl⟩ := hin j b' h1
      rw [hσ j id e1] at h3
      exact (rel.new id b g e2 (aF.1 h2) h3).1
    · obtain ⟨id, hid, b, f1, f2, f3⟩ := hown g ⟨j, b', h1, h2, h3⟩
      exact hm.2.1 id hid b f1 f2 f3
  · rcases h.1 with h | ⟨id, b, h1, h2, h3⟩
    · exact Nat.lt_of_lt_of_le (rel.mxl g h) rel.size
    · exact (rel.new id b g h1 h2 h3).1
  · rw [dh]
    exact (hxs j hj (Mut Fc (Hof ins) σc) hM hMb).tr (fun _ h => h) hp ho
theorem mR (rel : RelH F H σ w) (hn : ∀ j, j < 64 → H (c + j) = none) (ids : List Nat) (hnd : ids.Nodup) (bs : List Blk) (hbl : bs.length = ids.length) (hbs : ∀ (j id : Nat), ids[j]? = some id → ∃ b : Blk, bs[j]? = some b ∧ H id = some b) (bor : List (Nat × Nat)) (hbor : gU H bor) (hni : ∀ p ∈ bor, p.1 ∉ ids)
    (outs : List Blk) (hol : ids.length ≤ outs.length) (h64 : outs.length - ids.length ≤ 64) (hov : ∀ (j : Nat) b, outs[j]? = some b → b.ver ≤ 1 ∧ (ids.length ≤ j → b.ver = 0)) (x : AV) (v : Value) (w' : World) (σ1 : Nat → Value) (fl : Bool) (hfl : fl = true → AV.flat x = true ∧ ∀ b ∈ outs, b.flat) (deads : List (Nat × Blk))
    (hdeads : (bor = [] ∧ deads = []) ∨ (fl = true ∧ deads = []) ∨ deads = bor.map fun p => (p.1, .dead (p.2 + 1)))
    (Fc : Fr) (σc : Nat → Value) (ins : List Blk) (hins : ∀ (j : Nat) b', Hof ins j = some b' → ∃ (id : Nat) (b : Blk), ids[j]? = some id ∧ H id = some b ∧ bs[j]? = some b ∧ (b'.live → b.live)) (hσc : ∀ (j id : Nat), ids[j]? = some id → σc j = σ id)
    (hw0 : Fc.w0 = w) (hm0 : ∀ g, Fc.m0 g ↔ Own (Hof ins) σc g) (hmx : Fc.mx = fun g => Mut F H σ g ∧ (∀ id ∈ ids, ∀ b, H id = some b → b.live → aA (σ id) ≠ some g) ∧ ∀ p ∈ bor, aA (σ p.1) ≠ some g)
    (relc : RelH Fc (Hof outs) σ1 w') (hv : VR w' (Mut Fc (Hof outs) σ1) σ1 (Ver (Hof outs)) x v) (hptr : ∀ (id : Nat) g, id < ids.length → σc id = .pointer (some g) → σ1 id = σc id)
    (hkeep : ∀ (id : Nat) b, id < ids.length → outs[id]? = some b → b.ver = 0 → b.isVar = false → σ1 id = σc id) :
    let t := nP ids bs c
    let H' := ups H (cK t ids bs outs ++ deads ++ number c ((outs.drop ids.length).map (Blk.tr t 0)))
    ∃ σ', Now F w H σ w' H' σ' ∧ VR w' (Mut F H' σ') σ' (Ver H') (x.tr t) v := by
  intro t H'
  have hc : ∀ j, j < 64 → (c + j) ∉ ids := fun j hj hm => by
    obtain ⟨i, hi⟩ := List.getElem?_of_mem hm
    obtain ⟨b, _, h2⟩ := hbs i _ hi
    rw [hn j hj] at h2; cases h2
  have hcb : ∀ j, j < 64 → ∀ p ∈ bor, p.1 ≠ c + j := fun j hj p hp e => by
    obtain ⟨b, h2, _⟩ := hbor p hp
    rw [e, hn j hj] at h2; cases h2
  have hbu : ∀ p ∈ bor, ∀ q ∈ bor, p.1 = q.1 → p.2 = q.2 := fun p hp q hq e => by
    obtain ⟨b1, h1, _, h2⟩ := hbor p hp
    obtain ⟨b2, h3, _, h4⟩ := hbor q hq
    rw [e, h3] at h1; injection h1 with h1; subst h1
    omega
  have hdk : ∀ q ∈ deads, ∃ p ∈ bor, q = (p.1, .dead (p.2 + 1)) := by
    intro q hq
    rcases hdeads with ⟨_, h⟩ | ⟨_, h⟩ | h
    · rw [h] at hq; cases hq
    · rw [h] at hq; cases hq
    · rw [h] at hq
      obtain ⟨p, hp, rfl⟩ := List.mem_map.1 hq
      exact ⟨p, hp, rfl⟩
  let N := outs.length - ids.length
  have Hin : ∀ (j id : Nat) (b b' : Blk), ids[j]? = some id → bs[j]? = some b → outs[j]? = some b' → H' id = some (back t b b') := by
    intro j id b b' h1 h2 h3
    have hid := List.mem_of_getElem? h1
    show ups H (cK t ids bs outs ++ deads ++ number c ((outs.drop ids.length).map (Blk.tr t 0))) id = _
    rw [aK, (dn _ c _).2 id ?_, aK, aL ?_, (iB t ids bs outs H hnd hbl hol).1 j id b b' h1 h2 h3]
    · intro q hq e
      obtain ⟨p, hp, rfl⟩ := hdk q hq
      exact hni p hp (e ▸ hid)
    · simp only [List.length_map, List.length_drop]
      rintro ⟨h4, h5⟩
      exact hc (id - c) (by omega) (by rw [show c + (id - c) = id by omega]; exact hid)
  have Hnew : ∀ (j : Nat) (b' : Blk), ids.length ≤ j → outs[j]? = some b' → H' (c + (j - ids.length)) = some (b'.tr t 0) := by
    intro j b' h1 h2
    have hjl : j < outs.length := (List.getElem?_eq_some_iff.1 h2).1
    show ups H (cK t ids bs outs ++ deads ++ number c ((outs.drop ids.length).map (Blk.tr t 0))) _ = _
    rw [aK, (dn _ c _).1 (j - ids.length) (by simp; omega)]
    rw [List.getElem?_map, List.getElem?_drop, show ids.length + (j - ids.length) = j by omega, h2]
    rfl
  have Hoff : ∀ id, id ∉ ids → ¬ (c ≤ id ∧ id < c + N) → (∀ q ∈ deads, q.1 ≠ id) → H' id = H id := by
    intro id h1 h2 h3
    show ups H (cK t ids bs outs ++ deads ++ number c ((outs.drop ids.length).map (Blk.tr t 0))) id = _
    rw [aK, (dn _ c _).2 id (by simp only [List.length_map, List.length_drop]; exact h2), aK, aL h3, (iB t ids bs outs H hnd hbl hol).2 id h1]
  have Hdead : ∀ q ∈ deads, ∃ p ∈ bor, q.1 = p.1 ∧ H' p.1 = some (.dead (p.2 + 1)) := by
    intro q hq
    obtain ⟨p, hp, rfl⟩ := hdk q hq
    refine ⟨p, hp, rfl, ?_⟩
    have hd : deads = bor.map fun p => (p.1, Blk.dead (p.2 + 1)) := by
      rcases hdeads with ⟨_, h⟩ | ⟨_, h⟩ | h
      · rw [h] at hq; cases hq
      · rw [h] at hq; cases hq
      · exact h
    show ups H (cK t ids bs outs ++ deads ++ number c ((outs.drop ids.length).map (Blk.tr t 0))) p.1 = _
    rw [aK, (dn _ c _).2 p.1 ?_, aK, hd, (mH bor _ hbu).1 p hp]
    simp only [List.length_map, List.length_drop]
    rintro ⟨h4, h5⟩
    exact hcb (p.1 - c) (by omega) p hp (by omega)
  let σ' : Nat → Value := fun id => match idx ids id with
    | some j => σ1 j
    | none => if c ≤ id ∧ id < c + N then σ1 (ids.length + (id - c)) else σ id
  have Sin : ∀ (j id : Nat), ids[j]? = some id → σ' id = σ1 j := fun j id h => by
    show (match idx ids id with | some j => σ1 j | none => _) = _
    rw [bZ hnd h]
  have Snew : ∀ j, ids.length ≤ j → j < outs.length → σ' (c + (j - ids.length)) = σ1 j := by
    intro j h1 h2
    have hni' : idx ids (c + (j - ids.length)) = none := by
      cases hi : idx ids (c + (j - ids.length)) with
      | none => rfl
      | some i => exact absurd (List.mem_of_getElem? (bU hi)) (hc _ (by omega))
    show (match idx ids (c + (j - ids.length)) with | some j => σ1 j | none => _) = _
    rw [hni']
    dsimp only
    rw [if_pos (by omega)]
    congr 1; omega
  have Soff : ∀ id, id ∉ ids → ¬ (c ≤ id ∧ id < c + N) → σ' id = σ id := by
    intro id h1 h2
    have hni' : idx ids id = none := by
      cases hi : idx ids id with
      | none => rfl
      | some i => exact absurd (List.mem_of_getElem? (bU hi)) h1
    show (match idx ids id with | some j => σ1 j | none => _) = _
    rw [hni']
    dsimp only
    rw [if_neg h2]
  let I : Nat → Prop := fun id => id ∈ ids ∨ (c ≤ id ∧ id < c + N) ∨ ∃ q ∈ deads, q.1 = id
  have place : ∀ id b', I id → H' id = some b' → b'.live → ∃ (j : Nat) (b0 : Blk) (ver : Nat), outs[j]? = some b0 ∧ b0.live ∧ b' = b0.tr t ver ∧ σ' id = σ1 j ∧ (ids[j]? = some id ∨ (ids.length ≤ j ∧ id = c + (j - ids.length))) := by
    rintro id b' (hid | hid | ⟨q, hq, rfl⟩) h1 h2
    · obtain ⟨j, hj⟩ := List.getElem?_of_mem hid
      obtain ⟨b, e1, e2⟩ := hbs j id hj
      have hjl : j < outs.length := Nat.lt_of_lt_of_le (List.getElem?_eq_some_iff.1 hj).1 hol
      rw [Hin j id b outs[j] hj e1 (List.getElem?_eq_getElem hjl)] at h1
      injection h1 with h1; subst h1
      obtain ⟨l1, ver, l2⟩ := lg h2
      exact ⟨j, outs[j], ver, List.getElem?_eq_getElem hjl, l1, l2, Sin j id hj, .inl hj⟩
    · have hjl : ids.length + (id - c) < outs.length := by omega
      have e : id = c + (ids.length + (id - c) - ids.length) := by omega
      have := Hnew (ids.length + (id - c)) _ (by omega) (List.getElem?_eq_getElem hjl)
      rw [← e, h1] at this
      injection this with this; subst this
      refine ⟨_, _, 0, List.getElem?_eq_getElem hjl, aF.1 h2, rfl, ?_, .inr ⟨by omega, e⟩⟩
      have := Snew (ids.length + (id - c)) (by omega) hjl
      rwa [← e] at this
    · obtain ⟨p, hp, e1, e2⟩ := Hdead q hq
      rw [e1, e2] at h1
      injection h1 with h1; subst h1
      exact h2.elim
  have m0own : ∀ g, Fc.m0 g → ∃ id ∈ ids, ∃ b, H id = some b ∧ b.live ∧ aA (σ id) = some g := by
    intro g hg
    obtain ⟨j, b', h1, h2, h3⟩ := (hm0 g).1 hg
    obtain ⟨id, b, e1, e2, e3, e4⟩ := hins j b' h1
    exact ⟨id, List.mem_of_getElem? e1, b, e2, e4 h2, by rw [← hσc j id e1]; exact h3⟩
  let M2 : Nat → Prop := fun g => Mut Fc (Hof outs) σ1 g ∨ (fl = true ∧ ∃ p ∈ bor, aA (σ p.1) = some g)
  have hM2 : ∀ g, Mut F H' σ' g → M2 g := by
    rintro g (h | ⟨id, b', h1, h2, h3⟩)
    · left; left
      rw [hmx]
      exact ⟨.inl h, fun id _ b e1 e2 e3 => (rel.new id b g e1 e2 e3).2.2 h, fun p hp e => by
        obtain ⟨b, e1, e2, _⟩ := hbor p hp
        exact (rel.new p.1 b g e1 e2 e).2.2 h⟩
    · by_cases hI : I id
      · obtain ⟨j, b0, ver, e1, e2, e3, e4, _⟩ := place id b' hI h1 h2
        left; right
        exact ⟨j, b0, e1, e2, by rw [← e4]; exact h3⟩
      · have q1 : id ∉ ids := fun h => hI (.inl h)
        have q2 : ¬ (c ≤ id ∧ id < c + N) := fun h => hI (.inr (.inl h))
        have q3 : ∀ q ∈ deads, q.1 ≠ id := fun q hq e => hI (.inr (.inr ⟨q, hq, e⟩))
        rw [Hoff id q1 q2 q3] at h1
        rw [Soff id q1 q2] at h3
        by_cases hb : ∃ p ∈ bor, aA (σ p.1) = some g
        · obtain ⟨p, hp, e⟩ := hb
          rcases hdeads with ⟨hh, _⟩ | ⟨hh, _⟩ | hh
          · rw [hh] at hp; cases hp
          · exact .inr ⟨hh, p, hp, e⟩
          · exfalso
            obtain ⟨b, f1, f2, _⟩ := hbor p hp
            have hne : p.1 ≠ id := fun e => q3 (p.1, .dead (p.2 + 1)) (by rw [hh]; exact List.mem_map.2 ⟨p, hp, rfl⟩) e
            exact rel.ds p.1 id b b' g hne f1 h1 f2 h2 e h3
        · left; left
          rw [hmx]
          exact ⟨.inr ⟨id, b', h1, h2, h3⟩, fun id0 hid0 b e1 e2 e3 => rel.ds id id0 b' b g (fun e => q1 (e ▸ hid0)) h1 e1 h2 e2 h3 e3, fun p hp e => hb ⟨p, hp, e⟩⟩
  have hvM : ∀ {y : AV} {u : Value}, (fl = true → y.flat = true) → VR w' (Mut Fc (Hof outs) σ1) σ1 (Ver (Hof outs)) y u → VR w' M2 σ1 (Ver (Hof outs)) y u := by
    intro y u hy h
    cases hq : fl with
    | true => exact h.flat (hy hq)
    | false => exact h.grow ⟨Nat.le_refl _, fun _ _ _ => rfl, fun g _ hg => hg.resolve_right (fun hh => by simp [hq] at hh), fun _ m h => ⟨m, h, Nat.le_refl _, fun _ => rfl⟩, fun _ _ _ _ _ => rfl⟩
  have hbM : ∀ {j : Nat} {b : Blk}, (fl = true → b.flat) → BR w' (Mut Fc (Hof outs) σ1) σ1 (Ver (Hof outs)) j b → BR w' M2 σ1 (Ver (Hof outs)) j b := by
    intro j b hb h
    cases hq : fl with
    | true => exact h.flat (hb hq)
    | false => exact h.grow ⟨Nat.le_refl _, fun _ _ _ => rfl, fun g _ hg => hg.resolve_right (fun hh => by simp [hq] at hh), fun _ m h => ⟨m, h, Nat.le_refl _, fun _ => rfl⟩, fun _ _ _ _ _ => rfl⟩ rfl (fun _ _ _ _ => rfl)
  have hgp : ∀ j i m, Ver (Hof outs) j = some m → t.gp j = some i → (∃ m', Ver H' i = some m') ∧ ∀ g, σ1 j = .pointer (some g) → σ' i = σ1 j := by
    intro j i m hV hg
    have hg : some (match ids[j]? with | some id => id | none => c + (j - ids.length)) = some i := hg
    obtain ⟨b', hb', _⟩ := Option.map_eq_some_iff.1 hV
    have hb' : outs[j]? = some b' := hb'
    have hjl : j < outs.length := (List.getElem?_eq_some_iff.1 hb').1
    cases hi : ids[j]? with
    | some id =>
      simp only [hi, Option.some.injEq] at hg
      subst hg
      obtain ⟨b, e1, e2⟩ := hbs j id hi
      exact ⟨⟨_, ak (Hin j id b b' hi e1 hb')⟩, fun g _ => Sin j id hi⟩
    | none =>
      simp only [hi, Option.some.injEq] at hg
      subst hg
      have hle : ids.length ≤ j := List.getElem?_eq_none_iff.1 hi
      exact ⟨⟨_, ak (Hnew j b' hle hb')⟩, fun g _ => Snew j hle hjl⟩
  have hgo : ∀ j ver i ver' m, Ver (Hof outs) j = some m → ver ≤ m → t.go j ver = some (i, ver') → ∃ m', Ver H' i = some m' ∧ ver' ≤ m' ∧ (ver' = m' → ver = m ∧ σ' i = σ1 j) := by
    intro j ver i ver' m hV hvm hg
    obtain ⟨b', hb', hbv⟩ := Option.map_eq_some_iff.1 hV
    have hb' : outs[j]? = some b' := hb'
    have hov' := hov j b' hb'
    have hjl : j < outs.length := (List.getElem?_eq_some_iff.1 hb').1
    have hg : (match ids[j]? with | some id => (match bs[j]? with | some b => (match b.isVar with | true => none | false => some (id, b.ver + ver)) | none => none) | none => some (c + (j - ids.length), 0)) = some (i, ver') := hg
    cases hi : ids[j]? with
    | some id =>
      obtain ⟨b, e1, e2⟩ := hbs j id hi
      simp only [hi, e1] at hg
      cases hbvar : b.isVar with
      | true => simp [hbvar] at hg
      | false =>
        simp only [hbvar, Option.some.injEq, Prod.mk.injEq] at hg
        obtain ⟨rfl, rfl⟩ := hg
        refine ⟨_, ak (Hin j id b b' hi e1 hb'), ?_, fun e => ⟨?_, Sin j id hi⟩⟩
        · rcases iG t b b' with ⟨_, _, h⟩ | h | h
          · omega
          · omega
          · rw [hbvar] at h; cases h.1
        · rcases iG t b b' with ⟨_, _, h⟩ | h | h
          · omega
          · have : b'.ver = 0 ∨ b'.isVar = false := by cases b' <;> first | exact .inl rfl | exact .inr rfl
            rcases this with h0 | h0
            · omega
            · have h2 : (back t b b').ver = b.ver + b'.ver := by unfold back; rw [hbvar, h0]; show (b'.tr t _).ver = _; rw [eU, h0]; rfl
              omega
          · rw [hbvar] at h; cases h.1
    | none =>
      simp only [hi, Option.some.injEq, Prod.mk.injEq] at hg
      obtain ⟨rfl, rfl⟩ := hg
      have hle : ids.length ≤ j := List.getElem?_eq_none_iff.1 hi
      have := hov'.2 hle
      exact ⟨_, ak (Hnew j b' hle hb'), Nat.zero_le _, fun _ => ⟨by omega, Snew j hle hjl⟩⟩
  have main := rel.chgs (H' := H') (σ' := σ') (w' := w') I
    (fun id hI => Hoff id (fun h => hI (.inl h)) (fun h => hI (.inr (.inl h))) (fun q hq e => hI (.inr (.inr ⟨q, hq, e⟩))))
    (fun id hI => Soff id (fun h => hI (.inl h)) (fun h => hI (.inr (.inl h))))
    (by rw [relc.os, hw0]) (by rw [relc.tape, hw0]) (by rw [relc.output, hw0]) (by have := relc.size; rw [hw0] at this; exact this)
    (fun g hg hk => by
      have := relc.old g (by rw [hw0]; exact hg) (fun hm => by
        obtain ⟨id, hid, b, e1, e2, e3⟩ := m0own g hm
        exact hk id b (.inl hid) e1 e2 e3)
      rw [hw0] at this; exact this)
    (fun id b' g hI h1 h2 h3 => by
      obtain ⟨j, b0, ver, e1, e2, e3, e4, _⟩ := place id b' hI h1 h2
      rw [e4] at h3
      obtain ⟨f1, f2, _⟩ := relc.new j b0 g e1 e2 h3
      rw [hw0] at f2
      refine ⟨f1, f2.imp_right fun hm => ?_⟩
      obtain ⟨id0, hid0, b, q1, q2, q3⟩ := m0own g hm
      exact ⟨id0, b, .inl hid0, q1, q2, q3⟩)
    (fun id id' b b' g hne hI hI' h1 h2 l1 l2 k1 k2 => by
      obtain ⟨j, b0, ver, e1, e2, e3, e4, e5⟩ := place id b hI h1 l1
      obtain ⟨j', b0', ver', f1, f2, f3, f4, f5⟩ := place id' b' hI' h2 l2
      rw [e4] at k1
      rw [f4] at k2
      refine relc.ds j j' b0 b0' g (fun e => hne ?_) e1 f1 e2 f2 k1 k2
      subst e
      rcases e5 with e5 | ⟨e5, e6⟩ <;> rcases f5 with f5 | ⟨f5, f6⟩
      · rw [e5] at f5; injection f5
      · have := (List.getElem?_eq_some_iff.1 e5).1; omega
      · have := (List.getElem?_eq_some_iff.1 f5).1; omega
      · rw [e6, f6])
    (fun id b hI h1 => by
      rcases hI with hid | hid | ⟨q, hq, rfl⟩
      · obtain ⟨j, hj⟩ := List.getElem?_of_mem hid
        obtain ⟨b2, e1, e2⟩ := hbs j id hj
        rw [h1] at e2; injection e2 with e2; subst e2
        have hjl0 : j < ids.length := (List.getElem?_eq_some_iff.1 hj).1
        have hjl : j < outs.length := Nat.lt_of_lt_of_le hjl0 hol
        have hptr' : ∀ g, σ id = .pointer (some g) → σ' id = σ id := fun g hg => by
          rw [Sin j id hj, hptr j g hjl0 (by rw [hσc j id hj]; exact hg), hσc j id hj]
        refine ⟨_, Hin j id b outs[j] hj e1 (List.getElem?_eq_getElem hjl), ?_⟩
        rcases iG t b outs[j] with ⟨k1, k2, h⟩ | h | ⟨q1, q2, q3, q4, q5⟩
        · exact ⟨by omega, fun e => by rw [Sin j id hj, hkeep j outs[j] hjl0 (List.getElem?_eq_getElem hjl) (by omega) k2, hσc j id hj], hptr'⟩
        · exact ⟨by omega, fun e => by omega, hptr'⟩
        · refine ⟨by omega, fun _ => ?_, hptr'⟩
          cases b with
          | var cells =>
            obtain ⟨g, _, _, k1, _⟩ := rel.bl id _ h1
            exact hptr' _ k1
          | _ => simp [Blk.isVar] at q1
      · have := hn (id - c) (by omega)
        rw [show c + (id - c) = id by omega, h1] at this; cases this
      · obtain ⟨p, hp, e1, e2⟩ := Hdead q hq
        obtain ⟨b0, f1, f2, f3⟩ := hbor p hp
        rw [e1, f1] at h1
        injection h1 with h1; subst h1
        have hs : σ' q.1 = σ q.1 := by
          rw [e1]
          refine Soff p.1 (hni p hp) ?_
          rintro ⟨h4, h5⟩
          exact hcb (p.1 - c) (by omega) p hp (by omega)
        exact ⟨_, by rw [e1]; exact e2, (by show b0.ver ≤ p.2 + 1; omega), fun _ => hs, fun _ _ => hs⟩)
    (fun _ id b' hI h1 => by
      by_cases hl : b'.live
      · obtain ⟨j, b0, ver, e1, e2, e3, e4, _⟩ := place id b' hI h1 hl
        subst e3
        exact (hbM (fun hq => (hfl hq).2 b0 (List.mem_of_getElem? e1)) (relc.bl j b0 e1)).tr hM2 hgp hgo e4
      · cases b' with
        | dead v => trivial
        | _ => exact absurd trivial hl)
  exact ⟨σ', main, (hvM (fun hq => (hfl hq).1) hv).tr hM2 hgp hgo⟩
end
end Go.Proofs.YtimkpfnbkclclaaGreat.Ab
namespace Go.Proofs.YtimkpfnbkclclaaGreat.Ab
open Go
section
variable {P : Program} {F : Fr} {H : Nat → Option Blk} {σ : Nat → Value} {o : Oper} {a : Act} {w : World} {c : Nat}
theorem mh {w : World} {M : Nat → Prop} {σ : Nat → Value} {V : Nat → Option Nat} (l : List PreC) (i : Nat) {x : AV} {v : Value} (h : VR w M σ V x v) : VR w M σ V (retF l i x) v := by
  cases x with
  | slc sz n f =>
    cases sz with
    | succ sz => exact h
    | zero =>
      cases n with
      | succ n => exact h
      | zero =>
        unfold retF
        dsimp only
        cases retP l i with
        | none => exact h
        | some p =>
          have q := h.slc_inv
          cases q with
          | slc0 _ _ _ hv => exact .pure (.slc0 _ _ _ hv)
          | slc _ _ _ _ _ _ _ hn => exact absurd hn (Nat.lt_irrefl 0)
  | _ => exact h
theorem j3 (l : List PreC) : ∀ (i : Nat) (xs : List AV), (retL l i xs).length = xs.length := by
  intro i xs
  induction xs generalizing i with
  | nil => rfl
  | cons x xs ih => show (retL l (i + 1) xs).length + 1 = _; rw [ih]; rfl
theorem nM (l : List PreC) : ∀ (i j : Nat) (xs : List AV), j < xs.length → (retL l i xs).getD j .undef = retF l (i + j) (xs.getD j .undef) := by
  intro i j xs
  induction xs generalizing i j with
  | nil => intro h; exact absurd h (Nat.not_lt_zero _)
  | cons x xs ih =>
    intro h
    cases j with
    | zero => rfl
    | succ j =>
      show (retL l (i + 1) xs).getD j .undef = retF l (i + (j + 1)) (xs.getD j .undef)
      rw [ih (i + 1) j (by simpa using h), show i + 1 + j = i + (j + 1) by omega]
theorem oF {w : World} {M : Nat → Prop} {σ : Nat → Value} {V : Nat → Option Nat} (l : List PreC) (i : Nat) {x : AV} {v : Value} (h : VR w M σ V x v) : VR w M σ V (ret1 l i x) v := by
  cases x with
  | agg cs =>
    cases h with
    | pure h => cases h
    | agg _ vs hl h =>
      refine .agg _ vs (by rw [j3]; exact hl) fun j hj => ?_
      rw [j3] at hj
      rw [nM l _ _ _ hj]
      exact mh l _ (h j hj)
  | _ => exact mh l i h
theorem nK (l : List PreC) : ∀ (i : Nat) (xs : List AV), (retA l i xs).length = xs.length := by
  intro i xs
  induction xs generalizing i with
  | nil => rfl
  | cons x xs ih => show (retA l (i + 64) xs).length + 1 = _; rw [ih]; rfl
theorem nJ (l : List PreC) : ∀ (i j : Nat) (xs : List AV), j < xs.length → ∃ k, (retA l i xs).getD j .undef = ret1 l k (xs.getD j .undef) := by
  intro i j xs
  induction xs generalizing i j with
  | nil => intro h; exact absurd h (Nat.not_lt_zero _)
  | cons x xs ih =>
    intro h
    cases j with
    | zero => exact ⟨i, rfl⟩
    | succ j => exact ih (i + 64) j (by simpa using h)
theorem nL (l : List PreC) (xs : List AV) : (retC l xs).length = xs.length := by
  cases l with
  | nil => rfl
  | cons e l => exact nK _ _ _
theorem oG {w : World} {M : Nat → Prop} {σ : Nat → Value} {V : Nat → Option Nat} (l : List PreC) {xs : List AV} {j : Nat} {v : Value} (hj : j < xs.length) (h : VR w M σ V (xs.getD j .undef) v) : VR w M σ V ((retC l xs).getD j .undef) v := by
  cases l with
  | nil => exact h
  | cons e l =>
    obtain ⟨k, e1⟩ := nJ (e :: l) 0 j xs hj
    show VR w M σ V ((retA (e :: l) 0 xs).getD j .undef) v
    rw [e1]
    exact oF _ _ h
theorem oz {E : Env} {g : FuncId} {xs : List AV} {vs : Array Value} (hP : POK P) (hfs : ∀ f, aI P f (E.fs f)) (rel : RelH F H σ w) (hn : ∀ j, j < 64 → H (c + j) = none)
    (hrun : ∀ fn, P.funcs[g]? = some fn → fn.body.isSome = true → fn.name ≠ "runtime.NumGoroutine" → (execOp a.eval o).run P w = .ok (.enter g vs) w)
    (hl : vs.size = xs.length) (hx : ∀ j, j < xs.length → VR w (Mut F H σ) σ (Ver H) (xs.getD j .undef) (vs.getD j Go.undef)) :
    Good P F H σ o a w c (mO E g xs c) := by
  unfold mO
  dsimp only
  generalize E.live (2000000 + g) = mt
  refine Good.aX _ _ fun bs0 _ _ => ?_
  refine Good.aX _ _ fun bs1 _ _ => ?_
  refine Good.aX _ _ fun bs2 _ _ => ?_
  have hnd : (fq (fq (fq ((match mt with | some p => aN p.1 xs ++ AV.ptrsL xs | none => AV.ptrsL xs).foldl aW []) bs0) bs1) bs2).Nodup := aV _ _ (aV _ _ (aV _ _ (aV _ _ List.nodup_nil)))
  generalize fq (fq (fq ((match mt with | some p => aN p.1 xs ++ AV.ptrsL xs | none => AV.ptrsL xs).foldl aW []) bs0) bs1) bs2 = ids at hnd
  refine Good.aX _ _ fun bs hbl hbs => ?_
  have eg : ∀ j, vs.toList.getD j Go.undef = vs.getD j Go.undef := fun j => by simp [List.getD_eq_getElem?_getD, Array.getD_eq_getD_getElem?]
  have both : ∀ k : List AV → List (Nat × Nat) → LM EffG, (∀ xs' u, xs'.length = xs.length → gU H u → (∀ j, j < xs.length → Lent F H σ w u (xs'.getD j .undef) (vs.toList.getD j Go.undef)) → Good P F H σ o a w c (k xs' u)) → Good P F H σ o a w c ((match mt with | some p => dx p.1 xs | none => gX xs) k) := by
    intro k hk
    cases mt with
    | some p => exact Good.dx rel p.1 xs vs.toList (by simpa using hl) (fun j hj => by rw [eg]; exact hx j hj) _ hk
    | none => exact Good.gX rel xs vs.toList (by simpa using hl) (fun j hj => by rw [eg]; exact hx j hj) _ hk
  refine both _ fun xs0 bor b00 b1 b20 => ?_
  obtain ⟨xs', hxs, b0, b2⟩ : ∃ xs', retC (E.pre (8000000 + g)) xs0 = xs' ∧ xs'.length = xs.length ∧ ∀ j, j < xs.length → Lent F H σ w bor (xs'.getD j .undef) (vs.toList.getD j Go.undef) :=
    ⟨_, rfl, (nL _ _).trans b00, fun j hj => fun M' hM hn => oG _ (by omega) (b20 j hj M' hM hn)⟩
  rw [hxs]
  cases hq : ng ids bor with
  | false => exact .fail
  | true =>
    dsimp only
    have hni : ∀ p ∈ bor, p.1 ∉ ids := by
      intro p hp hm
      have := bf.1 hq p hp
      obtain ⟨i, hi⟩ := lX hm
      rw [hi] at this
      cases this
    cases hf : E.fs g (AV.trL (trIn ids (bs.map Blk.ver)) xs') (eu (trIn ids (bs.map Blk.ver)) bs) with
    | none => exact .fail
    | some r =>
      dsimp only
      refine .ret64 fun x _ hg h64 => ?_
      obtain ⟨⟨fn, f1, f2⟩, hsem⟩ := hfs g _ _ r x hf hg
      obtain ⟨c1, c2, c3⟩ := nZ (us := vs.toList) rel ids hnd bs hbl hbs bor b1 hni xs' (by rw [b0]; exact b2)
      have hcall := hsem _ _ w vs rfl (fun _ => Iff.rfl) c1 (by rw [aZ, b0]; exact hl) (fun j hj => by
        rw [aZ] at hj
        have := c2 j hj
        rwa [eg] at this)
      intro K Q hK
      unfold Oper.wp
      rw [hrun fn f1 f2 (hP.names g fn f1 f2)]
      show Calls P g vs w _
      refine hcall.mono fun e w' he => ?_
      obtain ⟨v, σ1, rfl, relc, hv, hol, hov, hptr, hkp⟩ := he
      rw [dW, hbl] at hol
      rw [dW, hbl] at hptr
      rw [dW, hbl] at hov
      rw [dW, hbl] at hkp
      have hdl : jw bor (r.fl x) = [] ∧ (bor = [] ∨ r.fl x = true) ∨ jw bor (r.fl x) = bor.map fun p => (p.1, Blk.dead (p.2 + 1)) := by
        cases hb : bor with
        | nil => exact .inl ⟨rfl, .inl rfl⟩
        | cons p ps =>
          cases hr : r.fl x with
          | true => exact .inl ⟨rfl, .inr rfl⟩
          | false => exact .inr rfl
      obtain ⟨σ', n1, n2⟩ := mR rel hn ids hnd bs hbl hbs bor b1 hni (r.outs x) hol (by simpa using h64) hov (r.av x) v w' σ1 (r.fl x) (r.hfl x) _
        (by rcases hdl with ⟨h1, h2 | h2⟩ | h1
            · exact .inl ⟨h2, h1⟩
            · exact .inr (.inl ⟨h2, h1⟩)
            · exact .inr (.inr h1))
        _ _ _ (fun j b' h => by
          obtain ⟨id, b, e1, e2, e3, e4⟩ := c3 j b' h
          exact ⟨id, b, e1, e2, e3, fun h => by rw [e4] at h; exact aF.1 h⟩) (fun j id h => by show σ (ids.getD j 0) = _; rw [List.getD_eq_getElem?_getD, h]; rfl) rfl (fun _ => Iff.rfl) rfl relc hv hptr hkp
      exact hK v w' σ' n1.1 n2 n1.2
theorem gu (l : Option (List Nat × List Nat)) : ∀ (xs : List AV) (i : Nat), (bX l i xs).length = xs.length := by
  intro xs
  induction xs with
  | nil => intro i; rfl
  | cons x xs ih => intro i; simp only [bX, List.length_cons, ih]
theorem gq {M : Nat → Prop} {V : Nat → Option Nat} {x : AV} {u : Value} (h : VR w M σ V x u) : VR w M σ V (fZ x) u := by
  cases x with
  | own id ver =>
    cases h with
    | pure h => cases h
    | own id ver m v h1 _ _ _ => exact .pure (.any1 _ h1)
  | _ => exact h
theorem jE {M : Nat → Prop} {V : Nat → Option Nat} {x : AV} {u : Value} (h : VR w M σ V x u) : VR w M σ V (lS x) u := by
  cases x with
  | agg cs =>
    obtain ⟨us, rfl, u2, u3⟩ := h.agg_inv
    refine .agg _ us (by rw [List.length_map]; exact u2) fun j hj => ?_
    rw [List.length_map] at hj
    have e : (cs.map fZ).getD j .undef = fZ (cs.getD j .undef) := by
      simp [List.getD_eq_getElem?_getD, hj]
    rw [e]
    exact gq (u3 j hj)
  | own id ver => exact gq h
  | _ => exact h
theorem jD {M : Nat → Prop} {V : Nat → Option Nat} (l : Option (List Nat × List Nat)) : ∀ (xs : List AV) (i : Nat) (u : Nat → Value), (∀ j, j < xs.length → VR w M σ V (xs.getD j .undef) (u j)) → ∀ j, j < xs.length → VR w M σ V ((bX l i xs).getD j .undef) (u j) := by
  intro xs
  induction xs with
  | nil => intro i u _ j hj; simp at hj
  | cons x xs ih =>
    intro i u h j hj
    cases j with
    | zero =>
      have h0 := h 0 (by simp)
      simp only [bX, List.getD_cons_zero] at h0 ⊢
      split
      · exact h0
      · split
        · exact jE h0
        · exact h0
    | succ j =>
      have := ih (i + 1) (fun j => u (j + 1)) (fun j hj => by simpa using h (j + 1) (by simpa using hj)) j (by simpa using hj)
      simpa [bX] using this
theorem nA {E : Env} {g : FuncId} {xs : List AV} {vs : Array Value} (l : Option (List Nat × List Nat)) (hP : POK P) (hfs : ∀ f, aI P f (E.fs f)) (rel : RelH F H σ w) (hn : ∀ j, j < 64 → H (c + j) = none)
    (hrun : ∀ fn, P.funcs[g]? = some fn → fn.body.isSome = true → fn.name ≠ "runtime.NumGoroutine" → (execOp a.eval o).run P w = .ok (.enter g vs) w)
    (hl : vs.size = xs.length) (hx : ∀ j, j < xs.length → VR w (Mut F H σ) σ (Ver H) (xs.getD j .undef) (vs.getD j Go.undef)) :
    Good P F H σ o a w c (mO E g (bX l 0 xs) c) :=
  oz hP hfs rel hn hrun (by rw [gu]; exact hl) (fun j hj => jD l xs 0 (fun j => vs.getD j Go.undef) hx j (by rw [gu] at hj; exact hj))
theorem kF {ρ : Operand → Value} {cl : Call} {f : Operand} {type : TypeId} {g : FuncId} {caps : Array Value} (hc : cl.callee = .value f) (hf : ρ f = .func (.func g) #[] caps) {fn : Func} (f1 : P.funcs[g]? = some fn) (f2 : fn.body.isSome = true) (f3 : fn.name ≠ "runtime.NumGoroutine") :
    (do let d ← resolve ρ cl type; invoke d.target d.args : Go.Sem Next).run P w = .ok (.enter g (cl.args.map ρ ++ caps)) w := by
  have f4 : fn.body.isNone = false := by cases h : fn.body <;> simp [h] at f2 ⊢
  have f5 : (fn.name == "runtime.NumGoroutine") = false := by simpa using f3
  unfold resolve
  simp only [hc, hf, Deferred.ofValue, Sem.run_bind, Sem.run_pure, Result.andThen_ok, invoke, callFunc, run_program, f1, f5, f4, Bool.false_eq_true, if_false]
  simp
theorem pE {types : Array TypeId} {type : TypeId} {ti : TI} {t e : TypeId} {x : AV} {v : Value} (ht0 : types[0]? = some t) (ht : ttOf P t = some ti) (hk : ti.kind = .slice e) (rel : RelH F H σ w) (hx : VR w (Mut F H σ) σ (Ver H) x v)
    (hrun : ∀ u, (Builtin.len_ types type #[v]).run P w = .ok u w → (execOp a.eval o).run P w = .ok (.value u) w) (hs : ∀ s, x ≠ .str s) :
    Good P F H σ o a w c (nV x fun n => .ret (.val (.int .i64 n))) := by
  obtain ⟨i, d, z, h1, h2, h3, h4, _⟩ := ay ht
  have hd : d = .slice e := d9 (by rw [h4] at hk; exact hk)
  subst hd
  have key : ∀ (a' : Option Addr) (n cap : Nat), v = .slice a' n cap → Good P F H σ o a w c (.ret (.val (.int .i64 n))) := by
    intro a' n cap hv
    refine .val rel (.int .i64 n) (hrun _ ?_) (.pure (.int _ _))
    rw [hv]
    simp [Builtin.len_, ht0, run_underlying h2, goInt]
  unfold nV
  cases x with
  | slc sz n f =>
    obtain ⟨a', cap, hv, _⟩ := hx.slc_inv.slc_len
    exact key a' n cap hv
  | str s => exact absurd rfl (hs s)
  | own id ver =>
    refine .look fun b hb => ?_
    cases b with
    | row ver' sz n e' f =>
      cases hq : Nat.beq ver ver' with
      | false => simp only [hq]; exact .fail
      | true =>
        obtain rfl := Nat.eq_of_beq_eq_true hq
        simp only [hq]
        have hval := hx.own_inv (ak hb)
        obtain ⟨_, _, xs, g1, _, _⟩ := (rel.bl id _ hb).row_cells
        rcases g1.2 with ⟨h, hn⟩ | ⟨g, cap, cur, h, _⟩
        · rw [hn]; exact key _ 0 0 (by rw [hval, h])
        · exact key _ n cap (by rw [hval, h])
    | nilrow ver' =>
      cases hq : Nat.beq ver ver' with
      | false => simp only [hq]; exact .fail
      | true =>
        obtain rfl := Nat.eq_of_beq_eq_true hq
        simp only [hq]
        have hval := hx.own_inv (ak hb)
        have hnil : σ id = .slice none 0 0 := rel.bl id _ hb
        exact key _ 0 0 (by rw [hval, hnil])
    | lrow ver' sz n e' cells =>
      cases hq : Nat.beq ver ver' with
      | false => simp only [hq]; exact .fail
      | true =>
        obtain rfl := Nat.eq_of_beq_eq_true hq
        simp only [hq]
        have hval := hx.own_inv (ak hb)
        obtain ⟨_, _, _, g, cap, _, _, _, k2, _⟩ := (rel.bl id _ hb).lrow_cells
        exact key _ n cap (by rw [hval, k2])
    | _ => exact .fail
  | _ => exact .fail
theorem pF {op : BinOp} {T Ty : TypeId} {x y : Operand} (ho : o.op = .binOp op T x y Ty) (hn : aM y = true) (rel : RelH F H σ w) {p : AV} (hx : VR w (Mut F H σ) σ (Ver H) p (a.eval x)) :
    Good P F H σ o a w c (anil (ttOf P) op T p) := by
  have hy : a.eval y = .slice none 0 0 := by
    unfold aM at hn
    split at hn
    · rfl
    · cases hn
  unfold anil
  split
  · rename_i e b hk hb
    obtain ⟨ti, ht, hq⟩ := Option.map_eq_some_iff.1 hk
    obtain ⟨i, d, z, h1, h2, h3, h4, _⟩ := ay ht
    have hd : d = .slice e := d9 (by rw [h4] at hq; exact hq)
    subst hd
    have hrun : ∀ (a' : Option Addr) (n cap : Nat), a.eval x = .slice a' n cap → (execOp a.eval o).run P w = .ok (.value (.bool (match b with | true => a'.isNone | false => !a'.isNone))) w := by
      intro a' n cap hv
      refine bV (s := do eqGuard op T x y (a.eval x) (a.eval y); binOp op T (a.eval x) (a.eval y)) (by simp [execOp, ho]) ?_
      rw [hv, hy]
      have hg : ∀ op, (eqGuard op T x y (.slice a' n cap) (.slice none 0 0)).run P w = .ok () w := by intro op; unfold eqGuard; cases op <;> rfl
      have heq : (Op.equal T (.slice a' n cap) (.slice none 0 0)).run P w = .ok a'.isNone w := by
        unfold Op.equal Op.maxDepth
        rw [show (10000 : Nat) = 9999 + 1 from rfl]
        unfold Op.equalIn
        cases a' <;> simp [run_underlying h2]
      cases op with
      | eql => obtain rfl : true = b := Option.some.inj hb; simp [hg, binOp, heq]
      | neq => obtain rfl : false = b := Option.some.inj hb; simp [hg, binOp, heq]
      | _ => cases hb
    have full : ∀ (g : Addr) (n cap : Nat), a.eval x = .slice (some g) n cap → (execOp a.eval o).run P w = .ok (.value (.bool !b)) w := fun g n cap hv => by
      rw [hrun _ n cap hv]
      cases b <;> rfl
    split
    · rename_i sz n f
      refine .when rel fun hq => ?_
      have hq := of_decide_eq_true hq
      have hp := hx.slc_inv
      generalize hv : a.eval x = v at hp
      cases hp with
      | slc0 sz f v h => omega
      | slc sz n f g off cap us hn hc hm hl hg hp => exact ⟨_, full _ n cap hv, .pure (.bool _)⟩
    · rename_i id ver
      refine .look fun b' hb' => ?_
      cases b' with
      | row ver' sz n e' f =>
        cases hq : Nat.beq ver ver' with
        | false => simp only [hq]; exact .fail
        | true =>
          obtain rfl := Nat.eq_of_beq_eq_true hq
          simp only [hq]
          have hval := hx.own_inv (ak hb')
          obtain ⟨_, _, xs, _, _, g4⟩ := (rel.bl id _ hb').row_cells
          refine .when rel fun hq => ?_
          obtain ⟨g, cap, _, e1, _⟩ := g4 (of_decide_eq_true hq)
          exact ⟨_, full _ n cap (by rw [hval, e1]), .pure (.bool _)⟩
      | nilrow ver' =>
        cases hq : Nat.beq ver ver' with
        | false => simp only [hq]; exact .fail
        | true =>
          obtain rfl := Nat.eq_of_beq_eq_true hq
          simp only [hq]
          have hval := hx.own_inv (ak hb')
          have hnil : σ id = .slice none 0 0 := rel.bl id _ hb'
          refine .val rel (.bool b) ?_ (.pure (.bool _))
          rw [hrun none 0 0 (by rw [hval, hnil])]
          cases b <;> rfl
      | _ => exact .fail
    · exact .fail
  · exact .fail
theorem oC {T e : TypeId} {l m : Operand} {ei : TI} {kl km : IntKind} {n q : Int} (ho : o.op = .makeSlice T l m) (ht : aO (ttOf P) T = some (e, ei)) (rel : RelH F H σ w) (hl : a.eval l = .int kl n) (hm : a.eval m = .int km q) (hn : ∀ j, j < 64 → H (c + j) = none) :
    Good P F H σ o a w c (.ret ⟨decide (0 ≤ n ∧ n ≤ q ∧ q * ei.bytes ≤ 140737488355328 ∧ q ≤ 1099511627776), Unit, some (), fun _ => ⟨.own c 0, [], [.row 0 ei.size n.toNat e fun _ => aC ei.zero]⟩⟩) := by
  obtain ⟨hut, he, hsz0⟩ := bG ht
  obtain ⟨i, d, z, h1, h2, h3, h4, h5, h6⟩ := ay he
  have hs : ei.size = i.size := by rw [h4]
  have hby : ei.bytes = i.bytes := by rw [h4]
  have hz : ei.zero = z.cells.toList.map zcOf := by rw [h4]
  have hzl : (aC ei.zero).length = ei.size := by rw [eB, hz, hs, List.length_map, Array.length_toList, h6]
  have hc0 : H c = none := by simpa using hn 0 (by omega)
  have hcs : z.cells.size = ei.size := by rw [h6, hs]
  refine .ret fun _ hr _ => ?_
  obtain ⟨q1, q2, q3, q4⟩ := of_decide_eq_true hr
  have hr2 := run_make (P := P) w T e i z hut h1 h3 kl km n q q1 q2 (by rw [← hby, Int.mul_comm]; omega) (by omega)
  have zc : ∀ j, j < q.toNat * ei.size → (madeCells z.cells (q.toNat * i.size)).getD j Go.undef = z.cells.getD (j % ei.size) Go.undef := by
    intro j hj
    have hmm : j % ei.size < z.cells.size := by rw [hcs]; exact Nat.mod_lt _ hsz0
    unfold madeCells
    rw [Array.getD_eq_getD_getElem?]
    simp only [Array.getElem?_map, hcs]
    rw [Array.getElem?_eq_getElem (by rw [← hs]; simpa using hj)]
    simp only [Array.getElem_range, Option.map_some, Option.getD_some]
    rw [getElem!_pos z.cells _ hmm, Array.getD_eq_getD_getElem?, Array.getElem?_eq_getElem hmm]
    rfl
  have n1 := rel.addRow c hc0 ei.size n.toNat q.toNat e (fun _ => aC ei.zero) (madeCells z.cells (q.toNat * i.size)) hsz0 (by omega) (by unfold maxLen; omega) (by rw [size_madeCells, hs]) (fun k _ => hzl) (fun k j hk hj => by
    have hlt := dD (n := q.toNat) (show k < q.toNat by omega) hj
    have e2 : (k * ei.size + j) % ei.size = j := by rw [Nat.mul_comm, Nat.mul_add_mod, Nat.mod_eq_of_lt hj]
    rw [zc _ hlt, e2]
    have hm : j < z.cells.size := by rw [hcs]; exact hj
    have e : z.cells.getD j Go.undef = z.cells.toList.getD j Go.undef := by simp [List.getD_eq_getElem?_getD, Array.getD_eq_getD_getElem?]
    rw [e]
    refine ⟨by rw [hz]; exact eF z.cells.toList _ (by simpa using hm), h5 _ ?_⟩
    rw [List.getD_eq_getElem?_getD, List.getElem?_eq_getElem (by simpa using hm)]
    exact List.getElem_mem _)
  exact .step (H' := upd H c (some (.row 0 ei.size n.toNat e fun _ => aC ei.zero))) (.slice (some ⟨w.heap.size, 0, none⟩) n.toNat q.toNat) _ _ rfl (bV (s := Instr.makeSlice T (a.eval l) (a.eval m)) (by simp [execOp, ho]) (by rw [hl, hm]; exact hr2)) n1 (.own c 0 0 _ rfl (by simp [Ver, Blk.ver]) (Nat.le_refl _) (fun _ => (upd_same _ _ _).symm))
theorem jl {T e : TypeId} {l m : Operand} {ei : TI} {kl km : IntKind} {n q : Int} (ho : o.op = .makeSlice T l m) (ht : aO (ttOf P) T = some (e, ei)) (rel : RelH F H σ w) (hl : a.eval l = .int kl n) (hm : a.eval m = .int km q) :
    Good P F H σ o a w c (.ret (.when (decide (0 ≤ n ∧ n ≤ q ∧ q * ei.bytes ≤ 140737488355328 ∧ q ≤ 1099511627776)) (.slc ei.size n.toNat fun _ => aC ei.zero))) := by
  obtain ⟨hut, he, hsz0⟩ := bG ht
  obtain ⟨i, d, z, h1, h2, h3, h4, h5, h6⟩ := ay he
  have hs : ei.size = i.size := by rw [h4]
  have hby : ei.bytes = i.bytes := by rw [h4]
  have hz : ei.zero = z.cells.toList.map zcOf := by rw [h4]
  have hzl : (aC ei.zero).length = ei.size := by rw [eB, hz, hs, List.length_map, Array.length_toList, h6]
  have hcs : z.cells.size = ei.size := by rw [h6, hs]
  refine .ret fun _ hr _ => ?_
  obtain ⟨q1, q2, q3, q4⟩ := of_decide_eq_true hr
  show dX P F H σ o a w c ⟨_, [], []⟩
  have hr2 := run_make (P := P) w T e i z hut h1 h3 kl km n q q1 q2 (by rw [← hby, Int.mul_comm]; omega) (by omega)
  have zc : ∀ j, j < q.toNat * ei.size → (madeCells z.cells (q.toNat * i.size)).getD j Go.undef = z.cells.getD (j % ei.size) Go.undef := by
    intro j hj
    have hmm : j % ei.size < z.cells.size := by rw [hcs]; exact Nat.mod_lt _ hsz0
    unfold madeCells
    rw [Array.getD_eq_getD_getElem?]
    simp only [Array.getElem?_map, hcs]
    rw [Array.getElem?_eq_getElem (by rw [← hs]; simpa using hj)]
    simp only [Array.getElem_range, Option.map_some, Option.getD_some]
    rw [getElem!_pos z.cells _ hmm, Array.getD_eq_getD_getElem?, Array.getElem?_eq_getElem hmm]
    rfl
  have n1 := rel.addFree (.cells (madeCells z.cells (q.toNat * i.size)) e)
  have hnew : (w.alloc (.cells (madeCells z.cells (q.toNat * i.size)) e)).heap[w.heap.size]? = some (.cells (madeCells z.cells (q.toNat * i.size)) e) := heap_alloc_new w _
  have hnm : ¬ Mut F H σ w.heap.size := by
    rintro (hm | ⟨id, b, e1, e2, e3⟩)
    · have := rel.mxl _ hm
      have := rel.size
      omega
    · have := (rel.new id b _ e1 e2 e3).1
      omega
  refine .step (H' := H) (.slice (some ⟨w.heap.size, 0, none⟩) n.toNat q.toNat) _ σ rfl (bV (s := Instr.makeSlice T (a.eval l) (a.eval m)) (by simp [execOp, ho]) (by rw [hl, hm]; exact hr2)) n1 (.pure ?_)
  by_cases h0 : n.toNat = 0
  · rw [h0]
    exact .slc0 _ _ _ (.inr ⟨_, _, rfl, by unfold maxLen; omega⟩)
  · refine .slc ei.size n.toNat _ w.heap.size 0 q.toNat (fun k j => (madeCells z.cells (q.toNat * i.size)).getD (k * ei.size + j) Go.undef) (by omega) (by omega) (by unfold maxLen; omega) (fun _ _ => hzl) (fun k j hk hj => ?_) (fun k j hk hj => ?_)
    · have hlt := dD (n := q.toNat) (show k < q.toNat by omega) hj
      have hsz : k * ei.size + j < (madeCells z.cells (q.toNat * i.size)).size := by rw [size_madeCells, ← hs]; exact hlt
      have e2 : (k * ei.size + j) % ei.size = j := by rw [Nat.mul_comm, Nat.mul_add_mod, Nat.mod_eq_of_lt hj]
      refine ⟨hnm, ?_, ?_⟩
      · rw [Nat.zero_add]
        simp only [World.cell?, hnew]
        simp [Array.getD, hsz]
      · rw [zc _ hlt, e2]
        have hm : j < z.cells.size := by rw [hcs]; exact hj
        have e : z.cells.getD j Go.undef = z.cells.toList.getD j Go.undef := by simp [List.getD_eq_getElem?_getD, Array.getD_eq_getD_getElem?]
        rw [e]
        refine h5 _ ?_
        rw [List.getD_eq_getElem?_getD, List.getElem?_eq_getElem (by simpa using hm)]
        exact List.getElem_mem _
    · have hlt := dD (n := q.toNat) (show k < q.toNat by omega) hj
      have e2 : (k * ei.size + j) % ei.size = j := by rw [Nat.mul_comm, Nat.mul_add_mod, Nat.mod_eq_of_lt hj]
      rw [zc _ hlt, e2]
      have hm : j < z.cells.size := by rw [hcs]; exact hj
      have e : z.cells.getD j Go.undef = z.cells.toList.getD j Go.undef := by simp [List.getD_eq_getElem?_getD, Array.getD_eq_getD_getElem?]
      rw [e, hz]
      exact eF z.cells.toList _ (by simpa using hm)
theorem oP {E : Env} {ρ : Operand → AV} (hE : E.tt = ttOf P) (hP : POK P) (hfs : ∀ f, aI P f (E.fs f)) (rel : RelH F H σ w) (hρ : ∀ x, VR w (Mut F H σ) σ (Ver H) (ρ x) (a.eval x)) (hn : ∀ j, j < 64 → H (c + j) = none) :
    Good P F H σ o a w c (aop E o ρ c) := by
  have hc0 : H c = none := by simpa using hn 0 (by omega)
  unfold aop
  rw [hE]
  cases ho : o.op with
  | move x => exact l7 (.inl ho) rel (hρ x) hc0
  | assign x => exact l7 (.inr ho) rel (hρ x) hc0
  | pick t x y =>
    dsimp only
    split
    · rename_i t' ht
      have h1 := hρ t
      rw [ht] at h1
      refine .val rel (if t' then a.eval x else a.eval y) ?_ (kV (hρ x) (hρ y))
      simp [execOp, ho, h1.bool_inv, asBool]
    · exact .fail
  | alloc T =>
    dsimp only
    split
    · rename_i ti ht; exact nk ho ht rel hn
    · exact .fail
  | box T x => exact pz ho rel (hρ x) hn
  | build T parts =>
    dsimp only
    split
    · rename_i ti ht
      split
      · rename_i fs hk
        split
        · exact .fail
        · rename_i hall
          split
          · rename_i cells hf
            exact ny ho ht hk hall rel hρ hn hf
          · exact .fail
      · exact .fail
    · exact .fail
  | buildSlice T len parts =>
    dsimp only
    split
    · rename_i e ei ht
      split
      · rename_i hlen
        split
        · rename_i cells hf
          exact iO ho ht hlen rel hρ hn hf _
        · exact .fail
      · exact .fail
    · exact .fail
  | load T x =>
    dsimp only
    split
    · rename_i ti ht; exact nu ho ht rel (hρ x)
    · exact .fail
  | store T x y =>
    dsimp only
    split
    · rename_i ti ht; exact l5 ho ht rel hn (hρ x) (hρ y)
    · exact .fail
  | nilCheck x =>
    dsimp only
    have hx := hρ x
    split <;> rename_i hq <;> (try rw [hq] at hx)
    · obtain ⟨g, h1, h2, m, hm⟩ := hx.ptr_inv
      exact .val rel _ (by simp [execOp, ho, h2]) (.ptr _ _ g m hm h1)
    · generalize hv : a.eval x = v at hx
      cases hx with
      | pure h => cases h
      | rptr id ver sz k off' m g b hV hm h => exact .val rel _ (by simp [execOp, ho, hv]) (.rptr _ _ _ _ _ m g b hV hm h)
    · obtain ⟨g, o', us, he, hg, hp⟩ := hx.pptr_inv
      exact .val rel _ (by simp [execOp, ho, he]) (.pptr _ _ g o' us hg hp)
    · generalize hv : a.eval x = v at hx
      cases hx with
      | pure h => cases h
      | lptr id ver off' m g hV hm h => exact .val rel _ (by simp [execOp, ho, hv]) (.lptr _ _ _ m g hV hm h)
    · obtain ⟨vs, h1, h2, h3⟩ := hx.fn_inv
      exact .val rel _ (by simp [execOp, ho, h1]) (.fn _ _ vs h2 h3)
    · exact .fail
  | binOp op T x y Ty =>
    dsimp only
    cases hnl : aM y with
    | true => exact pF ho hnl rel (hρ x)
    | false => exact pq ho rel (hρ x) (hρ y)
  | makeSlice T l m =>
    dsimp only
    split
    · rename_i e ei kl n km q ht hl hm
      have v1 := hρ l
      have v2 := hρ m
      rw [hl] at v1
      rw [hm] at v2
      split
      · exact oC ho ht rel v1.int_inv v2.int_inv hn
      · exact jl ho ht rel v1.int_inv v2.int_inv
    · exact .fail
  | unOp op T x => exact p9 ho rel (hρ x)
  | convert s d x =>
    dsimp only
    split
    · rename_i si di kx n hs hd hx
      split
      · rename_i k1 k hks hkd
        obtain ⟨i1, d1, z1, a1, a2, a3, a4, _⟩ := ay hs
        obtain ⟨i2, d2, z2, b1, b2, b3, b4, _⟩ := ay hd
        have e1 : d1 = .int k1 := jT (by rw [a4] at hks; exact hks)
        have e2 : d2 = .int k := jT (by rw [b4] at hkd; exact hkd)
        subst e1 e2
        have hv := hρ x
        rw [hx] at hv
        refine .val rel (.int k (k.wrap n)) (bV (s := convert s d (a.eval x)) (by simp [execOp, ho]) ?_) (.pure (.int _ _))
        rw [hv.int_inv]
        simp [convert, run_underlying a2, run_underlying b2, Conv.intToInt]
      · exact .fail
    · exact .fail
  | index T x i =>
    dsimp only
    split
    · rename_i ti s kx n ht hx hi
      split
      · rename_i hk
        obtain ⟨ii, d, z, h1, h2, h3, h4, _⟩ := ay ht
        have hd : d = .string := jU (by rw [h4] at hk; exact hk)
        subst hd
        have v1 := hρ x
        have v2 := hρ i
        rw [hx] at v1
        rw [hi] at v2
        refine .when rel fun hq => ?_
        obtain ⟨q1, q2⟩ := of_decide_eq_true hq
        refine ⟨.int .u8 (nX s n), bV (s := Instr.index T (a.eval x) (a.eval i)) (by simp [execOp, ho]) ?_, .pure (.int _ _)⟩
        rw [v1.str_inv, v2.int_inv]
        have hs : s[n.toNat]? = some (s[n.toNat]'(by omega)) := getElem?_pos _ _ _
        simp [Instr.index, asIntOf, run_underlying h2, q1, hs, nX]
      · exact .fail
    · exact .fail
  | makeFunc f first cap =>
    cases f with
    | func f =>
      dsimp only
      split
      · rename_i hfirst
        have hf0 : first = #[] := by apply Array.ext'; simpa using hfirst
        subst hf0
        refine .val rel (.func (.func f) #[] (cap.map a.eval)) (bV (s := Instr.makeFunc (.func f) (#[].map a.eval) (cap.map a.eval)) (by simp [execOp, ho]) (by simp [Instr.makeFunc])) (.fn f _ _ (by simp) fun j hj => ?_)
        have hj : j < cap.size := by simpa using hj
        have e1 : (cap.toList.map ρ).getD j .undef = ρ cap[j] := by simp [List.getD_eq_getElem?_getD, hj]
        have e2 : (cap.map a.eval).getD j Go.undef = a.eval cap[j] := by simp [hj]
        rw [e1, e2]
        exact hρ _
      · exact .fail
    | _ => exact .fail
  | slice T x lo hi mx =>
    cases mx with
    | some m => exact .fail
    | none =>
      dsimp only
      split
      · rename_i e ei ht
        refine Good.gI rel (hρ x) fun x' u u1 u2 _ => ?_
        split
        · rename_i hsz
          refine ok_slice ho ht rel hρ u u1 u2 fun sz n f hx' => ?_
          subst hx'
          simp only [szOk, Bool.or_eq_true] at hsz
          rcases hsz with h | h
          · exact .inr (Nat.eq_of_beq_eq_true h)
          · exact .inl (Nat.eq_of_beq_eq_true h)
        · exact .fail
      · exact .fail
  | fieldAddr S x i =>
    dsimp only
    split
    · rename_i off fi ht; exact nC ho ht rel (hρ x)
    · exact .fail
  | field S x i =>
    dsimp only
    split
    · rename_i off fi cs ht hx
      split
      · rename_i v hp
        have hv := hρ x
        rw [hx] at hv
        exact l6 ho ht hp rel hv
      · exact .fail
    · exact .fail
  | indexAddr T x i =>
    dsimp only
    split
    · rename_i e ei sz n f k j ht hx hi
      have h1 := hρ x
      have h2 := hρ i
      rw [hx] at h1
      rw [hi] at h2
      split
      · rename_i hs
        exact (iP ho ht rel h1 h2.int_inv).1 sz n f rfl (Nat.eq_of_beq_eq_true hs)
      · exact .fail
    · rename_i e ei id ver k j ht hx hi
      have h1 := hρ x
      have h2 := hρ i
      rw [hx] at h1
      rw [hi] at h2
      refine .look fun b hb => ?_
      cases b with
      | row ver' sz n e' f =>
        cases hq : Nat.beq ver ver' && Nat.beq sz ei.size with
        | false => simp only [hq]; exact .fail
        | true =>
          simp only [hq]
          simp only [Bool.and_eq_true] at hq
          obtain rfl := Nat.eq_of_beq_eq_true hq.1
          exact (iP ho ht rel h1 h2.int_inv).2.2.1 id ver sz n e' f rfl hb (Nat.eq_of_beq_eq_true hq.2)
      | lrow ver' sz n e' cells =>
        cases hq : Nat.beq ver ver' && Nat.beq sz ei.size with
        | false => simp only [hq]; exact .fail
        | true =>
          simp only [hq]
          simp only [Bool.and_eq_true] at hq
          obtain rfl := Nat.eq_of_beq_eq_true hq.1
          exact (iP ho ht rel h1 h2.int_inv).2.2.2 id ver sz n e' cells rfl hb (Nat.eq_of_beq_eq_true hq.2)
      | _ => exact .fail
    · exact .fail
  | extract t i =>
    dsimp only
    split
    · rename_i vs ht
      have h1 := hρ t
      rw [ht] at h1
      split
      · rename_i v hv
        obtain ⟨us, e1, e2, e3⟩ := h1.tup_inv
        have hlt : i < vs.length := (List.getElem?_eq_some_iff.1 hv).1
        have hu : us[i]? = some (us.getD i Go.undef) := by simp [Array.getD, show i < us.size by omega]
        refine .val rel (us.getD i Go.undef) (bV (s := Instr.extract (a.eval t) i) (by simp [execOp, ho]) ?_) ?_
        · rw [e1]
          simp only [Instr.extract, hu]
          rfl
        · have := e3 i hlt
          rwa [List.getD_eq_getElem?_getD, hv] at this
      · exact .fail
    · exact .fail
  | call cl =>
    dsimp only
    have hexec : execOp a.eval o = (do let d ← resolve a.eval cl o.type; invoke d.target d.args) := by simp [execOp, ho]
    have eargs : ∀ j, j < cl.args.size → VR w (Mut F H σ) σ (Ver H) ((cl.args.toList.map ρ).getD j .undef) ((cl.args.map a.eval).getD j Go.undef) := by
      intro j hj
      have e1 : (cl.args.toList.map ρ).getD j .undef = ρ cl.args[j] := by simp [List.getD_eq_getElem?_getD, hj]
      have e2 : (cl.args.map a.eval).getD j Go.undef = a.eval cl.args[j] := by simp [hj]
      rw [e1, e2]
      exact hρ _
    split
    · rename_i b hc
      have hrun : ∀ v w', (do pure (.value (← (match b with | .len => Builtin.len_ cl.argTypes o.type (cl.args.map a.eval) | .min => Builtin.min_ cl.argTypes o.type (cl.args.map a.eval) | .max => Builtin.max_ cl.argTypes o.type (cl.args.map a.eval) | .append => Builtin.append_ cl.argTypes o.type (cl.args.map a.eval) | _ => stuck ""))) : Go.Sem Next).run P w = .ok (.value v) w' → (execOp a.eval o).run P w = .ok (.value v) w' := by
        intro v w' h
        rw [hexec]
        unfold resolve
        simp only [hc, Sem.run_bind, Sem.run_pure, Result.andThen_ok, invoke]
        cases b <;> first
          | (simp at h; done)
          | (simp only [builtin]; simpa using h)
      unfold jL
      rw [hE]
      have one : ∀ x, cl.args.toList.map ρ = [x] → ∃ x0, cl.args = #[x0] ∧ ρ x0 = x := by
        intro x h
        obtain ⟨x0, h1, h2⟩ := List.map_eq_singleton_iff.1 h
        exact ⟨x0, Array.ext' h1, h2⟩
      split
      · rename_i x hargs
        obtain ⟨x0, hca, hx0⟩ := one _ hargs
        have hx := hρ x0
        rw [hx0] at hx
        cases ht0 : cl.argTypes[0]? with
        | none => exact .fail
        | some t =>
          simp only [Option.bind_some]
          split
          · rename_i ti ht
            split
            · rename_i e hk
              split
              · exact .fail
              · rename_i hns
                refine pE (types := cl.argTypes) (type := o.type) ht0 ht hk rel hx (fun u hu => hrun u w ?_) (fun s hs => hns s hs)
                rw [hca]
                simp [hu]
            · rename_i hk
              split
              · rename_i s
                obtain ⟨i, d, z, h1, h2, h3, h4, _⟩ := ay ht
                have hd : d = .string := jU (by rw [h4] at hk; exact hk)
                subst hd
                refine .val rel (.int .i64 s.size) (hrun _ w ?_) (.pure (.int _ _))
                rw [hca]
                simp [hx.str_inv, Builtin.len_, ht0, run_underlying h2, goInt]
              · exact .fail
            · exact .fail
          · exact .fail
      · rename_i x xs hargs
        obtain ⟨x0, xr, hca, hx0, hxr⟩ := List.map_eq_cons_iff.1 hargs
        have hx := hρ x0
        rw [hx0] at hx
        refine jm true rel xs (xr.map a.eval) x (a.eval x0) hx (by rw [← hxr]; simp) (fun j hj => ?_) fun u hu => hrun u w ?_
        · rw [← hxr] at hj ⊢
          simp only [List.length_map] at hj
          simp only [List.getD_eq_getElem?_getD, List.getElem?_map, List.getElem?_eq_getElem hj, Option.map_some, Option.getD_some]
          exact hρ _
        · simp only [if_true] at hu
          simp [Builtin.min_, hca, hu]
      · rename_i x xs hargs
        obtain ⟨x0, xr, hca, hx0, hxr⟩ := List.map_eq_cons_iff.1 hargs
        have hx := hρ x0
        rw [hx0] at hx
        refine jm false rel xs (xr.map a.eval) x (a.eval x0) hx (by rw [← hxr]; simp) (fun j hj => ?_) fun u hu => hrun u w ?_
        · rw [← hxr] at hj ⊢
          simp only [List.length_map] at hj
          simp only [List.getD_eq_getElem?_getD, List.getElem?_map, List.getElem?_eq_getElem hj, Option.map_some, Option.getD_some]
          exact hρ _
        · simp only [Bool.false_eq_true, if_false] at hu
          simp [Builtin.max_, hca, hu]
      · rename_i s x hargs
        split
        · rename_i t t2 ht1 ht2
          split
          · rename_i hb
            obtain rfl := Nat.eq_of_beq_eq_true hb
            split
            · rename_i e ei ht
              obtain ⟨s0, xr, hca, hs0, hxr⟩ := List.map_eq_cons_iff.1 hargs
              obtain ⟨x0, hca2, hx0⟩ := List.map_eq_singleton_iff.1 hxr
              subst hca2
              have hs := hρ s0
              have hx := hρ x0
              rw [hs0] at hs
              rw [hx0] at hx
              have hca' : cl.args = #[s0, x0] := Array.ext' hca
              refine lZ _ (sv := a.eval s0) (xv := a.eval x0) (fun v w' h => hrun v w' ?_) ht rel hs hx (fun hnil => ?_) hn
              · rw [hca']
                have : (Builtin.append_ cl.argTypes o.type #[a.eval s0, a.eval x0]).run P w = .ok v w' := by
                  rw [← h]
                  unfold Builtin.append_
                  simp only [ht1, ht2]
                  rfl
                simp [this]
              · rw [hca'] at hnil
                simp only [List.getElem?_toArray, List.getElem?_cons_zero] at hnil
                unfold aM at hnil
                split at hnil
                · rfl
                · cases hnil
            · exact .fail
          · exact .fail
        · exact .fail
      · exact .fail
    · rename_i f hc
      split
      · rename_i g caps hf
        have hv := hρ f
        rw [hf] at hv
        obtain ⟨vs, h1, h2, h3⟩ := hv.fn_inv
        refine nA (vs := cl.args.map a.eval ++ vs) _ hP hfs rel hn (fun fn f1 f2 f3 => by rw [hexec]; exact kF hc h1 f1 f2 f3) (by simp [h2]) (fun j hj => ?_)
        simp only [List.length_append, List.length_map, Array.length_toList] at hj
        by_cases hlt : j < cl.args.size
        · have e1 : (cl.args.toList.map ρ ++ caps).getD j .undef = (cl.args.toList.map ρ).getD j .undef := by
            rw [List.getD_eq_getElem?_getD, List.getElem?_append_left (by simpa using hlt), ← List.getD_eq_getElem?_getD]
          have e2 : (cl.args.map a.eval ++ vs).getD j Go.undef = (cl.args.map a.eval).getD j Go.undef := by
            rw [Array.getD_eq_getD_getElem?, Array.getElem?_append_left (by simpa using hlt), ← Array.getD_eq_getD_getElem?]
          rw [e1, e2]
          exact eargs j hlt
        · have e1 : (cl.args.toList.map ρ ++ caps).getD j .undef = caps.getD (j - cl.args.size) .undef := by
            rw [List.getD_eq_getElem?_getD, List.getElem?_append_right (by simp; omega), ← List.getD_eq_getElem?_getD]
            simp
          have e2 : (cl.args.map a.eval ++ vs).getD j Go.undef = vs.getD (j - cl.args.size) Go.undef := by
            rw [Array.getD_eq_getD_getElem?, Array.getElem?_append_right (by simp; omega), ← Array.getD_eq_getD_getElem?]
            simp
          rw [e1, e2]
          exact h3 _ (by omega)
      · exact .fail
    · exact .fail
  | _ => exact .fail
end
end Go.Proofs.YtimkpfnbkclclaaGreat.Ab
