/- The plain evaluator's operations are right: elements written, append. -/
import Derived.Test.YthkdmemkjojmoaaZC6
namespace Go.Proofs.Ythkdmemkjojmoaa.Ab
open Go

theorem row_ix {k n sz j : Nat} (hk : k < n) (hj : j < sz) : k * sz + j < n * sz := by
  have h2 : (k + 1) * sz ≤ n * sz := Nat.mul_le_mul_right _ hk
  rw [Nat.add_mul, Nat.one_mul] at h2
  omega
theorem row_split {k k' j j' sz : Nat} (hj : j < sz) (hj' : j' < sz) (h : k * sz + j = k' * sz + j') : k = k' ∧ j = j' := by
  have h1 : k = k' := by
    rcases Nat.lt_trichotomy k k' with h2 | h2 | h2
    · have h3 : (k + 1) * sz ≤ k' * sz := Nat.mul_le_mul_right _ h2
      rw [Nat.add_mul, Nat.one_mul] at h3; omega
    · exact h2
    · have h3 : (k' + 1) * sz ≤ k * sz := Nat.mul_le_mul_right _ h2
      rw [Nat.add_mul, Nat.one_mul] at h3; omega
  subst h1
  exact ⟨rfl, by omega⟩
theorem setAt_get {cells xs : List AV} {off j : Nat} (hle : off + xs.length ≤ cells.length) :
    (setAt cells off xs).getD j .undef = if off ≤ j ∧ j < off + xs.length then xs.getD (j - off) .undef else cells.getD j .undef := by
  by_cases c1 : j < off
  · rw [if_neg (by omega), setAt, List.append_assoc, List.getD_eq_getElem?_getD, List.getElem?_append_left (by simp; omega), List.getElem?_take, if_pos c1, List.getD_eq_getElem?_getD]
  · by_cases c2 : j < off + xs.length
    · rw [if_pos (by omega), setAt, List.append_assoc, List.getD_eq_getElem?_getD, List.getElem?_append_right (by simp; omega), List.getElem?_append_left (by simp; omega), List.getD_eq_getElem?_getD]
      congr 3; simp; omega
    · rw [if_neg (by omega), setAt, List.getD_eq_getElem?_getD, List.getElem?_append_right (by simp; omega), List.getElem?_drop, List.getD_eq_getElem?_getD]
      congr 3; simp; omega
theorem splice_get {cur us : List Value} {off j : Nat} (hle : off + us.length ≤ cur.length) :
    (cur.take off ++ us ++ cur.drop (off + us.length)).getD j Go.undef = if off ≤ j ∧ j < off + us.length then us.getD (j - off) Go.undef else cur.getD j Go.undef := by
  by_cases c1 : j < off
  · rw [if_neg (by omega), List.append_assoc, List.getD_eq_getElem?_getD, List.getElem?_append_left (by simp; omega), List.getElem?_take, if_pos c1, List.getD_eq_getElem?_getD]
  · by_cases c2 : j < off + us.length
    · rw [if_pos (by omega), List.append_assoc, List.getD_eq_getElem?_getD, List.getElem?_append_right (by simp; omega), List.getElem?_append_left (by simp; omega), List.getD_eq_getElem?_getD]
      congr 3; simp; omega
    · rw [if_neg (by omega), List.getD_eq_getElem?_getD, List.getElem?_append_right (by simp; omega), List.getElem?_drop, List.getD_eq_getElem?_getD]
      congr 3; simp; omega

section
variable {P : Program} {F : Fr} {H : Nat → Option Blk} {σ : Nat → Value} {w : World}
/-- Cells of an element are written. -/
theorem RelH.setRow (rel : RelH F H σ w) (id ver sz n : Nat) (e : TypeId) (f : Nat → List AV) (hid : H id = some (.row ver sz n e f)) (g n' cap k off : Nat) (hg : σ id = .slice (some ⟨g, 0, none⟩) n' cap) (hk : k < n)
    (xs : List AV) (us : List Value) (hx : us.length = xs.length) (hle : off + xs.length ≤ sz)
    (hc : ∀ j, j < xs.length → PR w (Mut F H σ) (xs.getD j .undef) (us.getD j Go.undef) ∧ (us.getD j Go.undef).oneCell' = true) (t : TypeId) (inf : TypeInfo) (hi : P.info? t = some inf) (hs : inf.size = xs.length) (v : Value) (hv : v.cells.toList = us) :
    ∃ w', (Instr.storeAt t (.pointer (some ⟨g, k * sz + off, none⟩)) v).run P w = .ok () w' ∧ Now F w H σ w' (upd H id (some (.row ver sz n e fun j => if j = k then setAt (f k) off xs else f j))) σ := by
  obtain ⟨h0, h2, xs0, h1, h3, h4⟩ := (rel.bl id _ hid).row_cells
  obtain ⟨g', cap', cur, e1, e2, e3, e4, e5, e6, e7⟩ := h4 (by omega)
  rw [hg] at e1
  injection e1 with q1 q2 q3
  injection q1 with q1; injection q1 with q1
  subst q1 q2 q3
  have hgl : g < w.heap.size := (Array.getElem?_eq_some_iff.1 e4).1
  have hcs : n' * sz ≤ cur.size := by rw [e5]; exact Nat.mul_le_mul_right _ e2
  have hbase : k * sz + off + us.length ≤ n' * sz := by
    have h2 : (k + 1) * sz ≤ n' * sz := Nat.mul_le_mul_right _ hk
    rw [Nat.add_mul, Nat.one_mul] at h2
    omega
  have h1c : ∀ u ∈ us, u.oneCell' = true := fun u hu => by
    obtain ⟨j, hj, e⟩ := List.mem_iff_getElem.1 hu
    have := (hc j (by omega)).2
    rw [List.getD_eq_getElem?_getD, List.getElem?_eq_getElem hj] at this
    simpa [e] using this
  have hst := run_storeCells_at P g (k * sz + off) e us 0 cur w e4 (by omega) h1c
  simp only [Nat.add_zero] at hst
  refine ⟨w.setRow g (cur.toList.take (k * sz + off) ++ us ++ cur.toList.drop (k * sz + off + us.length)).toArray, ?_, ?_⟩
  · have hsz : v.cells.size = inf.size := by rw [← Array.length_toList, hv, hx, hs]
    simp only [Instr.storeAt, Instr.sureAddr, Sem.run_bind, Sem.run_pure, Result.andThen_ok, storeVar, run_sizeOf hi, hsz, ne_eq, not_true_eq_false, if_false, hv, hst]
  · have key := rel.chg id (.row ver sz n' e fun j => if j = k then setAt (f k) off xs else f j) (σ id) (w' := w.setRow g (cur.toList.take (k * sz + off) ++ us ++ cur.toList.drop (k * sz + off + us.length)).toArray) rfl rfl rfl (by simp) (fun g' _ hk => ?_) (fun g' _ h => ?_) (fun b h => ⟨by rw [hid] at h; injection h with h; subst h; simp [Blk.ver], fun _ => rfl, fun _ _ => rfl⟩) (fun G => ?_)
    · rw [upd_self] at key; exact key
    · exact setRow_other w g g' _ (fun e => hk _ hid trivial (by rw [hg, e]; rfl))
    · rw [hg] at h; simp only [blkOf, Option.some.injEq] at h; subst h
      exact ⟨by simpa using hgl, .inr ⟨_, hid, trivial, by rw [hg]; rfl⟩⟩
    · rw [upd_self] at G ⊢
      have hnl : (cur.toList.take (k * sz + off) ++ us ++ cur.toList.drop (k * sz + off + us.length)).length = cur.size := by simp; omega
      refine ⟨(cur.toList.take (k * sz + off) ++ us ++ cur.toList.drop (k * sz + off + us.length)).take (n' * sz), h0, ⟨by rw [List.length_take, hnl]; omega, .inr ⟨g, cap, _, hg, Nat.zero_le _, setRow_at e4, e2, e3, by rw [List.size_toArray, hnl, e5], by simp⟩⟩, fun k' hk' => ?_, fun k' j hk' hj => ?_⟩
      · dsimp only
        split
        · rename_i hkk; subst hkk
          have := h2 k' hk'
          simp [setAt]; omega
        · exact h2 k' hk'
      · have hlt := row_ix hk' hj
        have e8 : ((cur.toList.take (k * sz + off) ++ us ++ cur.toList.drop (k * sz + off + us.length)).take (n' * sz)).getD (k' * sz + j) Go.undef = (cur.toList.take (k * sz + off) ++ us ++ cur.toList.drop (k * sz + off + us.length)).getD (k' * sz + j) Go.undef := by
          rw [List.getD_eq_getElem?_getD, List.getElem?_take, if_pos hlt, List.getD_eq_getElem?_getD]
        have e9 : xs0.getD (k' * sz + j) Go.undef = cur.toList.getD (k' * sz + j) Go.undef := by
          rw [← e6, List.getD_eq_getElem?_getD, List.getElem?_take, if_pos hlt, List.getD_eq_getElem?_getD]
        rw [e8, splice_get (by simp; omega)]
        have old := h3 k' j hk' hj
        rw [e9] at old
        dsimp only
        by_cases hkk : k' = k
        · subst hkk
          rw [if_pos rfl, setAt_get (by rw [h2 k' hk']; exact hle)]
          by_cases hin : off ≤ j ∧ j < off + xs.length
          · rw [if_pos hin, if_pos (by omega), show k' * sz + j - (k' * sz + off) = j - off by omega]
            exact ⟨(hc _ (by omega)).1.grow G.keep G.mutd, (hc _ (by omega)).2⟩
          · rw [if_neg hin, if_neg (by omega)]
            exact ⟨old.1.grow G.keep G.mutd, old.2⟩
        · rw [if_neg hkk, if_neg ?_]
          · exact ⟨old.1.grow G.keep G.mutd, old.2⟩
          · rintro ⟨a1, a2⟩
            exact hkk (row_split (sz := sz) hj (show k' * sz + j - k * sz < sz by omega) (by omega)).1

/-- Cells of a listed slice are written. -/
theorem RelH.setLrow (rel : RelH F H σ w) (id ver sz n : Nat) (e : TypeId) (cells : List AV) (hid : H id = some (.lrow ver sz n e cells)) (off : Nat) (xs : List AV) (us : List Value) (hx : us.length = xs.length) (hle : off + xs.length ≤ cells.length)
    (hc : ∀ j, j < xs.length → VR w (Mut F H σ) σ (Ver H) (xs.getD j .undef) (us.getD j Go.undef) ∧ (us.getD j Go.undef).oneCell' = true) (t : TypeId) (inf : TypeInfo) (hi : P.info? t = some inf) (hs : inf.size = xs.length) (v : Value) (hv : v.cells.toList = us) :
    ∃ g cap w', σ id = .slice (some ⟨g, 0, none⟩) n cap ∧ (Instr.storeAt t (.pointer (some ⟨g, off, none⟩)) v).run P w = .ok () w' ∧ Now F w H σ w' (upd H id (some (.lrow ver sz n e (setAt cells off xs)))) σ := by
  obtain ⟨h0, h0', hcl, g, cap, cur, xs0, h1, e1, e2, e3, e4, e5, e6, e7⟩ := (rel.bl id _ hid).lrow_cells
  have hgl : g < w.heap.size := (Array.getElem?_eq_some_iff.1 e4).1
  have hcs : n * sz ≤ cur.size := by rw [e5]; exact Nat.mul_le_mul_right _ e2
  have h1c : ∀ u ∈ us, u.oneCell' = true := fun u hu => by
    obtain ⟨j, hj, e⟩ := List.mem_iff_getElem.1 hu
    have := (hc j (by omega)).2
    rw [List.getD_eq_getElem?_getD, List.getElem?_eq_getElem hj] at this
    simpa [e] using this
  have hst := run_storeCells_at P g off e us 0 cur w e4 (by omega) h1c
  simp only [Nat.add_zero] at hst
  refine ⟨g, cap, w.setRow g (cur.toList.take off ++ us ++ cur.toList.drop (off + us.length)).toArray, e1, ?_, ?_⟩
  · have hsz : v.cells.size = inf.size := by rw [← Array.length_toList, hv, hx, hs]
    simp only [Instr.storeAt, Instr.sureAddr, Sem.run_bind, Sem.run_pure, Result.andThen_ok, storeVar, run_sizeOf hi, hsz, ne_eq, not_true_eq_false, if_false, hv, hst]
  · have key := rel.chg id (.lrow ver sz n e (setAt cells off xs)) (σ id) (w' := w.setRow g (cur.toList.take off ++ us ++ cur.toList.drop (off + us.length)).toArray) rfl rfl rfl (by simp) (fun g' _ hk => ?_) (fun g' _ h => ?_) (fun b h => ⟨by rw [hid] at h; injection h with h; subst h; simp [Blk.ver], fun _ => rfl, fun _ _ => rfl⟩) (fun G => ?_)
    · rw [upd_self] at key; exact key
    · exact setRow_other w g g' _ (fun e => hk _ hid trivial (by rw [e1, e]; rfl))
    · rw [e1] at h; simp only [blkOf, Option.some.injEq] at h; subst h
      exact ⟨by simpa using hgl, .inr ⟨_, hid, trivial, by rw [e1]; rfl⟩⟩
    · rw [upd_self] at G ⊢
      have hnl : (cur.toList.take off ++ us ++ cur.toList.drop (off + us.length)).length = cur.size := by simp; omega
      refine ⟨(cur.toList.take off ++ us ++ cur.toList.drop (off + us.length)).take (n * sz), h0, h0', ⟨by rw [List.length_take, hnl]; omega, .inr ⟨g, cap, _, e1, Nat.zero_le _, setRow_at e4, e2, e3, by rw [List.size_toArray, hnl, e5], by simp⟩⟩, by simp [setAt]; omega, fun j hj => ?_⟩
      have e8 : ((cur.toList.take off ++ us ++ cur.toList.drop (off + us.length)).take (n * sz)).getD j Go.undef = (cur.toList.take off ++ us ++ cur.toList.drop (off + us.length)).getD j Go.undef := by
        rw [List.getD_eq_getElem?_getD, List.getElem?_take, if_pos hj, List.getD_eq_getElem?_getD]
      have e9 : xs0.getD j Go.undef = cur.toList.getD j Go.undef := by
        rw [← e6, List.getD_eq_getElem?_getD, List.getElem?_take, if_pos hj, List.getD_eq_getElem?_getD]
      have old := (e7 j hj).2
      rw [e9] at old
      rw [e8, splice_get (by simp; omega), setAt_get hle]
      by_cases hin : off ≤ j ∧ j < off + xs.length
      · rw [if_pos hin, if_pos (by omega)]
        exact ⟨(hc _ (by omega)).1.grow G, (hc _ (by omega)).2⟩
      · rw [if_neg hin, if_neg (by omega)]
        exact ⟨old.1.grow G, old.2⟩

theorem append_run (t ty e : TypeId) (i : TypeInfo) (z : Value) (ht : P.underlying t = some (.slice e)) (hi : P.info? e = some i) (hz : i.zero = some z) (hzs : z.cells.size = i.size) (hsz : 0 < i.size)
    (v : Value) (n : Nat) (xs : List Value) (hown : w.ownsRow 0 e i.size v n xs)
    (x : Value) (m : Nat) (ys : List Value) (hl : ys.length = m * i.size)
    (hx : (m = 0 ∧ (x = .slice none 0 0 ∨ ∃ a cap, x = .slice (some a) 0 cap)) ∨ ∃ g off cap, x = .slice (some ⟨g, off, none⟩) m cap ∧ ∀ j, j < m * i.size → w.cell? ⟨g, off + j, none⟩ = some (ys.getD j Go.undef))
    (h1 : ∀ u ∈ ys, u.oneCell' = true) (h63 : n + m ≤ maxLen) (hbytes : (n + m) * i.bytes ≤ 140737488355328) :
    ∃ v' w', (Builtin.append_ #[t, t] ty #[v, x]).run P w = .ok v' w' ∧ w'.ownsRow 0 e i.size v' (n + m) (xs ++ ys) ∧ w.grownBy w' v.ownBlock ∧ ∀ g, v'.ownBlock = some g → v.ownBlock = some g ∨ w.heap.size ≤ g := by
  have none_case : m = 0 → x = .slice none 0 0 → ∃ v' w', (Builtin.append_ #[t, t] ty #[v, x]).run P w = .ok v' w' ∧ w'.ownsRow 0 e i.size v' (n + m) (xs ++ ys) ∧ w.grownBy w' v.ownBlock ∧ ∀ g, v'.ownBlock = some g → v.ownBlock = some g ∨ w.heap.size ≤ g := by
    rintro rfl rfl
    have e0 : ys = [] := List.eq_nil_of_length_eq_zero (by simpa using hl)
    subst e0
    exact ⟨v, w, run_append_owned_none w 0 t ty e i i.size ht hi v n xs hown, by simpa using hown, ⟨rfl, rfl, rfl, Nat.le_refl _, fun _ _ _ => rfl⟩, fun g hg => .inl hg⟩
  have some_case : ∀ (a : Addr) (cap : Nat), x = .slice (some a) m cap → (∀ j u, ys[j]? = some u → w.cell? (a.add j) = some u) →
      ∃ v' w', (Builtin.append_ #[t, t] ty #[v, x]).run P w = .ok v' w' ∧ w'.ownsRow 0 e i.size v' (n + m) (xs ++ ys) ∧ w.grownBy w' v.ownBlock ∧ ∀ g, v'.ownBlock = some g → v.ownBlock = some g ∨ w.heap.size ≤ g := by
    rintro a cap rfl hy
    obtain ⟨v', w', r1, r2, r3, _⟩ := run_append_own (P := P) w 0 t ty e i z i.size i.bytes ht hi hz rfl rfl hzs hsz v n xs hown a m cap ys hl hy h1 h63 hbytes (Nat.zero_le _)
    refine ⟨v', w', r1, r2, r3, fun g hg => ?_⟩
    rcases hown.2 with ⟨rfl, rfl⟩ | ⟨g0, cap0, cur0, rfl, _, k3, k4, k5, k6, k7⟩
    · have hx0 : xs = [] := List.eq_nil_of_length_eq_zero (by simpa using hown.1)
      subst hx0
      obtain ⟨v2, w2, s1, s2, _, _⟩ := run_append_own (P := P) w w.heap.size t ty e i z i.size i.bytes ht hi hz rfl rfl hzs hsz (.slice none 0 0) 0 [] (World.ownsRow_nil w _ e i.size) a m cap ys hl hy h1 h63 hbytes (Nat.le_refl _)
      rw [r1] at s1
      injection s1 with s1 _
      subst s1
      exact .inr (s2.lt g hg).1
    · by_cases hroom : n + m ≤ cap0
      · have hfit : n * i.size + ys.length ≤ cur0.size := by rw [hl, k6, ← Nat.add_mul]; exact Nat.mul_le_mul_right _ hroom
        have s1 := run_append_room (P := P) w t ty e i ht hi g0 n cap0 cur0 k3 a m cap ys hl hy h1 hroom hfit
        rw [r1] at s1
        injection s1 with s1 _
        subst s1
        exact .inl hg
      · have hsmall : n + m ≤ 9223372036854775807 := by simp only [maxLen] at h63; omega
        have holds : ∀ j u, xs[j]? = some u → w.cell? ((⟨g0, 0, none⟩ : Addr).add j) = some u := hown.cells (g := g0) rfl
        have s1 := run_append_grow (P := P) w t ty e i z ht hi hz ⟨g0, 0, none⟩ n cap0 xs hown.1 holds a m cap ys hl hy (by omega) (by omega) (growslice_fits (by omega) hbytes)
        rw [r1] at s1
        injection s1 with s1 _
        subst s1
        simp only [Value.ownBlock, Option.some.injEq] at hg
        exact .inr (by omega)
  rcases hx with ⟨rfl, h | ⟨a, cap, h⟩⟩ | ⟨g, off, cap, h, hc⟩
  · exact none_case rfl h
  · refine some_case a cap h fun j u hu => ?_
    have e0 : ys = [] := List.eq_nil_of_length_eq_zero (by simpa using hl)
    subst e0
    simp at hu
  · refine some_case _ cap h fun j u hu => ?_
    have hj : j < ys.length := (List.getElem?_eq_some_iff.1 hu).1
    rw [Addr.add_mid, hc j (by omega), List.getD_eq_getElem?_getD, hu]
    rfl

theorem own_blk {w : World} {base sz n : Nat} {e : TypeId} {v : Value} {xs : List Value} (h : w.ownsRow base e sz v n xs) : blkOf v = v.ownBlock := by
  rcases h.2 with ⟨rfl, _⟩ | ⟨g, cap, cur, rfl, _⟩ <;> rfl
/-- A row behind an append. -/
theorem RelH.grown (rel : RelH F H σ w) (id : Nat) (b : Blk) (hid : H id = some b) (hb : b.live) (ver' sz n m : Nat) (hver : b.ver < ver') (e : TypeId) (f : Nat → List AV) (xs ys : List Value) (v' : Value) (w' : World) (hsz : 0 < sz)
    (hown : w.ownsRow 0 e sz (σ id) n xs) (hown' : w'.ownsRow 0 e sz v' (n + m) (xs ++ ys)) (hg : w.grownBy w' (σ id).ownBlock) (hblk : ∀ g, v'.ownBlock = some g → (σ id).ownBlock = some g ∨ w.heap.size ≤ g)
    (hf : ∀ k, k < n + m → (f k).length = sz) (hc : ∀ k j, k < n + m → j < sz → PR w (Mut F H σ) ((f k).getD j .undef) ((xs ++ ys).getD (k * sz + j) Go.undef) ∧ ((xs ++ ys).getD (k * sz + j) Go.undef).oneCell' = true) :
    Now F w H σ w' (upd H id (some (.row ver' sz (n + m) e f))) (upd σ id v') := by
  refine rel.chg id _ v' hg.os hg.tape hg.output hg.size (fun g hl hk => hg.block g hl fun e => ?_) (fun g _ h => ?_) (fun b' h => ?_) (fun G => ?_)
  · refine hk b hid hb ?_
    rw [own_blk hown, ← e]
  · rw [own_blk hown'] at h
    refine ⟨(hown'.lt g h).2, (hblk g h).elim (fun h2 => .inr ⟨b, hid, hb, by rw [own_blk hown]; exact h2⟩) .inl⟩
  · rw [hid] at h; injection h with h; subst h
    refine ⟨Nat.le_of_lt hver, fun e => by have e : ver' = b.ver := e; omega, fun g h => ?_⟩
    rcases hown.2 with ⟨h2, _⟩ | ⟨g0, cap0, cur0, h2, _⟩ <;> rw [h] at h2 <;> cases h2
  · exact ⟨xs ++ ys, hsz, by rw [upd_same]; exact hown', hf, fun k j hk hj => ⟨(hc k j hk hj).1.grow G.keep G.mutd, (hc k j hk hj).2⟩⟩
/-- A listed slice behind an append. -/
theorem RelH.grownL (rel : RelH F H σ w) (id : Nat) (b : Blk) (hid : H id = some b) (hb : b.live) (ver' sz n m : Nat) (hver : b.ver < ver') (e : TypeId) (cells : List AV) (xs ys : List Value) (v' : Value) (w' : World) (hsz : 0 < sz) (hn0 : 0 < n + m)
    (hown : w.ownsRow 0 e sz (σ id) n xs) (hown' : w'.ownsRow 0 e sz v' (n + m) (xs ++ ys)) (hg : w.grownBy w' (σ id).ownBlock) (hblk : ∀ g, v'.ownBlock = some g → (σ id).ownBlock = some g ∨ w.heap.size ≤ g)
    (hcl : cells.length = (n + m) * sz) (hc : ∀ j, j < (n + m) * sz → VR w (Mut F H σ) σ (Ver H) (cells.getD j .undef) ((xs ++ ys).getD j Go.undef) ∧ ((xs ++ ys).getD j Go.undef).oneCell' = true) :
    Now F w H σ w' (upd H id (some (.lrow ver' sz (n + m) e cells))) (upd σ id v') := by
  refine rel.chg id _ v' hg.os hg.tape hg.output hg.size (fun g hl hk => hg.block g hl fun e => ?_) (fun g _ h => ?_) (fun b' h => ?_) (fun G => ?_)
  · refine hk b hid hb ?_
    rw [own_blk hown, ← e]
  · rw [own_blk hown'] at h
    refine ⟨(hown'.lt g h).2, (hblk g h).elim (fun h2 => .inr ⟨b, hid, hb, by rw [own_blk hown]; exact h2⟩) .inl⟩
  · rw [hid] at h; injection h with h; subst h
    refine ⟨Nat.le_of_lt hver, fun e => by have e : ver' = b.ver := e; omega, fun g h => ?_⟩
    rcases hown.2 with ⟨h2, _⟩ | ⟨g0, cap0, cur0, h2, _⟩ <;> rw [h] at h2 <;> cases h2
  · exact ⟨xs ++ ys, hsz, hn0, by rw [upd_same]; exact hown', hcl, fun j hj => ⟨(hc j hj).1.grow G, (hc j hj).2⟩⟩
end
end Go.Proofs.Ythkdmemkjojmoaa.Ab
