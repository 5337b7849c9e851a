/- spoilt: a mine in which one number is another one. -/
import Derived.Test.YtbiikgkfklhohaaAp
namespace Go.Proofs.Ytbiikgkfklhohaa
open Go.RowKit
attribute [local go_sem ↓] Go.wp_at_zero Go.wp_at_succ

theorem flat_set {α : Type} (enc : α → List Value) (sz : Nat) (hs : ∀ x, (enc x).length = sz) (d x' : α) (j : Nat) (u : Value) (hj : j < sz) :
    ∀ (l : List α) (k : Nat), k < l.length → enc x' = (enc (l.getD k d)).set j u → (l.flatMap enc).set (k * sz + j) u = (l.set k x').flatMap enc := by
  intro l
  induction l with
  | nil => intro k hk; simp at hk
  | cons x l ih =>
    intro k hk h
    cases k with
    | zero =>
      have h0 := hs x
      simp only [List.getD_cons_zero] at h
      simp only [List.flatMap_cons, List.set_cons_zero, Nat.zero_mul, Nat.zero_add]
      rw [List.set_append_left _ _ (by omega), h]
    | succ k =>
      have h1 := ih k (by simpa using hk) (by simpa using h)
      have h0 := hs x
      simp only [List.flatMap_cons, List.set_cons_succ]
      rw [← h1, List.set_append_right _ _ (by rw [h0, Nat.add_mul]; omega)]
      congr 2
      rw [h0, Nat.add_mul]; omega

theorem own_mono {w : World} {base base' : Nat} {e : TypeId} {size : Nat} {v : Value} {n : Nat} {xs : List Value} (h : w.ownsRow base e size v n xs) (hb : base' ≤ base) : w.ownsRow base' e size v n xs := by
  refine ⟨h.1, ?_⟩
  rcases h.2 with h2 | ⟨g, cap, cur, h1, h2, h3⟩
  · exact .inl h2
  · exact .inr ⟨g, cap, cur, h1, by omega, h3⟩

/-- What a slice of the call's own looks like if it has an element: and how its cells are read and written. -/
theorem own_open {w : World} {base : Nat} {e : TypeId} {size : Nat} {v : Value} {n : Nat} {xs : List Value} (h : w.ownsRow base e size v n xs) (hn : 0 < n) :
    ∃ g cap, v = .slice (some ⟨g, 0, none⟩) n cap ∧ (∃ cur, Bk w g cur e) ∧ (∀ j, j < n * size → w.cell? ⟨g, j, none⟩ = xs[j]?) ∧ (∀ j, w.frozen? ⟨g, j, none⟩ = false) ∧
      (∀ j u, j < n * size → (w.setCell ⟨g, j, none⟩ u).ownsRow base e size v n (xs.set j u)) := by
  rcases h.2 with ⟨_, h0⟩ | ⟨g, cap, cur, rfl, hb, hg, hnc, hm, hc, hx⟩
  · omega
  refine ⟨g, cap, rfl, ⟨cur, hg⟩, fun j hj => ?_, fun j => Bk.frozen (show Bk w g cur e from hg) j, fun j u hj => ?_⟩
  · rw [Bk.cell (show Bk w g cur e from hg) j, ← hx, List.getElem?_take, if_pos hj, Array.getElem?_toList]
  · have hk := Bk.set (show Bk w g cur e from hg) j u
    refine ⟨by rw [List.length_set]; exact h.1, .inr ⟨g, cap, _, rfl, hb, hk, hnc, hm, by simpa using hc, ?_⟩⟩
    rw [Array.toList_setIfInBounds, List.take_set, hx]

theorem rd_set (r : Rd) (n : Int) (j : Nat) (hj : j = 0 ∨ j = 1 ∨ j = 2 ∨ j = 3 ∨ j = 6 ∨ j = 7 ∨ j = 8 ∨ j = 9) : ∃ r' : Rd, r'.cells = r.cells.set j (.int .i64 n) := by
  obtain ⟨f, t, len, area, walk, closed, ⟨r1, r2⟩, ⟨r3, r4⟩⟩ := r
  rcases hj with rfl | rfl | rfl | rfl | rfl | rfl | rfl | rfl
  · exact ⟨⟨n, t, len, area, walk, closed, ⟨r1, r2⟩, ⟨r3, r4⟩⟩, rfl⟩
  · exact ⟨⟨f, n, len, area, walk, closed, ⟨r1, r2⟩, ⟨r3, r4⟩⟩, rfl⟩
  · exact ⟨⟨f, t, n, area, walk, closed, ⟨r1, r2⟩, ⟨r3, r4⟩⟩, rfl⟩
  · exact ⟨⟨f, t, len, n, walk, closed, ⟨r1, r2⟩, ⟨r3, r4⟩⟩, rfl⟩
  · exact ⟨⟨f, t, len, area, walk, closed, ⟨n, r2⟩, ⟨r3, r4⟩⟩, rfl⟩
  · exact ⟨⟨f, t, len, area, walk, closed, ⟨r1, n⟩, ⟨r3, r4⟩⟩, rfl⟩
  · exact ⟨⟨f, t, len, area, walk, closed, ⟨r1, r2⟩, ⟨n, r4⟩⟩, rfl⟩
  · exact ⟨⟨f, t, len, area, walk, closed, ⟨r1, r2⟩, ⟨r3, n⟩⟩, rfl⟩

/-- While a mine is changed: the variable's block, the result's block, the two lists, the frame. -/
structure SpS (w : World) (n3 nR : Nat) (m : Mn) (pv rv : Value) (W : World) : Prop where
  k : Bk W n3 #[pv, rv] 26
  kR : ∃ x y, Bk W nR #[x, y] 26
  p : W.ownsRow w.heap.size 37 2 pv m.ps.length (m.ps.flatMap Pl.cells)
  r : W.ownsRow w.heap.size 41 10 rv m.rs.length (m.rs.flatMap Rd.cells)
  g : w.grownBy W none
  n : w.heap.size ≤ n3 ∧ w.heap.size ≤ nR
section
variable {w : World} {n3 nR : Nat} {m : Mn} {pv rv : Value} {W : World}
theorem SpS.drew (h : SpS w n3 nR m pv rv W) : SpS w n3 nR m pv rv W.drew := ⟨h.k, h.kR, h.p, h.r, gb_drew h.g, h.n⟩
theorem SpS.by_ {W' : World} (h : SpS w n3 nR m pv rv W) (o : W.grownBy W' none) : SpS w n3 nR m pv rv W' :=
  ⟨h.k.of o (by simp), let ⟨x, y, k⟩ := h.kR; ⟨x, y, k.of o (by simp)⟩, own_by h.p o, own_by h.r o, gb_same h.g o, h.n⟩
theorem SpS.setP (h : SpS w n3 nR m pv rv W) {g cap k j : Nat} {u : Value} {p' : Pl} (hk : k < m.ps.length) (hj : j < 2) (hp : p'.cells = (m.ps.getD k ⟨0, false⟩).cells.set j u) (hv : pv = .slice (some ⟨g, 0, none⟩) m.ps.length cap) :
    SpS w n3 nR ⟨m.ps.set k p', m.rs⟩ pv rv (W.setCell ⟨g, k * 2 + j, none⟩ u) := by
  obtain ⟨g', cap', hv', ⟨cur, hb⟩, _, _, hs⟩ := own_open h.p (by omega)
  obtain ⟨rfl, rfl⟩ : g' = g ∧ cap' = cap := by rw [hv] at hv'; injection hv' with a b c; injection a with a; injection a with a; exact ⟨a.symm, c.symm⟩
  have o : W.grownBy (W.setCell ⟨g', k * 2 + j, none⟩ u) (some g') := gb_set (gb_refl _ _) ⟨g', k * 2 + j, none⟩ (.inl rfl) _
  have hlt : k * 2 + j < m.ps.length * 2 := by omega
  have h1 := hs (k * 2 + j) u hlt
  rw [flat_set Pl.cells 2 (fun _ => rfl) ⟨0, false⟩ p' j u hj m.ps k hk hp] at h1
  obtain ⟨x, y, kR⟩ := h.kR
  have hbase : w.heap.size ≤ g' := own_base h.p g' (by rw [hv]; rfl)
  refine ⟨h.k.of o (by simpa using hb.ne h.k (by decide)), ⟨x, y, kR.of o (by simpa using hb.ne kR (by decide))⟩, by simpa using h1, h.r.kept o (.inr (own_ne h.r hb (by decide))), gb_new h.g o hbase, h.n⟩
theorem SpS.setR (h : SpS w n3 nR m pv rv W) {g cap k j : Nat} {u : Value} {r' : Rd} (hk : k < m.rs.length) (hj : j < 10) (hr : r'.cells = (m.rs.getD k rd0).cells.set j u) (hv : rv = .slice (some ⟨g, 0, none⟩) m.rs.length cap) :
    SpS w n3 nR ⟨m.ps, m.rs.set k r'⟩ pv rv (W.setCell ⟨g, k * 10 + j, none⟩ u) := by
  obtain ⟨g', cap', hv', ⟨cur, hb⟩, _, _, hs⟩ := own_open h.r (by omega)
  obtain ⟨rfl, rfl⟩ : g' = g ∧ cap' = cap := by rw [hv] at hv'; injection hv' with a b c; injection a with a; injection a with a; exact ⟨a.symm, c.symm⟩
  have o : W.grownBy (W.setCell ⟨g', k * 10 + j, none⟩ u) (some g') := gb_set (gb_refl _ _) ⟨g', k * 10 + j, none⟩ (.inl rfl) _
  have hlt : k * 10 + j < m.rs.length * 10 := by omega
  have h1 := hs (k * 10 + j) u hlt
  rw [flat_set Rd.cells 10 (fun _ => rfl) rd0 r' j u hj m.rs k hk hr] at h1
  obtain ⟨x, y, kR⟩ := h.kR
  have hbase : w.heap.size ≤ g' := own_base h.r g' (by rw [hv]; rfl)
  refine ⟨h.k.of o (by simpa using hb.ne h.k (by decide)), ⟨x, y, kR.of o (by simpa using hb.ne kR (by decide))⟩, h.p.kept o (.inr (own_ne h.p hb (by decide))), by simpa using h1, gb_new h.g o hbase, h.n⟩
theorem SpS.fin (h : SpS w n3 nR m pv rv W) : Bk (setC W nR 0 [pv, rv]) nR #[pv, rv] 26 ∧ MnO (setC W nR 0 [pv, rv]) w.heap.size (.agg #[pv, rv]) m ∧ w.grownBy (setC W nR 0 [pv, rv]) none := by
  obtain ⟨x, y, k⟩ := h.kR
  exact ⟨k.all [pv, rv] rfl, ⟨_, _, rfl, ownsRow_set h.p k (by decide) _, ownsRow_set h.r k (by decide) _⟩, gb_new h.g (setC_gb _ _ _ _) h.n.2⟩
end

theorem own_slc {W : World} {base : Nat} {e : TypeId} {size : Nat} {v : Value} {n : Nat} {xs : List Value} (h : W.ownsRow base e size v n xs) : ∃ a c, v = .slice a n c := by
  rcases h.2 with ⟨h2, rfl⟩ | ⟨g, cap, cur, h2, _⟩ <;> exact ⟨_, _, h2⟩

theorem flat_get_pl (l : List Pl) (k : Nat) (hk : k < l.length) : (l.flatMap Pl.cells)[k * 2]? = some (.int .i64 (l.getD k ⟨0, false⟩).h) := by
  have h := flat_getD Pl.cells 2 (fun _ => rfl) l ⟨0, false⟩ k 0 hk (by omega)
  have hl : k * 2 < (l.flatMap Pl.cells).length := by
    have : (l.flatMap Pl.cells).length = l.length * 2 := by simp [List.length_flatMap, Pl.cells]; rw [List.map_const']; simp
    omega
  rw [Nat.add_zero, List.getD_eq_getElem?_getD, List.getElem?_eq_getElem hl] at h
  rw [List.getElem?_eq_getElem hl]
  simpa [Pl.cells] using h

theorem flat_get_rd (l : List Rd) (k : Nat) (hk : k < l.length) (j : Nat) (hj : j < 10) : (l.flatMap Rd.cells)[k * 10 + j]? = some ((l.getD k rd0).cells.getD j undef) := by
  have h := flat_getD Rd.cells 10 (fun _ => rfl) l rd0 k j hk hj
  have hl : k * 10 + j < (l.flatMap Rd.cells).length := by
    have : (l.flatMap Rd.cells).length = l.length * 10 := by simp [List.length_flatMap, Rd.cells]; rw [List.map_const']; simp
    omega
  rw [List.getD_eq_getElem?_getD, List.getElem?_eq_getElem hl] at h
  rw [List.getElem?_eq_getElem hl]
  simpa using h
theorem wrap_bd (x : Int) : -9223372036854775808 ≤ IntKind.i64.wrap x ∧ IntKind.i64.wrap x ≤ 9223372036854775807 := by
  rw [IntKind.wrap_i64]; omega

theorem mod_ex (k : Int) (n : Nat) (w : World) (hn : 1 ≤ n) (h1 : -9223372036854775808 ≤ k) (h2 : k ≤ 9223372036854775807) (h3 : (n : Int) ≤ 9223372036854775807) :
    Calls Try.prog 23 #[.int .i64 k, .int .i64 n] w fun e w' => ∃ j : Nat, e = .returned (.int .i64 j) ∧ j < n ∧ w = w' := by
  refine (mod_pos k n w (by omega) h1 h2 h3).mono ?_
  rintro e w' ⟨rfl, rfl⟩
  have a := Int.emod_nonneg k (show (n : Int) ≠ 0 by omega)
  have b := Int.emod_lt_of_pos k (show (0 : Int) < n by omega)
  exact ⟨(k % n).toNat, by rw [Int.toNat_of_nonneg a], by omega, rfl⟩
theorem mod_is (k n : Int) (c : Int) (w : World) (hc : k % n = c) (hn : 1 ≤ n) (h1 : -9223372036854775808 ≤ k) (h2 : k ≤ 9223372036854775807) (h3 : n ≤ 9223372036854775807) :
    Calls Try.prog 23 #[.int .i64 k, .int .i64 n] w fun e w' => e = .returned (.int .i64 c) ∧ w = w' := by
  rw [← hc]; exact mod_pos k n w hn h1 h2 h3

set_option maxRecDepth 100000 in
set_option maxHeartbeats 4000000 in
theorem spoilt_any (v : Value) (m : Mn) (at_ by_ : Int) (w : World) (h : MnV w v m) (hp : 1 ≤ m.ps.length) (hp2 : m.ps.length ≤ 100000) (hr2 : m.rs.length ≤ 100000)
    (h1 : -9223372036854775808 ≤ at_) (h2 : at_ ≤ 9223372036854775807) :
    Calls Try.prog 9 #[v, .int .i64 at_, .int .i64 by_] w fun e w' => ∃ m' : Mn, ∃ v', e = .returned v' ∧ MnV w' v' m' ∧ w.grownBy w' none := by
  obtain ⟨a, b, rfl, hpp, hrr⟩ := h
  obtain ⟨pa, pc, rfl, pc1, pc2, hpc⟩ := hpp.shape
  obtain ⟨ra, rc, rfl, rc1, rc2, hrc⟩ := hrr.shape
  have HM := Lib.hid (show MnV w (.agg #[.slice pa m.ps.length pc, .slice ra m.rs.length rc]) m from ⟨_, _, rfl, hpp, hrr⟩)
  clear hpc hrc hpp hrr
  go_enter Try.func9, Try.ntmps9
  go_wp2_with fail
  have k1 := Bk.new w #[.slice pa m.ps.length pc, .slice ra m.rs.length rc] 26
  have k2 := Bk.new (w.alloc (.cells #[.slice pa m.ps.length pc, .slice ra m.rs.length rc] 26)) #[.slice none 0 0, .slice none 0 0] 26
  simp only [World.size_alloc] at k2
  have k1' := k1.of (gb_alloc (gb_refl _ none) (.cells #[.slice none 0 0, .slice none 0 0] 26)) (by simp)
  have g0 := gb_alloc (gb_alloc (gb_refl w none) (.cells #[.slice pa m.ps.length pc, .slice ra m.rs.length rc] 26)) (.cells #[.slice none 0 0, .slice none 0 0] 26)
  clear k1
  generalize (w.alloc _).alloc _ = W at *
  obtain ⟨a, b, hv, hpp, hrr⟩ := HM.out
  injection hv with hv
  simp at hv
  obtain ⟨rfl, rfl⟩ := hv
  refine (copy_any _ m _ ⟨_, _, rfl, Sl.by_ hpp g0, Sl.by_ hrr g0⟩ (by omega) (by omega)).mono ?_
  rintro e w2 ⟨v2, rfl, ⟨pv, rv, rfl, op, or⟩, g2⟩
  obtain ⟨xa, xc, rfl⟩ := own_slc op
  obtain ⟨ya, yc, rfl⟩ := own_slc or
  have k1 := k1'.of g2 (by simp)
  have k2' := k2.of g2 (by simp)
  have hWs := g0.size
  have S3 : SpS w w.heap.size (w.heap.size + 1) m (.slice xa m.ps.length xc) (.slice ya m.rs.length yc) (setC w2 w.heap.size 0 [.slice xa m.ps.length xc, .slice ya m.rs.length yc]) :=
    ⟨k1.all _ rfl, ⟨_, _, k2'.of (setC_gb _ _ _ _) (by simp)⟩, ownsRow_set (own_mono op hWs) k1 (by decide) _, ownsRow_set (own_mono or hWs) k1 (by decide) _, gb_new (gb_same g0 g2) (setC_gb _ _ _ _) (Nat.le_refl _), ⟨Nat.le_refl _, by omega⟩⟩
  simp only [setC] at S3
  have k1c := k1.cell
  have k1f := k1.frozen
  clear hpp hrr k2 k1' op or k1 k2' HM g0 g2 hWs
  have HS := Lib.hid S3
  clear S3
  have hz1 : (m.rs.length : Int) ≤ 100000 := by omega
  have hz2 : (m.ps.length : Int) ≤ 100000 := by omega
  have hz3 : (1 : Int) ≤ (m.ps.length : Int) := by omega
  by_cases hA : m.rs.length = 0 ∨ at_ % 9 = 0
  · have hcase : (((m.rs.length : Int) == 0) = true) ∨ (((m.rs.length : Int) == 0) = false ∧ at_ % 9 = 0) := by
      by_cases h0 : m.rs.length = 0
      · left; simp [h0]
      · right; exact ⟨beq_eq_false_iff_ne.2 (by omega), by omega⟩
    clear hA
    rcases hcase with h0 | ⟨h0, h9⟩
    · go_wp2_with fail
      have S3 := HS.out
      clear HS k1c k1f
      generalize World.setCell (World.setCell w2 _ _) _ _ = W3 at *
      obtain ⟨g, cap, hv, _, hcell, hfree, _⟩ := own_open S3.p (by omega)
      injection hv with hv1 _ hv2
      subst hv1
      subst hv2
      have m0 : W3.cell? ⟨w.heap.size, 0, none⟩ = some (.slice (some ⟨g, 0, none⟩) m.ps.length xc) := S3.k.cell 0
      have HS := Lib.hid S3
      have HL := Lib.hid hcell
      clear S3 hcell
      go_region_held3 (fun w' => w'.cell? ⟨w.heap.size, 0, none⟩ = some (.slice (some ⟨g, 0, none⟩) m.ps.length xc))
        (first | (exact q9) | go_keep)
        ((go_at_call 23; refine (mod_ex _ _ _ hp h1 h2 (by omega)).mono ?_; rintro e w5 ⟨j, rfl, hj, rfl⟩; have hj2 : (j : Int) < (m.ps.length : Int) := (by omega); have q0 : W3.cell? ⟨g, j * 2, none⟩ = some (.int .i64 (m.ps.getD j ⟨0, false⟩).h) := (HL.out (j * 2) (by omega)).trans (flat_get_pl m.ps j hj); have S5 : SpS w w.heap.size (w.heap.size + 1) ⟨m.ps.set j ⟨by_, (m.ps.getD j ⟨0, false⟩).s⟩, m.rs⟩ (.slice (some ⟨g, 0, none⟩) m.ps.length xc) (.slice ya m.rs.length yc) (W3.setCell ⟨g, j * 2, none⟩ (.int .i64 by_)) := (HS.out.setP (p' := ⟨by_, (m.ps.getD j ⟨0, false⟩).s⟩) (u := .int .i64 by_) hj (show 0 < 2 by omega) rfl rfl); have q9 : (World.drew (W3.setCell ⟨g, j * 2, none⟩ (.int .i64 by_))).cell? ⟨w.heap.size, 0, none⟩ = some (.slice (some ⟨g, 0, none⟩) m.ps.length xc) := S5.k.cell 0; have HS5 := Lib.hid S5; clear S5))
      have S5 := HS5.out
      clear q9 q0
      have k0c := S5.k.cell
      obtain ⟨x1, y1, kR⟩ := S5.kR
      have kRc := kR.cell
      have kRf := kR.frozen
      have F := Lib.hid S5.fin
      clear S5 kR HS5
      go_wp2_with fail
      have F := F.out
      simp only [setC] at F
      generalize World.setCell _ ⟨w.heap.size + 1, 1, none⟩ _ = W9 at *
      obtain ⟨fk, fm, fg⟩ := F
      have fkc := fk.cell
      clear kRc kRf k0c
      refine bodyPost_ret (v := .agg #[.slice (some ⟨g, 0, none⟩) m.ps.length xc, .slice ya m.rs.length yc]) (by simp [results, Try.results9, go_sem, fkc]) rfl ?_
      exact ⟨_, _, rfl, fm.v, gb_drew fg⟩
    · have H9 := Lib.hid h9
      clear h9
      go_wp2_with (go_at_call 23; refine (mod_is _ _ 0 _ H9.out (by omega) h1 h2 (by omega)).mono ?_; rintro e w' ⟨rfl, rfl⟩)
      have S3 := HS.out
      clear HS k1c k1f
      generalize World.setCell (World.setCell w2 _ _) _ _ = W3 at *
      obtain ⟨g, cap, hv, _, hcell, hfree, _⟩ := own_open S3.p (by omega)
      injection hv with hv1 _ hv2
      subst hv1
      subst hv2
      have m0 : W3.cell? ⟨w.heap.size, 0, none⟩ = some (.slice (some ⟨g, 0, none⟩) m.ps.length xc) := S3.k.cell 0
      have HS := Lib.hid S3
      have HL := Lib.hid hcell
      clear S3 hcell
      go_region_held3 (fun w' => w'.cell? ⟨w.heap.size, 0, none⟩ = some (.slice (some ⟨g, 0, none⟩) m.ps.length xc))
        (first | (exact q9) | go_keep)
        ((go_at_call 23; refine (mod_ex _ _ _ hp h1 h2 (by omega)).mono ?_; rintro e w5 ⟨j, rfl, hj, rfl⟩; have hj2 : (j : Int) < (m.ps.length : Int) := (by omega); have q0 : W3.cell? ⟨g, j * 2, none⟩ = some (.int .i64 (m.ps.getD j ⟨0, false⟩).h) := (HL.out (j * 2) (by omega)).trans (flat_get_pl m.ps j hj); have S5 : SpS w w.heap.size (w.heap.size + 1) ⟨m.ps.set j ⟨by_, (m.ps.getD j ⟨0, false⟩).s⟩, m.rs⟩ (.slice (some ⟨g, 0, none⟩) m.ps.length xc) (.slice ya m.rs.length yc) (W3.setCell ⟨g, j * 2, none⟩ (.int .i64 by_)) := (HS.out.setP (p' := ⟨by_, (m.ps.getD j ⟨0, false⟩).s⟩) (u := .int .i64 by_) hj (show 0 < 2 by omega) rfl rfl); have q9 : (World.drew (W3.setCell ⟨g, j * 2, none⟩ (.int .i64 by_))).cell? ⟨w.heap.size, 0, none⟩ = some (.slice (some ⟨g, 0, none⟩) m.ps.length xc) := S5.k.cell 0; have HS5 := Lib.hid S5; clear S5))
      have S5 := HS5.out
      clear q9 q0
      have k0c := S5.k.cell
      obtain ⟨x1, y1, kR⟩ := S5.kR
      have kRc := kR.cell
      have kRf := kR.frozen
      have F := Lib.hid S5.fin
      clear S5 kR HS5
      go_wp2_with fail
      have F := F.out
      simp only [setC] at F
      generalize World.setCell _ ⟨w.heap.size + 1, 1, none⟩ _ = W9 at *
      obtain ⟨fk, fm, fg⟩ := F
      have fkc := fk.cell
      clear kRc kRf k0c
      refine bodyPost_ret (v := .agg #[.slice (some ⟨g, 0, none⟩) m.ps.length xc, .slice ya m.rs.length yc]) (by simp [results, Try.results9, go_sem, fkc]) rfl ?_
      exact ⟨_, _, rfl, fm.v, gb_drew fg⟩
  · obtain ⟨h0, h9⟩ : m.rs.length ≠ 0 ∧ at_ % 9 ≠ 0 := by omega
    have h0b : ((m.rs.length : Int) == 0) = false := beq_eq_false_iff_ne.2 (by omega)
    have c1 := Int.emod_nonneg at_ (show (9 : Int) ≠ 0 by omega)
    have c2 := Int.emod_lt_of_pos at_ (show (0 : Int) < 9 by omega)
    obtain ⟨c, hc⟩ : ∃ c, at_ % 9 = c := ⟨_, rfl⟩
    have hcc : c = 1 ∨ c = 2 ∨ c = 3 ∨ c = 4 ∨ c = 5 ∨ c = 6 ∨ c = 7 ∨ c = 8 := by omega
    have HC := Lib.hid hc
    have q0 : (c == 0) = false := by simp; omega
    clear h9 c1 c2 hc hA
    go_wp2_with (go_at_call 23; refine (mod_is _ _ c _ HC.out (by omega) h1 h2 (by omega)).mono ?_; rintro e w' ⟨rfl, rfl⟩)
    have S3 := HS.out
    clear HS k1c k1f
    generalize World.setCell (World.setCell w2 _ _) _ _ = W3 at *
    obtain ⟨g, cap, hv, _, hcell, hfree, _⟩ := own_open S3.r (by omega)
    injection hv with hv1 _ hv2
    subst hv1
    subst hv2
    have m1 : W3.cell? ⟨w.heap.size, 1, none⟩ = some (.slice (some ⟨g, 0, none⟩) m.rs.length yc) := S3.k.cell 1
    have HS := Lib.hid S3
    have HL := Lib.hid hcell
    have hz4 : (1 : Int) ≤ (m.rs.length : Int) := by omega
    clear S3 hcell
    go_region_held3 (fun w' => w'.cell? ⟨w.heap.size, 1, none⟩ = some (.slice (some ⟨g, 0, none⟩) m.rs.length yc))
      (first | go_keep)
      ((go_at_call 23; refine (mod_ex _ _ _ (by omega) (wrap_bd _).1 (wrap_bd _).2 (by omega)).mono ?_; rintro e w5 ⟨k, rfl, hk, rfl⟩; have hk2 : (k : Int) < (m.rs.length : Int) := (by omega)))
    have HL := Lib.hid (show ∀ j, j < 10 → W3.cell? ⟨g, k * 10 + j, none⟩ = some ((m.rs.getD k rd0).cells.getD j undef) from fun j hj => (HL.out (k * 10 + j) (by omega)).trans (flat_get_rd m.rs k hk j hj))
    rcases hcc with rfl | rfl | rfl | rfl | rfl | rfl | rfl | rfl
    · have qj : W3.cell? ⟨g, k * 10, none⟩ = some ((m.rs.getD k rd0).cells.getD 0 undef) := HL.out 0 (by omega)
      obtain ⟨r', hr'⟩ := rd_set (m.rs.getD k rd0) by_ 0 (by omega)
      have S5 : SpS w w.heap.size (w.heap.size + 1) ⟨m.ps, m.rs.set k r'⟩ (.slice xa m.ps.length xc) (.slice (some ⟨g, 0, none⟩) m.rs.length yc) (W3.setCell ⟨g, k * 10, none⟩ (.int .i64 by_)) := HS.out.setR hk (show 0 < 10 by omega) hr' rfl
      have k0c := S5.k.cell
      obtain ⟨x1, y1, kR⟩ := S5.kR
      have kRc := kR.cell
      have kRf := kR.frozen
      have F := Lib.hid S5.fin
      clear hr' HS HL S5 kR
      go_wp2_with (go_at_call 23; refine (mod_is _ _ 1 _ HC.out (by omega) h1 h2 (by omega)).mono ?_; rintro e w' ⟨rfl, rfl⟩)
      have F := F.out
      simp only [setC] at F
      generalize World.setCell _ ⟨w.heap.size + 1, 1, none⟩ _ = W9 at *
      obtain ⟨fk, fm, fg⟩ := F
      have fkc := fk.cell
      clear kRc kRf k0c
      refine bodyPost_ret (v := .agg #[.slice xa m.ps.length xc, .slice (some ⟨g, 0, none⟩) m.rs.length yc]) (by simp [results, Try.results9, go_sem, fkc]) rfl ?_
      exact ⟨_, _, rfl, fm.v, gb_drew fg⟩
    · have qj : W3.cell? ⟨g, k * 10 + 1, none⟩ = some ((m.rs.getD k rd0).cells.getD 1 undef) := HL.out 1 (by omega)
      obtain ⟨r', hr'⟩ := rd_set (m.rs.getD k rd0) by_ 1 (by omega)
      have S5 : SpS w w.heap.size (w.heap.size + 1) ⟨m.ps, m.rs.set k r'⟩ (.slice xa m.ps.length xc) (.slice (some ⟨g, 0, none⟩) m.rs.length yc) (W3.setCell ⟨g, k * 10 + 1, none⟩ (.int .i64 by_)) := HS.out.setR hk (show 1 < 10 by omega) hr' rfl
      have k0c := S5.k.cell
      obtain ⟨x1, y1, kR⟩ := S5.kR
      have kRc := kR.cell
      have kRf := kR.frozen
      have F := Lib.hid S5.fin
      clear hr' HS HL S5 kR
      go_wp2_with (go_at_call 23; refine (mod_is _ _ 2 _ HC.out (by omega) h1 h2 (by omega)).mono ?_; rintro e w' ⟨rfl, rfl⟩)
      have F := F.out
      simp only [setC] at F
      generalize World.setCell _ ⟨w.heap.size + 1, 1, none⟩ _ = W9 at *
      obtain ⟨fk, fm, fg⟩ := F
      have fkc := fk.cell
      clear kRc kRf k0c
      refine bodyPost_ret (v := .agg #[.slice xa m.ps.length xc, .slice (some ⟨g, 0, none⟩) m.rs.length yc]) (by simp [results, Try.results9, go_sem, fkc]) rfl ?_
      exact ⟨_, _, rfl, fm.v, gb_drew fg⟩
    · have qj : W3.cell? ⟨g, k * 10 + 2, none⟩ = some ((m.rs.getD k rd0).cells.getD 2 undef) := HL.out 2 (by omega)
      obtain ⟨r', hr'⟩ := rd_set (m.rs.getD k rd0) by_ 2 (by omega)
      have S5 : SpS w w.heap.size (w.heap.size + 1) ⟨m.ps, m.rs.set k r'⟩ (.slice xa m.ps.length xc) (.slice (some ⟨g, 0, none⟩) m.rs.length yc) (W3.setCell ⟨g, k * 10 + 2, none⟩ (.int .i64 by_)) := HS.out.setR hk (show 2 < 10 by omega) hr' rfl
      have k0c := S5.k.cell
      obtain ⟨x1, y1, kR⟩ := S5.kR
      have kRc := kR.cell
      have kRf := kR.frozen
      have F := Lib.hid S5.fin
      clear hr' HS HL S5 kR
      go_wp2_with (go_at_call 23; refine (mod_is _ _ 3 _ HC.out (by omega) h1 h2 (by omega)).mono ?_; rintro e w' ⟨rfl, rfl⟩)
      have F := F.out
      simp only [setC] at F
      generalize World.setCell _ ⟨w.heap.size + 1, 1, none⟩ _ = W9 at *
      obtain ⟨fk, fm, fg⟩ := F
      have fkc := fk.cell
      clear kRc kRf k0c
      refine bodyPost_ret (v := .agg #[.slice xa m.ps.length xc, .slice (some ⟨g, 0, none⟩) m.rs.length yc]) (by simp [results, Try.results9, go_sem, fkc]) rfl ?_
      exact ⟨_, _, rfl, fm.v, gb_drew fg⟩
    · have qj : W3.cell? ⟨g, k * 10 + 3, none⟩ = some ((m.rs.getD k rd0).cells.getD 3 undef) := HL.out 3 (by omega)
      obtain ⟨r', hr'⟩ := rd_set (m.rs.getD k rd0) by_ 3 (by omega)
      have S5 : SpS w w.heap.size (w.heap.size + 1) ⟨m.ps, m.rs.set k r'⟩ (.slice xa m.ps.length xc) (.slice (some ⟨g, 0, none⟩) m.rs.length yc) (W3.setCell ⟨g, k * 10 + 3, none⟩ (.int .i64 by_)) := HS.out.setR hk (show 3 < 10 by omega) hr' rfl
      have k0c := S5.k.cell
      obtain ⟨x1, y1, kR⟩ := S5.kR
      have kRc := kR.cell
      have kRf := kR.frozen
      have F := Lib.hid S5.fin
      clear hr' HS HL S5 kR
      go_wp2_with (go_at_call 23; refine (mod_is _ _ 4 _ HC.out (by omega) h1 h2 (by omega)).mono ?_; rintro e w' ⟨rfl, rfl⟩)
      have F := F.out
      simp only [setC] at F
      generalize World.setCell _ ⟨w.heap.size + 1, 1, none⟩ _ = W9 at *
      obtain ⟨fk, fm, fg⟩ := F
      have fkc := fk.cell
      clear kRc kRf k0c
      refine bodyPost_ret (v := .agg #[.slice xa m.ps.length xc, .slice (some ⟨g, 0, none⟩) m.rs.length yc]) (by simp [results, Try.results9, go_sem, fkc]) rfl ?_
      exact ⟨_, _, rfl, fm.v, gb_drew fg⟩
    · have qj : W3.cell? ⟨g, k * 10 + 6, none⟩ = some ((m.rs.getD k rd0).cells.getD 6 undef) := HL.out 6 (by omega)
      obtain ⟨r', hr'⟩ := rd_set (m.rs.getD k rd0) by_ 6 (by omega)
      have S5 : SpS w w.heap.size (w.heap.size + 1) ⟨m.ps, m.rs.set k r'⟩ (.slice xa m.ps.length xc) (.slice (some ⟨g, 0, none⟩) m.rs.length yc) (W3.setCell ⟨g, k * 10 + 6, none⟩ (.int .i64 by_)) := HS.out.setR hk (show 6 < 10 by omega) hr' rfl
      have k0c := S5.k.cell
      obtain ⟨x1, y1, kR⟩ := S5.kR
      have kRc := kR.cell
      have kRf := kR.frozen
      have F := Lib.hid S5.fin
      clear hr' HS HL S5 kR
      go_wp2_with (go_at_call 23; refine (mod_is _ _ 5 _ HC.out (by omega) h1 h2 (by omega)).mono ?_; rintro e w' ⟨rfl, rfl⟩)
      have F := F.out
      simp only [setC] at F
      generalize World.setCell _ ⟨w.heap.size + 1, 1, none⟩ _ = W9 at *
      obtain ⟨fk, fm, fg⟩ := F
      have fkc := fk.cell
      clear kRc kRf k0c
      refine bodyPost_ret (v := .agg #[.slice xa m.ps.length xc, .slice (some ⟨g, 0, none⟩) m.rs.length yc]) (by simp [results, Try.results9, go_sem, fkc]) rfl ?_
      exact ⟨_, _, rfl, fm.v, gb_drew fg⟩
    · have qj : W3.cell? ⟨g, k * 10 + 7, none⟩ = some ((m.rs.getD k rd0).cells.getD 7 undef) := HL.out 7 (by omega)
      obtain ⟨r', hr'⟩ := rd_set (m.rs.getD k rd0) by_ 7 (by omega)
      have S5 : SpS w w.heap.size (w.heap.size + 1) ⟨m.ps, m.rs.set k r'⟩ (.slice xa m.ps.length xc) (.slice (some ⟨g, 0, none⟩) m.rs.length yc) (W3.setCell ⟨g, k * 10 + 7, none⟩ (.int .i64 by_)) := HS.out.setR hk (show 7 < 10 by omega) hr' rfl
      have k0c := S5.k.cell
      obtain ⟨x1, y1, kR⟩ := S5.kR
      have kRc := kR.cell
      have kRf := kR.frozen
      have F := Lib.hid S5.fin
      clear hr' HS HL S5 kR
      go_wp2_with (go_at_call 23; refine (mod_is _ _ 6 _ HC.out (by omega) h1 h2 (by omega)).mono ?_; rintro e w' ⟨rfl, rfl⟩)
      have F := F.out
      simp only [setC] at F
      generalize World.setCell _ ⟨w.heap.size + 1, 1, none⟩ _ = W9 at *
      obtain ⟨fk, fm, fg⟩ := F
      have fkc := fk.cell
      clear kRc kRf k0c
      refine bodyPost_ret (v := .agg #[.slice xa m.ps.length xc, .slice (some ⟨g, 0, none⟩) m.rs.length yc]) (by simp [results, Try.results9, go_sem, fkc]) rfl ?_
      exact ⟨_, _, rfl, fm.v, gb_drew fg⟩
    · have qj : W3.cell? ⟨g, k * 10 + 8, none⟩ = some ((m.rs.getD k rd0).cells.getD 8 undef) := HL.out 8 (by omega)
      obtain ⟨r', hr'⟩ := rd_set (m.rs.getD k rd0) by_ 8 (by omega)
      have S5 : SpS w w.heap.size (w.heap.size + 1) ⟨m.ps, m.rs.set k r'⟩ (.slice xa m.ps.length xc) (.slice (some ⟨g, 0, none⟩) m.rs.length yc) (W3.setCell ⟨g, k * 10 + 8, none⟩ (.int .i64 by_)) := HS.out.setR hk (show 8 < 10 by omega) hr' rfl
      have k0c := S5.k.cell
      obtain ⟨x1, y1, kR⟩ := S5.kR
      have kRc := kR.cell
      have kRf := kR.frozen
      have F := Lib.hid S5.fin
      clear hr' HS HL S5 kR
      go_wp2_with (go_at_call 23; refine (mod_is _ _ 7 _ HC.out (by omega) h1 h2 (by omega)).mono ?_; rintro e w' ⟨rfl, rfl⟩)
      have F := F.out
      simp only [setC] at F
      generalize World.setCell _ ⟨w.heap.size + 1, 1, none⟩ _ = W9 at *
      obtain ⟨fk, fm, fg⟩ := F
      have fkc := fk.cell
      clear kRc kRf k0c
      refine bodyPost_ret (v := .agg #[.slice xa m.ps.length xc, .slice (some ⟨g, 0, none⟩) m.rs.length yc]) (by simp [results, Try.results9, go_sem, fkc]) rfl ?_
      exact ⟨_, _, rfl, fm.v, gb_drew fg⟩
    · have qj : W3.cell? ⟨g, k * 10 + 9, none⟩ = some ((m.rs.getD k rd0).cells.getD 9 undef) := HL.out 9 (by omega)
      obtain ⟨r', hr'⟩ := rd_set (m.rs.getD k rd0) by_ 9 (by omega)
      have S5 : SpS w w.heap.size (w.heap.size + 1) ⟨m.ps, m.rs.set k r'⟩ (.slice xa m.ps.length xc) (.slice (some ⟨g, 0, none⟩) m.rs.length yc) (W3.setCell ⟨g, k * 10 + 9, none⟩ (.int .i64 by_)) := HS.out.setR hk (show 9 < 10 by omega) hr' rfl
      have k0c := S5.k.cell
      obtain ⟨x1, y1, kR⟩ := S5.kR
      have kRc := kR.cell
      have kRf := kR.frozen
      have F := Lib.hid S5.fin
      clear hr' HS HL S5 kR
      go_wp2_with (go_at_call 23; refine (mod_is _ _ 8 _ HC.out (by omega) h1 h2 (by omega)).mono ?_; rintro e w' ⟨rfl, rfl⟩)
      have F := F.out
      simp only [setC] at F
      generalize World.setCell _ ⟨w.heap.size + 1, 1, none⟩ _ = W9 at *
      obtain ⟨fk, fm, fg⟩ := F
      have fkc := fk.cell
      clear kRc kRf k0c
      refine bodyPost_ret (v := .agg #[.slice xa m.ps.length xc, .slice (some ⟨g, 0, none⟩) m.rs.length yc]) (by simp [results, Try.results9, go_sem, fkc]) rfl ?_
      exact ⟨_, _, rfl, fm.v, gb_drew fg⟩
end Go.Proofs.Ytbiikgkfklhohaa
