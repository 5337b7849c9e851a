/- Stage 8, made doors: slices that are given up, and that there always is an answer. -/
import Derived.Test.YtegimoedpoemfaaG3
namespace Go.Proofs.Ytegimoedpoemfaa.Ab
open Go
attribute [local irreducible] arun

/-- A value of a call's own, given up: it reads as y. -/
def Frz (outs : List Blk) (x y : AV) : Prop :=
  ∀ (F : Fr) (σ : Nat → Value) (w : World) (v : Value), RelH F (Hof outs) σ w → VR w (Mut F (Hof outs) σ) σ (Ver (Hof outs)) x v → PR w F.mx y v
theorem frz_row {outs : List Blk} {id sz n : Nat} {e : TypeId} {f : Nat → List AV} (h : outs[id]? = some (.row 0 sz n e f)) : Frz outs (.own id 0) (.slc sz n f) := by
  intro F σ w v rel hv
  have hb : Hof outs id = some (.row 0 sz n e f) := h
  rw [hv.own_inv (ver_of hb)]
  exact (rel.bl id _ hb).row_slc (fun g hg => .inl hg) (fun g hg => (rel.new id _ g hb trivial hg).2.2)
theorem frz_nil {outs : List Blk} {id : Nat} (sz : Nat) (f : Nat → List AV) (h : outs[id]? = some (.nilrow 0)) : Frz outs (.own id 0) (.slc sz 0 f) := by
  intro F σ w v rel hv
  have hb : Hof outs id = some (.nilrow 0) := h
  rw [hv.own_inv (ver_of hb)]
  exact .slc0 _ _ _ (.inl (rel.bl id _ hb))
theorem frz_pure {outs : List Blk} {x : AV} (h : x.plain = true) : Frz outs x x := by
  intro F σ w v _ hv
  exact (hv.plain_pr h).grow (fun _ _ _ => rfl) (fun g _ hg => .inl hg)
theorem frz_lrow {outs : List Blk} {id sz n : Nat} {e : TypeId} {cells cells' : List AV} {f : Nat → List AV} (h : outs[id]? = some (.lrow 0 sz n e cells)) (hl : cells'.length = cells.length)
    (hc : ∀ j, j < cells.length → Frz outs (cells.getD j .undef) (cells'.getD j .undef)) (hf : ∀ k, k < n → f k = rowOf sz cells' k) : Frz outs (.own id 0) (.slc sz n f) := by
  intro F σ w v rel hv
  have hb : Hof outs id = some (.lrow 0 sz n e cells) := h
  obtain ⟨h0, h0', hcl, g, cap, cur, xs, k1, k2, k3, k4, k5, k6, k7, k8⟩ := (rel.bl id _ hb).lrow_cells
  rw [hv.own_inv (ver_of hb), k2]
  have hrow : ∀ k, k < n → (k + 1) * sz ≤ n * sz := fun k hk => Nat.mul_le_mul_right _ hk
  refine .slc sz n f g 0 cap (fun k j => xs.getD (k * sz + j) Go.undef) h0' k3 k4 (fun k hk => ?_) (fun k j hk hj => ?_) (fun k j hk hj => ?_)
  · have h2 := hrow k hk
    rw [Nat.add_mul, Nat.one_mul] at h2
    rw [hf k hk]
    simp [rowOf]
    omega
  · have hlt := row_ix hk hj
    rw [Nat.zero_add]
    exact ⟨(rel.new id _ g hb trivial (by rw [k2]; rfl)).2.2, (k8 _ hlt).1, (k8 _ hlt).2.2⟩
  · have hlt := row_ix hk hj
    have e1 : (f k).getD j .undef = cells'.getD (k * sz + j) .undef := by
      rw [hf k hk]
      simp [rowOf, List.getD_eq_getElem?_getD, hj, List.getElem?_drop]
    rw [e1]
    exact hc _ (by omega) F σ w _ rel (k8 _ hlt).2.1
theorem own_none (σ : Nat → Value) (g : Nat) : ¬ Own (Hof []) σ g := fun ⟨id, b, h1, _⟩ => by simp [Hof] at h1
/-- An answer of two slices, both given up. -/
theorem Tells.frz {P : Program} {f : FuncId} {S S' : List AV → List Blk → Option Ans} (h : Tells P f S)
    (hs : ∀ xs ins r x, S' xs ins = some r → r.get = some x → ins = [] ∧ r.outs x = [] ∧ ∃ y1 y2 z1 z2 r0 x0, r.av x = .tup [y1, y2] ∧ S xs [] = some r0 ∧ r0.get = some x0 ∧ r0.av x0 = .tup [z1, z2] ∧ Frz (r0.outs x0) z1 y1 ∧ Frz (r0.outs x0) z2 y2) : Tells P f S' := by
  intro xs ins r x hr hx
  obtain ⟨rfl, ho, y1, y2, z1, z2, r0, x0, e1, e2, e3, e4, f1, f2⟩ := hs xs ins r x hr hx
  obtain ⟨g1, g2⟩ := h xs [] r0 x0 e2 e3
  refine ⟨g1, fun F σ w vs hw hm rel hl hv => (g2 F σ w vs hw hm rel hl hv).mono fun e w' ⟨v, σ', k1, k2, k3, k4, k5, k6⟩ => ⟨v, σ', k1, ?_, ?_, ?_, ?_, k6⟩⟩
  · rw [ho]
    exact ⟨k2.os, k2.tape, k2.output, k2.size, k2.old, fun id b h => by simp [Hof] at h, fun id _ b _ _ _ h => by simp [Hof] at h, fun id b _ h => by simp [Hof] at h, k2.mxl⟩
  · rw [ho, e1]
    rw [e4] at k3
    obtain ⟨us, rfl, u2, u3⟩ := k3.tup_inv
    have hM : ∀ g, Mut F (Hof []) σ' g → F.mx g := fun g hg => hg.resolve_right (own_none σ' g)
    refine .tup _ us u2 fun j hj => ?_
    match j, hj with
    | 0, _ => exact .pure ((f1 F σ' w' _ k2 (u3 0 (by simp))).grow (fun _ _ _ => rfl) (fun g _ hg => hM g hg))
    | 1, _ => exact .pure ((f2 F σ' w' _ k2 (u3 1 (by simp))).grow (fun _ _ _ => rfl) (fun g _ hg => hM g hg))
  · exact Nat.zero_le _
  · rw [ho]; intro b hb; cases hb

/-- Doors, as they are read. -/
structure Ds where
  n : Nat
  road : Nat → Int
  other : Nat → Int
  len : Nat → Nat
  rest : Nat → Nat → Int
def doorsF (d : Ds) (k : Nat) : List AV := [.int .i64 (d.road k), .int .i64 (d.other k), .slc 1 (d.len k) (intsF (d.rest k))]
def intOf : List AV → Int
  | [.int .i64 z] => z
  | _ => 0
def Shape (f : Nat → List AV) : Prop := ∀ j, ∃ z, f j = [.int .i64 z]
theorem Shape.ints (q : Nat → Int) : Shape (intsF q) := fun j => ⟨q j, rfl⟩
theorem Shape.eq {f : Nat → List AV} (h : Shape f) : f = intsF fun j => intOf (f j) := by
  funext j
  obtain ⟨z, e⟩ := h j
  rw [intsF, e]
  rfl
structure MDok (d : MD) : Prop where
  lo : 1 ≤ d.k
  hi : d.k ≤ 8
  sh : Shape d.f
def allD (ds : List MD) : Prop := ∀ d ∈ ds, MDok d
theorem lenD_eq (ds : List MD) : lenD ds = ds.length := by
  induction ds with
  | nil => rfl
  | cons d ds ih => simp [lenD, ih]
def frozen : List MD → List AV
  | [] => []
  | d :: ds => .int .i64 d.road :: .int .i64 d.other :: .slc 1 d.k d.f :: frozen ds
theorem frozen_len (ds : List MD) : (frozen ds).length = 3 * ds.length := by
  induction ds with
  | nil => rfl
  | cons d ds ih => simp [frozen, ih]; omega
theorem cellsD_len (ds : List MD) : ∀ i, (cellsD i ds).length = 3 * ds.length := by
  induction ds with
  | nil => intro i; rfl
  | cons d ds ih => intro i; simp [cellsD, ih]; omega
theorem frz_cells {outs : List Blk} : ∀ (ds : List MD) (i : Nat), (∀ t, t < ds.length → outs[i + t]? = (rowsD ds)[t]?) → ∀ j, j < 3 * ds.length → Frz outs ((cellsD i ds).getD j .undef) ((frozen ds).getD j .undef) := by
  intro ds
  induction ds with
  | nil => intro i _ j hj; simp at hj
  | cons d ds ih =>
    intro i h j hj
    match j with
    | 0 => exact frz_pure rfl
    | 1 => exact frz_pure rfl
    | 2 =>
      have := h 0 (by simp)
      exact frz_row (by simpa [rowsD] using this)
    | j + 3 =>
      have := ih (i + 1) (fun t ht => by
        have := h (t + 1) (by simpa using ht)
        rw [show i + 1 + t = i + (t + 1) by omega, this]
        rfl) j (by simp at hj; omega)
      simpa [cellsD, frozen] using this
def dflt : MD := ⟨0, 0, 1, intsF fun _ => 0⟩
/-- The doors of a list. -/
def dsOf (ds : List MD) : Ds := ⟨ds.length, fun k => (ds.getD k dflt).road, fun k => (ds.getD k dflt).other, fun k => (ds.getD k dflt).k, fun k j => intOf ((ds.getD k dflt).f j)⟩
theorem doors_row (ds : List MD) (hd : allD ds) : ∀ k, k < ds.length → doorsF (dsOf ds) k = rowOf 3 (frozen ds) k := by
  have key : ∀ (ds : List MD) k, k < ds.length → rowOf 3 (frozen ds) k = [.int .i64 (ds.getD k dflt).road, .int .i64 (ds.getD k dflt).other, .slc 1 (ds.getD k dflt).k (ds.getD k dflt).f] := by
    intro ds
    induction ds with
    | nil => intro k hk; simp at hk
    | cons d ds ih =>
      intro k hk
      cases k with
      | zero => rfl
      | succ k =>
        have := ih k (by simpa using hk)
        rw [List.getD_cons_succ, ← this]
        unfold rowOf
        rw [show (k + 1) * 3 = k * 3 + 3 by omega]
        rfl
  intro k hk
  rw [key ds k hk]
  unfold doorsF dsOf
  have hm : MDok (ds.getD k dflt) := hd _ (by rw [List.getD_eq_getElem?_getD, List.getElem?_eq_getElem hk]; exact List.getElem_mem hk)
  dsimp only
  rw [← hm.sh.eq]
/-- What is known of made doors and states. -/
structure DsOK (x : Ds × Nat × (Nat → Int)) : Prop where
  n : x.1.n ≤ 8
  m : x.2.1 ≤ 8
  len : ∀ k, k < x.1.n → 1 ≤ x.1.len k ∧ x.1.len k ≤ 8
def Out8 (y : OutD) (x : Ds × Nat × (Nat → Int)) : Prop := ∃ z1 z2, y.1 = .tup [z1, z2] ∧ Frz y.2 z1 (.slc 3 x.1.n (doorsF x.1)) ∧ Frz y.2 z2 (.slc 1 x.2.1 (intsF x.2.2))
def Good8 (o : Option OutD) : Prop := ∃ y x, o = some y ∧ DsOK x ∧ Out8 y x
theorem dsOf_ok {ds : List MD} (hd : allD ds) : ∀ k, k < (dsOf ds).n → 1 ≤ (dsOf ds).len k ∧ (dsOf ds).len k ≤ 8 := fun k hk => by
  have hk : k < ds.length := hk
  have hm : MDok (ds.getD k dflt) := hd _ (by rw [List.getD_eq_getElem?_getD, List.getElem?_eq_getElem hk]; exact List.getElem_mem hk)
  exact ⟨hm.lo, hm.hi⟩
theorem outD_good {ds : List MD} (hd : allD ds) (hn : ds.length ≤ 8) {m : Nat} (hm : m ≤ 8) {G : Nat → List AV} (hG : Shape G) : Good8 (outD ds m G) := by
  refine ⟨_, (dsOf ds, m, fun j => intOf (G j)), rfl, ⟨hn, hm, dsOf_ok hd⟩, .own 0 0, .own 1 0, rfl, ?_, ?_⟩
  · refine frz_lrow (cells := cellsD 2 ds) (cells' := frozen ds) (by rw [show lenD ds = (dsOf ds).n from lenD_eq ds]; rfl) (by rw [frozen_len, cellsD_len]) (fun j hj => ?_) (fun k hk => doors_row ds hd k hk)
    rw [cellsD_len] at hj
    refine frz_cells ds 2 (fun t _ => ?_) j hj
    rw [Nat.add_comm]
    rfl
  · rw [← hG.eq]
    exact frz_row rfl
theorem setD_len (d : MD) : ∀ (ds : List MD) (i : Nat), (setD d i ds).length = ds.length := by
  intro ds
  induction ds with
  | nil => intro i; cases i <;> rfl
  | cons e ds ih => intro i; cases i with
    | zero => rfl
    | succ i => simp [setD, ih]
theorem setD_ok {d : MD} (hd : MDok d) : ∀ (ds : List MD) (i : Nat), allD ds → allD (setD d i ds) := by
  intro ds
  induction ds with
  | nil => intro i h; cases i <;> exact h
  | cons e ds ih =>
    intro i h
    cases i with
    | zero =>
      intro x hx
      rcases List.mem_cons.1 hx with rfl | hx
      · exact hd
      · exact h x (List.mem_cons_of_mem _ hx)
    | succ i =>
      intro x hx
      rcases List.mem_cons.1 hx with rfl | hx
      · exact h _ (List.mem_cons_self ..)
      · exact ih i (fun y hy => h y (List.mem_cons_of_mem _ hy)) x hx
section
variable {n : Nat} {b : Nat → Int} (hn : n ≤ 300)
include hn
theorem rd4_good {at' by' : Int} {ds : List MD} (hd : allD ds) (hl : ds.length ≤ 8) {a : Int} (ha : 0 ≤ a) (ha' : a ≤ 300) {m : Nat} (hm : m ≤ 8) {G : Nat → List AV} (hG : Shape G) (i : Nat) {d : MD} (hk : MDok d) :
    Good8 (rd4 n (bytesF b) at' by' ds a m G i d) := by
  obtain ⟨v, a1, e1, _⟩ := nextG_ex n b a 10 hn ha ha'
  unfold rd4
  rw [e1]
  dsimp only
  have one : ∀ d', MDok d' → Good8 (outD (setD d' i ds) m G) := fun d' h => outD_good (setD_ok h ds i hd) (by rw [setD_len]; exact hl) hm hG
  cases v == 1 with
  | true => exact one _ ⟨hk.lo, hk.hi, hk.sh⟩
  | false =>
    dsimp only
    cases v == 2 with
    | true =>
      dsimp only
      have := modV_range (k := at') (n := (d.k : Int)) (by have := hk.lo; omega) (by have := hk.hi; omega)
      rw [show decide (0 ≤ modV at' d.k ∧ modV at' d.k < d.k) = true from decide_eq_true this]
      refine one _ ⟨hk.lo, hk.hi, fun j => ?_⟩
      dsimp only
      split
      · obtain ⟨z, e⟩ := hk.sh (modV at' d.k).toNat
        rw [e]
        exact ⟨by', rfl⟩
      · exact hk.sh j
    | false =>
      dsimp only
      cases v == 3 with
      | true => exact one _ ⟨hk.lo, hk.hi, hk.sh⟩
      | false =>
        dsimp only
        cases v == 4 with
        | false => exact outD_good hd hl hm hG
        | true =>
          dsimp only
          refine ⟨_, (dsOf ds, m - 1, fun j => intOf (G (j + 1))), rfl, ⟨hl, (by dsimp only; omega), dsOf_ok hd⟩, .own 0 0, _, rfl, ?_, ?_⟩
          · refine frz_lrow (cells := cellsD 1 ds) (cells' := frozen ds) (by rw [show lenD ds = (dsOf ds).n from lenD_eq ds]; rfl) (by rw [frozen_len, cellsD_len]) (fun j hj => ?_) (fun k hk => doors_row ds hd k hk)
            rw [cellsD_len] at hj
            refine frz_cells ds 1 (fun t _ => ?_) j hj
            rw [Nat.add_comm]
            rfl
          · have e : (fun k => G (k + 1)) = intsF fun j => intOf (G (j + 1)) := Shape.eq (f := fun k => G (k + 1)) (fun j => hG (j + 1))
            rw [← e]
            exact frz_pure rfl
theorem rd3_good {at' by' : Int} {ds : List MD} (hd : allD ds) (hl : ds.length ≤ 8) {a : Int} (ha : 0 ≤ a) (ha' : a ≤ 300) {m : Nat} (hm : m ≤ 8) {G : Nat → List AV} (hG : Shape G) :
    ∀ (r : List MD) (i : Nat), allD r → (i : Int) ≤ modV at' ((lenD ds : Nat) : Int) → modV at' ((lenD ds : Nat) : Int) < (i : Int) + r.length → Good8 (rd3 n (bytesF b) at' by' ds a m G r i) := by
  intro r
  induction r with
  | nil => intro i _ h1 h2; simp at h2; omega
  | cons d r ih =>
    intro i hr h1 h2
    unfold rd3
    by_cases hc : modV at' ((lenD ds : Nat) : Int) = ((i : Nat) : Int)
    · rw [show decide (modV at' ((lenD ds : Nat) : Int) = ((i : Nat) : Int)) = true from decide_eq_true hc]
      exact rd4_good hn hd hl ha ha' hm hG i (hr d (List.mem_cons_self ..))
    · rw [show decide (modV at' ((lenD ds : Nat) : Int) = ((i : Nat) : Int)) = false from decide_eq_false hc]
      exact ih (i + 1) (fun x hx => hr x (List.mem_cons_of_mem _ hx)) (by omega) (by simp at h2; omega)
omit hn in
theorem rdT_nil {at' by' a : Int} {m : Nat} {G : Nat → List AV} : Good8 (rdT n (bytesF b) at' by' [] a m G) :=
  ⟨_, (⟨0, fun _ => 0, fun _ => 0, fun _ => 0, fun _ _ => 0⟩, 0, fun _ => 0), rfl, ⟨Nat.zero_le _, Nat.zero_le _, fun k hk => absurd hk (Nat.not_lt_zero k)⟩, .own 0 0, .own 1 0, rfl, frz_nil _ _ rfl, frz_nil _ _ rfl⟩
theorem rdT_good {at' by' : Int} {ds : List MD} (hd : allD ds) (hl : ds.length ≤ 8) {a : Int} (ha : 0 ≤ a) (ha' : a ≤ 300) {m : Nat} (hm : m ≤ 8) {G : Nat → List AV} (hG : Shape G) : Good8 (rdT n (bytesF b) at' by' ds a m G) := by
  cases ds with
  | nil => exact rdT_nil
  | cons d ds =>
    have hpos : 0 < (d :: ds).length := by simp
    have := modV_range (k := at') (n := ((lenD (d :: ds) : Nat) : Int)) (by rw [lenD_eq]; omega) (by rw [lenD_eq]; omega)
    refine rd3_good hn hd hl ha ha' hm hG (d :: ds) 0 hd (by simpa using this.1) ?_
    have h2 := this.2
    rw [lenD_eq] at h2 ⊢
    simpa using h2
theorem rd2_good {K : Int → Nat → (Nat → List AV) → Option OutD} {M : Nat} (hM : M ≤ 8) (hK : ∀ a G, 0 ≤ a → a ≤ 300 → Shape G → Good8 (K a M G)) : ∀ (ds : List MD) (a : Int) (m : Nat) (G : Nat → List AV), m + ds.length = M → 0 ≤ a → a ≤ 300 → (0 < m ∨ ds = [] → Shape G) → Good8 (rd2 n (bytesF b) K ds a m G) := by
  intro ds
  induction ds with
  | nil => intro a m G hm h0 h1 hG; simp at hm; subst hm; exact hK a G h0 h1 (hG (.inr rfl))
  | cons d ds ih =>
    intro a m G hm h0 h1 hG
    obtain ⟨v, a1, e1, q⟩ := nextG_ex n b a (wr ((d.k : Int) + 1)) hn h0 h1
    unfold rd2
    rw [e1]
    dsimp only
    refine ih a1 (m + 1) _ (by simp at hm; omega) q.lo q.hi fun _ => ?_
    have one : Shape (rowC 1 1 [.int .i64 (wr (v - 1))]) := fun j => ⟨_, rowC_1 _ j⟩
    cases m with
    | zero => exact one
    | succ m =>
      intro j
      dsimp only
      split
      · exact hG (.inl (by omega)) j
      · exact one _
/-- A round, and those behind it. -/
def PN (r : Nat) (next : Int → Int → List MD → (Int → List MD → Option OutD) → Option OutD) : Prop :=
  ∀ (cnt a : Int) (ds : List MD) (K : Int → List MD → Option OutD), cnt ≤ r → ds.length + 2 * r ≤ 8 → 0 ≤ a → a ≤ 300 → allD ds → (∀ a ds, 0 ≤ a → a ≤ 300 → allD ds → ds.length ≤ 8 → Good8 (K a ds)) → Good8 (next cnt a ds K)
omit hn in
theorem pn_zero (next : Int → Int → List MD → (Int → List MD → Option OutD) → Option OutD) : PN 0 (rd1 n (bytesF b) next) := by
  intro cnt a ds K hc hl h0 h1 hd hK
  unfold rd1
  rw [show decide (cnt > 0) = false from decide_eq_false (by simpa using hc)]
  exact hK a ds h0 h1 hd (by omega)
theorem pn_succ {r : Nat} {next : Int → Int → List MD → (Int → List MD → Option OutD) → Option OutD} (h : PN r next) : PN (r + 1) (rd1 n (bytesF b) next) := by
  intro cnt a ds K hc hl h0 h1 hd hK
  unfold rd1
  by_cases hcnt : cnt > 0
  · rw [show decide (cnt > 0) = true from decide_eq_true hcnt]
    have hw : wr (cnt - 1) = cnt - 1 := wr_small (by omega) (by omega)
    obtain ⟨f, a1, e1, q1, q2⟩ := oneG_ex n b a 2 hn h0 h1
    dsimp only
    rw [e1]
    dsimp only
    cases f with
    | true =>
      obtain ⟨y, a2, e2, p2⟩ := nextG_ex n b a1 3 hn q1 q2
      obtain ⟨z, a3, e3, p3⟩ := nextG_ex n b a2 3 hn p2.lo p2.hi
      obtain ⟨x, e4, x1, x2, x3, x4, x5, x6⟩ := doubleG_ex n b a3 ((lenD ds : Nat) : Int) y z hn p3.lo p3.hi
      dsimp only
      rw [e2]
      dsimp only
      rw [e3]
      dsimp only
      rw [e4]
      dsimp only
      rw [hw]
      refine h _ _ _ _ (by omega) (by simp; omega) x5 x6 (fun d hd' => ?_) hK
      rcases List.mem_append.1 hd' with hd' | hd'
      · exact hd d hd'
      · rcases List.mem_cons.1 hd' with rfl | hd'
        · exact ⟨x1, x2, .ints _⟩
        · obtain rfl := List.mem_singleton.1 hd'
          exact ⟨x3, x4, .ints _⟩
    | false =>
      obtain ⟨y, a2, e2, p2⟩ := nextG_ex n b a1 3 hn q1 q2
      obtain ⟨k, q, a3, e3, x1, x2, x3, x4⟩ := doorG_ex n b a2 y hn p2.lo p2.hi
      dsimp only
      rw [e2]
      dsimp only
      rw [e3]
      dsimp only
      rw [hw]
      refine h _ _ _ _ (by omega) (by simp; omega) x3 x4 (fun d hd' => ?_) hK
      rcases List.mem_append.1 hd' with hd' | hd'
      · exact hd d hd'
      · obtain rfl := List.mem_singleton.1 hd'
        exact ⟨x1, x2, .ints _⟩
  · rw [show decide (cnt > 0) = false from decide_eq_false hcnt]
    exact hK a ds h0 h1 hd (by omega)
theorem rdAll_good (at' by' : Int) : Good8 (rdAll n (bytesF b) at' by') := by
  obtain ⟨v, a1, e1, q⟩ := nextG_ex n b 0 4 hn (by omega) (by omega)
  unfold rdAll
  rw [e1]
  dsimp only
  refine pn_succ hn (pn_succ hn (pn_succ hn (pn_zero _))) v a1 [] _ (by have := q.lt (by omega); omega) (by simp) q.lo q.hi (fun d hd => by cases hd) fun a ds h0 h1 hd hl => ?_
  by_cases hnil : ds = []
  · subst hnil
    exact rdT_nil
  · exact rd2_good hn hl (fun a G q0 q1 hG => rdT_good hn hd hl q0 q1 hl hG) ds a 0 _ (Nat.zero_add _) h0 h1 (fun h => h.elim (fun h => absurd h (by omega)) fun h => absurd h hnil)
end
/-- What is told of made doors. -/
noncomputable def doorsG (n : Nat) (F : Nat → List AV) (at' by' : Int) : Option (Ds × Nat × (Nat → Int)) :=
  theOne fun x => DsOK x ∧ ∃ y, arun envDs Try.f9 [.slc 1 n F, .int .i64 at', .int .i64 by'] [] = some y ∧ Out8 y x
theorem doorsG_ex (n : Nat) (b : Nat → Int) (at' by' : Int) : ∃ x, doorsG n (bytesF b) at' by' = some x ∧ DsOK x := by
  obtain ⟨y, x, h1, h2, h3⟩ := rdAll_good (n := (cut300 n).toNat) (b := b) (cut300_ok n).2.2 at' by'
  obtain ⟨x, e, h, _⟩ := theOne_some (p := fun x => DsOK x ∧ ∃ y, arun envDs Try.f9 [.slc 1 n (bytesF b), .int .i64 at', .int .i64 by'] [] = some y ∧ Out8 y x) ⟨x, h2, y, by rw [run_doors]; exact h1, h3⟩
  exact ⟨x, e, h⟩
noncomputable def doors? : List AV → List Blk → Option Ans
  | [.slc 1 n F, .int .i64 at', .int .i64 by'], [] => some ⟨⟨_, doorsG n F at' by', fun x => .tup [.slc 3 x.1.n (doorsF x.1), .slc 1 x.2.1 (intsF x.2.2)], fun _ => []⟩, fun _ => false, fun _ h => by cases h⟩
  | _, _ => none
theorem envDs_ok : ∀ f, Tells Try.prog f (envDs.fs f) := by
  intro f
  by_cases h1 : f = 12
  · subst h1; exact tells_mod
  by_cases h2 : f = 22
  · subst h2; exact tells_new
  by_cases h3 : f = 23
  · subst h3; exact tells_next
  by_cases h4 : f = 24
  · subst h4; exact tells_one
  by_cases h5 : f = 26
  · subst h5; exact tells_door
  by_cases h6 : f = 25
  · subst h6; exact tells_double
  have : envDs.fs f = fun _ _ => none := by
    unfold envDs envS
    dsimp only
    split
    · exact absurd rfl h1
    · exact absurd rfl h2
    · exact absurd rfl h3
    · exact absurd rfl h4
    · exact absurd rfl h5
    · exact absurd rfl h6
    · rfl
  rw [this]
  exact Tells.none_ f
theorem tells_doors : Tells Try.prog 9 doors? := by
  refine Tells.frz (arun_tells (E := envDs) rfl Try.pok envDs_ok Try.func9 (fun c _ => loops_none (E := { envDs with nt := _ }) (fun _ => rfl) c)) fun xs ins r x h hx => ?_
  unfold doors? at h
  split at h
  · injection h with h
    subst h
    obtain ⟨_, y, e, z1, z2, e2, f1, f2⟩ := theOne_spec (show theOne _ = some x from hx)
    exact ⟨rfl, rfl, _, _, z1, z2, runAns envDs _ _ _, y, rfl, rfl, e, e2, f1, f2⟩
  · cases h
end Go.Proofs.Ytegimoedpoemfaa.Ab
