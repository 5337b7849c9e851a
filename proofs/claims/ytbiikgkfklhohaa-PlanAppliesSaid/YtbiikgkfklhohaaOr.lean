/- PlanOrders: what is known between its statements. -/
import Derived.Test.YtbiikgkfklhohaaCf
import Derived.Test.YtbiikgkfklhohaaSm
import Derived.Test.YtbiikgkfklhohaaOm
import Derived.Test.YtbiikgkfklhohaaAw
import Derived.Deep.Cut
import Derived.Deep.MidRow
namespace Go.Proofs.Ytbiikgkfklhohaa
open Go.RowKit

theorem cd_not {W : World} {b : Nat} {l : List Nat} {j off : Nat} (c : CdAt W b l j) {y : Value} {n : Int} (h0 : W.cell? ⟨b, off + 0, none⟩ = some (.int .i64 n)) (h1 : W.cell? ⟨b, off + 1, none⟩ = some y) : False := by
  obtain ⟨a, cap, k⟩ := c.bk
  rw [k.cell] at h0 h1
  match off with
  | 0 => simp at h0
  | 1 => simp at h1
  | k + 2 => simp at h0
theorem Sl.draw {w w' : World} {v : Value} {sz n b : Nat} {xs : List Value} (h : Sl w v sz n xs) (o : w.grownBy w' (some b))
    (hb : ∀ off, (∀ j, j < n * sz → w.cell? ⟨b, off + j, none⟩ = some (xs.getD j undef)) → n = 0) : Sl w' v sz n xs := by
  refine ⟨h.1, ?_⟩
  rcases h.2 with h | ⟨g, off, cap, hv, hn, hm, hc⟩
  · exact .inl h
  · refine .inr ⟨g, off, cap, hv, hn, hm, fun j hj => ?_⟩
    have hg : g ≠ b := by
      rintro rfl
      have := hb off hc
      subst this
      omega
    rw [← hc j hj]
    exact gb_cell o (World.block_lt_of_cell? w _ (hc j hj)) (by simpa using Ne.symm hg) _
theorem MnV.draw {W W' : World} {b : Nat} {l : List Nat} {j : Nat} {v : Value} {m : Mn} (h : MnV W v m) (c : CdAt W b l j) (o : W.grownBy W' (some b)) : MnV W' v m := by
  obtain ⟨x, y, hv, h1, h2⟩ := h
  obtain ⟨ps, rs⟩ := m
  refine ⟨x, y, hv, h1.draw o fun off hc => ?_, h2.draw o fun off hc => ?_⟩
  · cases ps with
    | nil => rfl
    | cons p ps => exact (cd_not c (hc 0 (by simp <;> omega)) (hc 1 (by simp <;> omega))).elim
  · cases rs with
    | nil => rfl
    | cons r rs => exact (cd_not c (hc 0 (by simp <;> omega)) (hc 1 (by simp <;> omega))).elim

def zE : Array Value := #[.int .i64 0, .int .i64 0, .bool false, .int .i64 0, .int .i64 0, .int .i64 0, .int .i64 0, .bool false, .bool false, .int .i64 0, .int .i64 0, .int .i64 0, .int .i64 0, .int .i64 0, .int .i64 0, .int .i64 0]
def edL (e : Ed) : List Value := [.int .i64 e.kind, .int .i64 e.place.h, .bool e.place.s, .int .i64 e.new.f, .int .i64 e.new.t, .int .i64 e.new.len, .int .i64 e.new.area, .bool e.new.walk, .bool e.new.closed,
  .int .i64 e.new.rest.lo, .int .i64 e.new.rest.hi, .int .i64 e.new.lift.lo, .int .i64 e.new.lift.hi, .int .i64 e.road, .int .i64 e.span.lo, .int .i64 e.span.hi]

/-- Between the statements of PlanOrders: the codes, the mine's variable, the variables of the edits that are made. -/
structure EoX (w W3 : World) (b : Nat) (l : List Nat) (n8 : Nat) (pv rv : Value) (m : Mn) (D : List Ed) (X : List Nat) (W : World) : Prop where
  m3 : MnV W3 (.agg #[pv, rv]) m
  c3 : ∃ j, CdAt W3 b l j
  s3 : W3.heap.size = n8
  cd : ∃ j, CdAt W b l j
  k3 : W3.grownBy W (some b)
  k8 : Bk W n8 #[pv, rv] 26
  g : w.grownBy W none
  x : ∀ n ∈ X, Bk W n zE 43 ∧ n8 < n
  lt : w.heap.size ≤ b ∧ b < n8
section
variable {w W3 : World} {b : Nat} {l : List Nat} {n8 : Nat} {pv rv : Value} {m : Mn} {D : List Ed} {X : List Nat} {W W' : World}
theorem EoX.mn (h : EoX w W3 b l n8 pv rv m D X W) : MnV W (.agg #[pv, rv]) m := let ⟨_, c⟩ := h.c3; h.m3.draw c h.k3
theorem EoX.drew (h : EoX w W3 b l n8 pv rv m D X W) : EoX w W3 b l n8 pv rv m D X W.drew := ⟨h.m3, h.c3, h.s3, h.cd, gb_drew h.k3, h.k8, gb_drew h.g, h.x, h.lt⟩
theorem EoX.alloc (h : EoX w W3 b l n8 pv rv m D X W) : EoX w W3 b l n8 pv rv m D (W.heap.size :: X) (W.alloc (.cells zE 43)) := by
  obtain ⟨j, c⟩ := h.cd
  refine ⟨h.m3, h.c3, h.s3, ⟨j, c.alloc _⟩, gb_alloc h.k3 _, h.k8.of (gb_alloc (gb_refl _ none) _) (by simp), gb_alloc h.g _, fun n hn => ?_, h.lt⟩
  rcases List.mem_cons.1 hn with rfl | hn
  · exact ⟨Bk.new _ _ _, h.k8.lt⟩
  · exact ⟨(h.x n hn).1.of (gb_alloc (gb_refl _ none) _) (by simp), (h.x n hn).2⟩
theorem EoX.draw (h : EoX w W3 b l n8 pv rv m D X W) (c : ∃ j, CdAt W' b l j) (o : W.grownBy W' (some b)) : EoX w W3 b l n8 pv rv m D X W' := by
  have hl := h.lt
  refine ⟨h.m3, h.c3, h.s3, c, gb_same h.k3 o, h.k8.of o (by simp; omega), gb_new h.g o h.lt.1, fun n hn => ⟨(h.x n hn).1.of o ?_, (h.x n hn).2⟩, h.lt⟩
  have := (h.x n hn).2
  simp; omega
theorem EoX.edit (h : EoX w W3 b l n8 pv rv m D X W) :
    Calls Try.prog 17 #[.pointer (some ⟨b, 0, none⟩), .agg #[pv, rv]] W fun e w' => ∃ d : Ed, e = .returned (.agg #[.int .i64 d.kind, .int .i64 d.place.h, .bool d.place.s, .int .i64 d.new.f, .int .i64 d.new.t, .int .i64 d.new.len, .int .i64 d.new.area, .bool d.new.walk, .bool d.new.closed,
  .int .i64 d.new.rest.lo, .int .i64 d.new.rest.hi, .int .i64 d.new.lift.lo, .int .i64 d.new.lift.hi, .int .i64 d.road, .int .i64 d.span.lo, .int .i64 d.span.hi]) ∧ EoX w W3 b l n8 pv rv m (d :: D) X w' := by
  obtain ⟨j, c⟩ := h.cd
  refine (drawEdit_any b l j _ m W c h.mn).mono ?_
  rintro e w' ⟨d, rfl, hc, hg⟩
  have k := h.draw hc hg
  exact ⟨d, rfl, k.m3, k.c3, k.s3, k.cd, k.k3, k.k8, k.g, k.x, k.lt⟩
/-- The cells of a variable that was made. -/
theorem EoX.q (h : EoX w W3 b l n8 pv rv m D X W) {n : Nat} (hn : n ∈ X) (o : Nat) : W.cell? ⟨n, o, none⟩ = zE[o]? := (h.x n hn).1.cell o
theorem EoX.qf (h : EoX w W3 b l n8 pv rv m D X W) {n : Nat} (hn : n ∈ X) (o : Nat) : W.frozen? ⟨n, o, none⟩ = false := (h.x n hn).1.frozen o
end

/-- The store of an edit as one step. -/
noncomputable def storeEd (x y : Value) : Sem Unit := Instr.storeAt 43 x y
theorem storeAt_ed (x y : Value) : Instr.storeAt 43 x y = storeEd x y := rfl
theorem setC_setCells (b : Nat) (vs : List Value) : ∀ (W : World) (o : Nat), World.setCells W b o vs = setC W b o vs := by
  induction vs with
  | nil => exact fun _ _ => rfl
  | cons v vs ih => intro W o; rw [World.setCells, setC, ih]
theorem run_storeEd (W : World) (g : Nat) (a0 a1 a3 a4 a5 a6 a9 a10 a11 a12 a13 a14 a15 : Int) (a2 a7 a8 : Bool) (h : W.there g 0 16) : (storeEd (.pointer (some ⟨g, 0, none⟩)) (.agg #[.int .i64 a0, .int .i64 a1, .bool a2, .int .i64 a3, .int .i64 a4, .int .i64 a5, .int .i64 a6, .bool a7, .bool a8, .int .i64 a9, .int .i64 a10, .int .i64 a11, .int .i64 a12, .int .i64 a13, .int .i64 a14, .int .i64 a15])).run Try.prog W = .ok () (setC W g 0 [.int .i64 a0, .int .i64 a1, .bool a2, .int .i64 a3, .int .i64 a4, .int .i64 a5, .int .i64 a6, .bool a7, .bool a8, .int .i64 a9, .int .i64 a10, .int .i64 a11, .int .i64 a12, .int .i64 a13, .int .i64 a14, .int .i64 a15]) := by
  rw [← setC_setCells]
  exact run_storeAt_mid W g 0 43 #[.int .i64 a0, .int .i64 a1, .bool a2, .int .i64 a3, .int .i64 a4, .int .i64 a5, .int .i64 a6, .bool a7, .bool a8, .int .i64 a9, .int .i64 a10, .int .i64 a11, .int .i64 a12, .int .i64 a13, .int .i64 a14, .int .i64 a15] h (by kernel_rfl) (by simp [Value.oneCell'])
theorem Bk.there {W : World} {g : Nat} {cs : Array Value} {T : TypeId} (k : Bk W g cs T) {o n : Nat} (h : o + n ≤ cs.size) : W.there g o n := fun j hj => by
  rw [k.cell, k.frozen]
  exact ⟨by rw [Array.getElem?_eq_getElem (by omega)]; rfl, rfl⟩
theorem there_new (W : World) : (W.alloc (.cells #[.int .i64 0, .int .i64 0, .bool false, .int .i64 0, .int .i64 0, .int .i64 0, .int .i64 0, .bool false, .bool false, .int .i64 0, .int .i64 0, .int .i64 0, .int .i64 0, .int .i64 0, .int .i64 0, .int .i64 0] 43)).there W.heap.size 0 16 := (Bk.new W _ _).there (by decide)
theorem there_new2 (W : World) (o : Obj) : ((W.alloc o).alloc (.cells #[.int .i64 0, .int .i64 0, .bool false, .int .i64 0, .int .i64 0, .int .i64 0, .int .i64 0, .bool false, .bool false, .int .i64 0, .int .i64 0, .int .i64 0, .int .i64 0, .int .i64 0, .int .i64 0, .int .i64 0] 43)).there (W.heap.size + 1) 0 16 := by
  have h := (Bk.new (W.alloc o) #[.int .i64 0, .int .i64 0, .bool false, .int .i64 0, .int .i64 0, .int .i64 0, .int .i64 0, .bool false, .bool false, .int .i64 0, .int .i64 0, .int .i64 0, .int .i64 0, .int .i64 0, .int .i64 0, .int .i64 0] 43).there (o := 0) (n := 16) (by decide)
  rwa [World.size_alloc] at h
theorem there_alloc' {W : World} {g o n : Nat} (h : W.there g o n) (ob : Obj) : (W.alloc ob).there g o n := World.there_alloc h ob
theorem there_setC {W : World} {g b o n o' : Nat} {vs : List Value} (h : W.there g o n) : (setC W b o' vs).there g o n := by
  rw [← setC_setCells]; exact World.there_setCells h _ _ _
theorem far_setC {W : World} {n g o k : Nat} {vs : List Value} {x : Value} (h : W.cell? ⟨n, o, none⟩ = some x) (hne : n ≠ g) : (setC W g k vs).cell? ⟨n, o, none⟩ = some x := by
  rw [← setC_setCells, World.cell?_setCells_out _ _ _ _ _ (fun e => absurd e hne)]; exact h

/-- Behind the two edits. -/
structure OrS (w W3 : World) (b : Nat) (l : List Nat) (n8 n9 n10 : Nat) (pv rv : Value) (m : Mn) (d f : Ed) (W : World) : Prop where
  m3 : MnV W3 (.agg #[pv, rv]) m
  c3 : ∃ j, CdAt W3 b l j
  s3 : W3.heap.size = n8
  cd : ∃ j, CdAt W b l j
  k3 : W3.grownBy W (some b)
  k8 : Bk W n8 #[pv, rv] 26
  g : w.grownBy W none
  k9 : Bk W n9 (edL d).toArray 43
  k10 : Bk W n10 (edL f).toArray 43
  lt : w.heap.size ≤ b ∧ b < n8 ∧ n8 < n9 ∧ n8 < n10
theorem far_set {W : World} {n g o k : Nat} {v x : Value} (h : W.cell? ⟨n, o, none⟩ = some x) (hne : n ≠ g) : (W.setCell ⟨g, k, none⟩ v).cell? ⟨n, o, none⟩ = some x := by
  rw [World.cell?_setCell_other _ _ _ _ (fun e => by injection e with e; exact hne e.symm)]; exact h
theorem far_alloc {W : World} {n o : Nat} {x : Value} (h : W.cell? ⟨n, o, none⟩ = some x) (ob : Obj) : (W.alloc ob).cell? ⟨n, o, none⟩ = some x := by
  rw [World.cell?_alloc_lt _ _ _ (World.block_lt_of_cell? W _ h)]; exact h
section
variable {w W3 : World} {b : Nat} {l : List Nat} {n8 n9 n10 : Nat} {pv rv : Value} {m : Mn} {d f : Ed} {D : List Ed} {X : List Nat} {W W' : World}
theorem EoX.fin (h : EoX w W3 b l n8 pv rv m [f, d] X W) (h9 : n9 ∈ X) (h10 : n10 ∈ X) (hne : n9 ≠ n10) : OrS w W3 b l n8 n9 n10 pv rv m d f (setC (setC W n9 0 (edL d)) n10 0 (edL f)) := by
  have hl := h.lt
  obtain ⟨x9, l9⟩ := h.x n9 h9
  obtain ⟨x10, l10⟩ := h.x n10 h10
  obtain ⟨j, c⟩ := h.cd
  have hs := h.s3
  have o9 := setC_gb n9 (edL d) W 0
  have o10 := setC_gb n10 (edL f) (setC W n9 0 (edL d)) 0
  have c1 := c.keep o9 (fun g e => by injection e with e; omega)
  exact ⟨h.m3, h.c3, h.s3, ⟨j, c1.keep o10 (fun g e => by injection e with e; omega)⟩, gb_new (gb_new h.k3 o9 (by omega)) o10 (by omega), (h.k8.of o9 (by simp; omega)).of o10 (by simp; omega), gb_new (gb_new h.g o9 (by omega)) o10 (by omega),
    (x9.all (edL d) rfl).of o10 (by simp; omega), (x10.of o9 (by simp; omega)).all (edL f) rfl, hl.1, hl.2, l9, l10⟩
/-- Neither, one, or the other variable was made before the last edit was drawn. -/
theorem EoX.finA (h : EoX w W3 b l n8 pv rv m [f, d] X W) : OrS w W3 b l n8 W.heap.size (W.heap.size + 1) pv rv m d f ((W.alloc (.cells #[.int .i64 d.kind, .int .i64 d.place.h, .bool d.place.s, .int .i64 d.new.f, .int .i64 d.new.t, .int .i64 d.new.len, .int .i64 d.new.area, .bool d.new.walk, .bool d.new.closed, .int .i64 d.new.rest.lo, .int .i64 d.new.rest.hi, .int .i64 d.new.lift.lo, .int .i64 d.new.lift.hi, .int .i64 d.road, .int .i64 d.span.lo, .int .i64 d.span.hi] 43)).alloc (.cells #[.int .i64 f.kind, .int .i64 f.place.h, .bool f.place.s, .int .i64 f.new.f, .int .i64 f.new.t, .int .i64 f.new.len, .int .i64 f.new.area, .bool f.new.walk, .bool f.new.closed, .int .i64 f.new.rest.lo, .int .i64 f.new.rest.hi, .int .i64 f.new.lift.lo, .int .i64 f.new.lift.hi, .int .i64 f.road, .int .i64 f.span.lo, .int .i64 f.span.hi] 43)) := by
  obtain ⟨j, c⟩ := h.cd
  have k8 := h.k8.lt
  have b1 := (Bk.new W (edL d).toArray 43).of (gb_alloc (gb_refl _ none) (.cells #[.int .i64 f.kind, .int .i64 f.place.h, .bool f.place.s, .int .i64 f.new.f, .int .i64 f.new.t, .int .i64 f.new.len, .int .i64 f.new.area, .bool f.new.walk, .bool f.new.closed, .int .i64 f.new.rest.lo, .int .i64 f.new.rest.hi, .int .i64 f.new.lift.lo, .int .i64 f.new.lift.hi, .int .i64 f.road, .int .i64 f.span.lo, .int .i64 f.span.hi] 43)) (by simp)
  have b2 := Bk.new (W.alloc (.cells #[.int .i64 d.kind, .int .i64 d.place.h, .bool d.place.s, .int .i64 d.new.f, .int .i64 d.new.t, .int .i64 d.new.len, .int .i64 d.new.area, .bool d.new.walk, .bool d.new.closed, .int .i64 d.new.rest.lo, .int .i64 d.new.rest.hi, .int .i64 d.new.lift.lo, .int .i64 d.new.lift.hi, .int .i64 d.road, .int .i64 d.span.lo, .int .i64 d.span.hi] 43)) (edL f).toArray 43
  rw [World.size_alloc] at b2
  exact ⟨h.m3, h.c3, h.s3, ⟨j, (c.alloc _).alloc _⟩, gb_alloc (gb_alloc h.k3 _) _, h.k8.of (gb_alloc (gb_alloc (gb_refl _ none) _) _) (by simp), gb_alloc (gb_alloc h.g _) _, b1, b2, h.lt.1, h.lt.2, k8, by omega⟩
theorem EoX.finB (h : EoX w W3 b l n8 pv rv m [f, d] X W) : OrS w W3 b l n8 (W.heap.size + 1) W.heap.size pv rv m d f ((W.alloc (.cells #[.int .i64 f.kind, .int .i64 f.place.h, .bool f.place.s, .int .i64 f.new.f, .int .i64 f.new.t, .int .i64 f.new.len, .int .i64 f.new.area, .bool f.new.walk, .bool f.new.closed, .int .i64 f.new.rest.lo, .int .i64 f.new.rest.hi, .int .i64 f.new.lift.lo, .int .i64 f.new.lift.hi, .int .i64 f.road, .int .i64 f.span.lo, .int .i64 f.span.hi] 43)).alloc (.cells #[.int .i64 d.kind, .int .i64 d.place.h, .bool d.place.s, .int .i64 d.new.f, .int .i64 d.new.t, .int .i64 d.new.len, .int .i64 d.new.area, .bool d.new.walk, .bool d.new.closed, .int .i64 d.new.rest.lo, .int .i64 d.new.rest.hi, .int .i64 d.new.lift.lo, .int .i64 d.new.lift.hi, .int .i64 d.road, .int .i64 d.span.lo, .int .i64 d.span.hi] 43)) := by
  obtain ⟨j, c⟩ := h.cd
  have k8 := h.k8.lt
  have b1 := (Bk.new W (edL f).toArray 43).of (gb_alloc (gb_refl _ none) (.cells #[.int .i64 d.kind, .int .i64 d.place.h, .bool d.place.s, .int .i64 d.new.f, .int .i64 d.new.t, .int .i64 d.new.len, .int .i64 d.new.area, .bool d.new.walk, .bool d.new.closed, .int .i64 d.new.rest.lo, .int .i64 d.new.rest.hi, .int .i64 d.new.lift.lo, .int .i64 d.new.lift.hi, .int .i64 d.road, .int .i64 d.span.lo, .int .i64 d.span.hi] 43)) (by simp)
  have b2 := Bk.new (W.alloc (.cells #[.int .i64 f.kind, .int .i64 f.place.h, .bool f.place.s, .int .i64 f.new.f, .int .i64 f.new.t, .int .i64 f.new.len, .int .i64 f.new.area, .bool f.new.walk, .bool f.new.closed, .int .i64 f.new.rest.lo, .int .i64 f.new.rest.hi, .int .i64 f.new.lift.lo, .int .i64 f.new.lift.hi, .int .i64 f.road, .int .i64 f.span.lo, .int .i64 f.span.hi] 43)) (edL d).toArray 43
  rw [World.size_alloc] at b2
  exact ⟨h.m3, h.c3, h.s3, ⟨j, (c.alloc _).alloc _⟩, gb_alloc (gb_alloc h.k3 _) _, h.k8.of (gb_alloc (gb_alloc (gb_refl _ none) _) _) (by simp), gb_alloc (gb_alloc h.g _) _, b2, b1, h.lt.1, h.lt.2, by omega, k8⟩
theorem setC_size (b : Nat) (vs : List Value) : ∀ (W : World) (o : Nat), (setC W b o vs).heap.size = W.heap.size := by
  induction vs with
  | nil => exact fun _ _ => rfl
  | cons v vs ih => intro W o; rw [setC, ih]; simp [World.setCell]
theorem EoX.put (h : EoX w W3 b l n8 pv rv m D X W) (h9 : n9 ∈ X) (e : Ed) : EoX w W3 b l n8 pv rv m D [] (setC W n9 0 (edL e)) ∧ Bk (setC W n9 0 (edL e)) n9 (edL e).toArray 43 ∧ n8 < n9 := by
  have hl := h.lt
  have hs := h.s3
  obtain ⟨x9, l9⟩ := h.x n9 h9
  obtain ⟨j, c⟩ := h.cd
  have o9 := setC_gb n9 (edL e) W 0
  exact ⟨⟨h.m3, h.c3, h.s3, ⟨j, c.keep o9 (fun g e => by injection e with e; omega)⟩, gb_new h.k3 o9 (by omega), h.k8.of o9 (by simp; omega), gb_new h.g o9 (by omega), (fun n hn => by cases hn), h.lt⟩, x9.all (edL e) rfl, l9⟩
theorem EoX.finC0 (h : EoX w W3 b l n8 pv rv m [f, d] X W) (h9 : n9 ∈ X) : OrS w W3 b l n8 n9 W.heap.size pv rv m d f ((setC W n9 0 (edL d)).alloc (.cells #[.int .i64 f.kind, .int .i64 f.place.h, .bool f.place.s, .int .i64 f.new.f, .int .i64 f.new.t, .int .i64 f.new.len, .int .i64 f.new.area, .bool f.new.walk, .bool f.new.closed, .int .i64 f.new.rest.lo, .int .i64 f.new.rest.hi, .int .i64 f.new.lift.lo, .int .i64 f.new.lift.hi, .int .i64 f.road, .int .i64 f.span.lo, .int .i64 f.span.hi] 43)) := by
  obtain ⟨h1, h2, h3⟩ := h.put h9 d
  obtain ⟨j, c⟩ := h1.cd
  have b2 := Bk.new (setC W n9 0 (edL d)) (edL f).toArray 43
  rw [setC_size] at b2
  exact ⟨h.m3, h.c3, h.s3, ⟨j, c.alloc _⟩, gb_alloc h1.k3 _, h1.k8.of (gb_alloc (gb_refl _ none) _) (by simp), gb_alloc h1.g _, h2.of (gb_alloc (gb_refl _ none) _) (by simp), b2, h.lt.1, h.lt.2, h3, h.k8.lt⟩
theorem EoX.finD0 (h : EoX w W3 b l n8 pv rv m [f, d] X W) (h10 : n10 ∈ X) : OrS w W3 b l n8 W.heap.size n10 pv rv m d f ((setC W n10 0 (edL f)).alloc (.cells #[.int .i64 d.kind, .int .i64 d.place.h, .bool d.place.s, .int .i64 d.new.f, .int .i64 d.new.t, .int .i64 d.new.len, .int .i64 d.new.area, .bool d.new.walk, .bool d.new.closed, .int .i64 d.new.rest.lo, .int .i64 d.new.rest.hi, .int .i64 d.new.lift.lo, .int .i64 d.new.lift.hi, .int .i64 d.road, .int .i64 d.span.lo, .int .i64 d.span.hi] 43)) := by
  obtain ⟨h1, h2, h3⟩ := h.put h10 f
  obtain ⟨j, c⟩ := h1.cd
  have b2 := Bk.new (setC W n10 0 (edL f)) (edL d).toArray 43
  rw [setC_size] at b2
  exact ⟨h.m3, h.c3, h.s3, ⟨j, c.alloc _⟩, gb_alloc h1.k3 _, h1.k8.of (gb_alloc (gb_refl _ none) _) (by simp), gb_alloc h1.g _, b2, h2.of (gb_alloc (gb_refl _ none) _) (by simp), h.lt.1, h.lt.2, h.k8.lt, h3⟩
theorem EoX.finC (h : EoX w W3 b l n8 pv rv m [f, d] X W) (h9 : n9 ∈ X) : OrS w W3 b l n8 n9 W.heap.size pv rv m d f (World.alloc (setC W n9 0 [.int .i64 d.kind, .int .i64 d.place.h, .bool d.place.s, .int .i64 d.new.f, .int .i64 d.new.t, .int .i64 d.new.len, .int .i64 d.new.area, .bool d.new.walk, .bool d.new.closed, .int .i64 d.new.rest.lo, .int .i64 d.new.rest.hi, .int .i64 d.new.lift.lo, .int .i64 d.new.lift.hi, .int .i64 d.road, .int .i64 d.span.lo, .int .i64 d.span.hi]) (.cells #[.int .i64 f.kind, .int .i64 f.place.h, .bool f.place.s, .int .i64 f.new.f, .int .i64 f.new.t, .int .i64 f.new.len, .int .i64 f.new.area, .bool f.new.walk, .bool f.new.closed, .int .i64 f.new.rest.lo, .int .i64 f.new.rest.hi, .int .i64 f.new.lift.lo, .int .i64 f.new.lift.hi, .int .i64 f.road, .int .i64 f.span.lo, .int .i64 f.span.hi] 43)) := h.finC0 h9
theorem EoX.finD (h : EoX w W3 b l n8 pv rv m [f, d] X W) (h10 : n10 ∈ X) : OrS w W3 b l n8 W.heap.size n10 pv rv m d f (World.alloc (setC W n10 0 [.int .i64 f.kind, .int .i64 f.place.h, .bool f.place.s, .int .i64 f.new.f, .int .i64 f.new.t, .int .i64 f.new.len, .int .i64 f.new.area, .bool f.new.walk, .bool f.new.closed, .int .i64 f.new.rest.lo, .int .i64 f.new.rest.hi, .int .i64 f.new.lift.lo, .int .i64 f.new.lift.hi, .int .i64 f.road, .int .i64 f.span.lo, .int .i64 f.span.hi]) (.cells #[.int .i64 d.kind, .int .i64 d.place.h, .bool d.place.s, .int .i64 d.new.f, .int .i64 d.new.t, .int .i64 d.new.len, .int .i64 d.new.area, .bool d.new.walk, .bool d.new.closed, .int .i64 d.new.rest.lo, .int .i64 d.new.rest.hi, .int .i64 d.new.lift.lo, .int .i64 d.new.lift.hi, .int .i64 d.road, .int .i64 d.span.lo, .int .i64 d.span.hi] 43)) := h.finD0 h10
theorem EoX.finE (h : EoX w W3 b l n8 pv rv m [f, d] X W) (h9 : n9 ∈ X) (h10 : n10 ∈ X) (hne : n9 ≠ n10) : OrS w W3 b l n8 n9 n10 pv rv m d f (setC (setC W n9 0 [.int .i64 d.kind, .int .i64 d.place.h, .bool d.place.s, .int .i64 d.new.f, .int .i64 d.new.t, .int .i64 d.new.len, .int .i64 d.new.area, .bool d.new.walk, .bool d.new.closed, .int .i64 d.new.rest.lo, .int .i64 d.new.rest.hi, .int .i64 d.new.lift.lo, .int .i64 d.new.lift.hi, .int .i64 d.road, .int .i64 d.span.lo, .int .i64 d.span.hi]) n10 0 [.int .i64 f.kind, .int .i64 f.place.h, .bool f.place.s, .int .i64 f.new.f, .int .i64 f.new.t, .int .i64 f.new.len, .int .i64 f.new.area, .bool f.new.walk, .bool f.new.closed, .int .i64 f.new.rest.lo, .int .i64 f.new.rest.hi, .int .i64 f.new.lift.lo, .int .i64 f.new.lift.hi, .int .i64 f.road, .int .i64 f.span.lo, .int .i64 f.span.hi]) := h.fin h9 h10 hne
theorem OrS.mn (h : OrS w W3 b l n8 n9 n10 pv rv m d f W) : MnV W (.agg #[pv, rv]) m := let ⟨_, c⟩ := h.c3; h.m3.draw c h.k3
theorem OrS.by_ (h : OrS w W3 b l n8 n9 n10 pv rv m d f W) (o : W.grownBy W' none) : OrS w W3 b l n8 n9 n10 pv rv m d f W' := by
  obtain ⟨j, c⟩ := h.cd
  exact ⟨h.m3, h.c3, h.s3, ⟨j, c.keep o (fun g e => by cases e)⟩, gb_none h.k3 o, h.k8.of o (by simp), gb_none h.g o, h.k9.of o (by simp), h.k10.of o (by simp), h.lt⟩
theorem OrS.drew (h : OrS w W3 b l n8 n9 n10 pv rv m d f W) : OrS w W3 b l n8 n9 n10 pv rv m d f W.drew := h.by_ (gb_drew (gb_refl _ _))
theorem OrS.draw (h : OrS w W3 b l n8 n9 n10 pv rv m d f W) (c : ∃ j, CdAt W' b l j) (o : W.grownBy W' (some b)) : OrS w W3 b l n8 n9 n10 pv rv m d f W' := by
  have hl := h.lt
  exact ⟨h.m3, h.c3, h.s3, c, gb_same h.k3 o, h.k8.of o (by simp; omega), gb_new h.g o h.lt.1, h.k9.of o (by simp; omega), h.k10.of o (by simp; omega), h.lt⟩
/-- The first edit is another one. -/
theorem OrS.new (h : OrS w W3 b l n8 n9 n10 pv rv m d f W) (hne : n9 ≠ n10) (d' : Ed) : OrS w W3 b l n8 n9 n10 pv rv m d' f (setC W n9 0 (edL d')) := by
  have hl := h.lt
  obtain ⟨j, c⟩ := h.cd
  have hs := h.s3
  have o9 := setC_gb n9 (edL d') W 0
  exact ⟨h.m3, h.c3, h.s3, ⟨j, c.keep o9 (fun g e => by injection e with e; omega)⟩, gb_new h.k3 o9 (by omega), h.k8.of o9 (by simp; omega), gb_new h.g o9 (by omega), h.k9.all (edL d') rfl, h.k10.of o9 (by simp; omega), h.lt⟩
end
end Go.Proofs.Ytbiikgkfklhohaa
