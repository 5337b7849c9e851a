/- Frames: which blocks of a world may be other ones behind a call. -/
import Derived.Test.YtbiikgkfklhohaaCk
namespace Go.Proofs.Ytbiikgkfklhohaa
open Go.RowKit

theorem gb_refl (w : World) (r : Option Nat) : w.grownBy w r := ⟨rfl, rfl, rfl, Nat.le_refl _, fun _ _ _ => rfl⟩
theorem gb_below {a w : World} (h : Below a.heap.size a w) (r : Option Nat) : a.grownBy w r := ⟨h.os, h.tape, h.output, h.size, fun k hk _ => h.block k hk⟩
theorem gb_alloc {a w : World} {r : Option Nat} (h : a.grownBy w r) (o : Obj) : a.grownBy (w.alloc o) r :=
  ⟨h.os, h.tape, h.output, Nat.le_trans h.size (by simp), fun k hk hn => (Below.heap_alloc w o k (Nat.lt_of_lt_of_le hk h.size)).trans (h.block k hk hn)⟩
theorem gb_drewN {a w : World} {r : Option Nat} (h : a.grownBy w r) (n : Nat) : a.grownBy (w.drewN n) r := ⟨h.os, h.tape, h.output, h.size, h.block⟩
theorem gb_drew {a w : World} {r : Option Nat} (h : a.grownBy w r) : a.grownBy w.drew r := ⟨h.os, h.tape, h.output, h.size, h.block⟩
theorem gb_set {a w : World} {r : Option Nat} (h : a.grownBy w r) (p : Addr) (hp : r = some p.block ∨ a.heap.size ≤ p.block) (v : Value) : a.grownBy (w.setCell p v) r :=
  ⟨h.os, h.tape, h.output, by simpa [World.setCell] using h.size, fun k hk hn => (Below.heap_setCell w p v k (by
    rintro rfl
    rcases hp with hp | hp
    · exact hn hp.symm
    · omega)).trans (h.block k hk hn)⟩
theorem gb_call {a w w' : World} {r r' : Option Nat} (h : a.grownBy w r) (k : w.grownBy w' r') (hr : ∀ g, r' = some g → r = some g ∨ a.heap.size ≤ g) : a.grownBy w' r :=
  ⟨k.os.trans h.os, k.tape.trans h.tape, k.output.trans h.output, Nat.le_trans h.size k.size, fun i hi hn => (k.block i (Nat.lt_of_lt_of_le hi h.size) (fun e => by
    rcases hr i e.symm with h2 | h2
    · exact hn h2.symm
    · omega)).trans (h.block i hi hn)⟩
theorem gb_same {a w w' : World} {r : Option Nat} (h : a.grownBy w r) (k : w.grownBy w' r) : a.grownBy w' r := gb_call h k fun _ e => .inl e
theorem gb_none {a w w' : World} {r : Option Nat} (h : a.grownBy w r) (k : w.grownBy w' none) : a.grownBy w' r := gb_call h k fun _ e => by cases e
theorem gb_new {a w w' : World} {r : Option Nat} {g : Nat} (h : a.grownBy w r) (k : w.grownBy w' (some g)) (hg : a.heap.size ≤ g) : a.grownBy w' r := gb_call h k fun _ e => by injection e with e; exact .inr (e ▸ hg)
theorem gb_only {b : Nat} {w w' : World} (h : Only b w w') : w.grownBy w' (some b) := ⟨h.os, h.tape, h.output, by rw [h.size]; exact Nat.le_refl _, fun k _ hn => h.block k (fun e => hn (by rw [e]))⟩
theorem gb_to {B : Nat} {a w : World} {r : Option Nat} (h : a.grownBy w r) (hB : B ≤ a.heap.size) (hr : ∀ g, r = some g → B ≤ g) : Below B a w :=
  ⟨h.os, h.tape, h.output, h.size, fun k hk => h.block k (by omega) (fun e => by have := hr k e.symm; omega)⟩
theorem gb_cell {a w : World} {r : Option Nat} (h : a.grownBy w r) {g : Nat} (hg : g < a.heap.size) (hn : r ≠ some g) (o : Nat) : w.cell? ⟨g, o, none⟩ = a.cell? ⟨g, o, none⟩ :=
  World.cell?_of_block (h.block g hg (fun e => hn e.symm))
theorem gb_frozen {a w : World} {r : Option Nat} (h : a.grownBy w r) {g : Nat} (hg : g < a.heap.size) (hn : r ≠ some g) (o : Nat) : w.frozen? ⟨g, o, none⟩ = a.frozen? ⟨g, o, none⟩ :=
  World.frozen?_of_block (h.block g hg (fun e => hn e.symm))

/-- Block b is known whole: its cells, its type; nothing of it is frozen. -/
def Bk (w : World) (b : Nat) (cs : Array Value) (T : TypeId) : Prop := w.heap[b]? = some (.cells cs T (0, 0))
theorem Bk.new (w : World) (cs : Array Value) (T : TypeId) : Bk (w.alloc (.cells cs T)) w.heap.size cs T := heap_alloc_new w _
theorem Bk.lt {w : World} {b : Nat} {cs : Array Value} {T : TypeId} (h : Bk w b cs T) : b < w.heap.size := (Array.getElem?_eq_some_iff.1 h).1
theorem Bk.of {w w' : World} {b : Nat} {cs : Array Value} {T : TypeId} (h : Bk w b cs T) {r : Option Nat} (k : w.grownBy w' r) (hn : r ≠ some b) : Bk w' b cs T :=
  (k.block b h.lt (fun e => hn e.symm)).trans h
theorem Bk.cell {w : World} {b : Nat} {cs : Array Value} {T : TypeId} (h : Bk w b cs T) (o : Nat) : w.cell? ⟨b, o, none⟩ = cs[o]? := by
  unfold World.cell?
  rw [show w.heap[b]? = some (.cells cs T (0, 0)) from h]
  simp
theorem Bk.frozen {w : World} {b : Nat} {cs : Array Value} {T : TypeId} (h : Bk w b cs T) (o : Nat) : w.frozen? ⟨b, o, none⟩ = false := by
  unfold World.frozen?
  rw [show w.heap[b]? = some (.cells cs T (0, 0)) from h]
  simp
theorem Bk.ne {w : World} {b g : Nat} {cs ds : Array Value} {T U : TypeId} (h : Bk w b cs T) (k : Bk w g ds U) (hT : T ≠ U) : b ≠ g := by
  rintro rfl
  unfold Bk at h k
  rw [h] at k
  injection k with k
  injection k with _ k
  exact hT k
theorem Bk.set {w : World} {b : Nat} {cs : Array Value} {T : TypeId} (h : Bk w b cs T) (o : Nat) (v : Value) : Bk (w.setCell ⟨b, o, none⟩ v) b (cs.setIfInBounds o v) T := by
  unfold Bk at *
  simp only [World.setCell, Array.getElem?_modify, h]
  simp


theorem CdAt.bk {w : World} {b : Nat} {l : List Nat} {i : Nat} (h : CdAt w b l i) : ∃ a cap, Bk w b #[.slice a l.length cap, .int .i64 i] 71 := by
  obtain ⟨_, _, _, a, cap, hb, _⟩ := h
  exact ⟨a, cap, hb⟩
theorem CdAt.lt {w : World} {b : Nat} {l : List Nat} {i : Nat} (h : CdAt w b l i) : b < w.heap.size := by obtain ⟨_, _, k⟩ := h.bk; exact k.lt

theorem CdAt.keep {w w' : World} {b : Nat} {l : List Nat} {i : Nat} (h : CdAt w b l i) {r : Option Nat} (k : w.grownBy w' r) (hr : ∀ g, r = some g → b < g) : CdAt w' b l i := by
  obtain ⟨h1, h2, h3, a, cap, hb, hx⟩ := h
  refine ⟨h1, h2, h3, a, cap, ?_, ?_⟩
  · rw [k.block b (Array.getElem?_eq_some_iff.1 hb).1 (fun e => by have := hr b e.symm; omega)]; exact hb
  · rcases hx with hx | ⟨g, off, ha, hg, hc⟩
    · exact .inl hx
    · refine .inr ⟨g, off, ha, hg, fun j hj => ?_⟩
      rw [← hc j hj]
      exact World.cell?_of_block (w := w) (k.block g (by have := (Array.getElem?_eq_some_iff.1 hb).1; omega) (fun e => by have := hr g e.symm; omega))

/-- Values stored into a block one behind the other. -/
def setC (W : World) (b : Nat) : Nat → List Value → World
  | _, [] => W
  | o, v :: vs => setC (W.setCell ⟨b, o, none⟩ v) b (o + 1) vs
theorem setC_gb (b : Nat) (vs : List Value) : ∀ (W : World) (o : Nat), W.grownBy (setC W b o vs) (some b) := by
  induction vs with
  | nil => exact fun W _ => gb_refl W _
  | cons v vs ih => exact fun W o => gb_same (gb_set (gb_refl W _) ⟨b, o, none⟩ (.inl rfl) v) (ih _ _)
theorem setC_bk {b : Nat} {T : TypeId} (vs : List Value) : ∀ (W : World) (pre old : List Value), old.length = vs.length → Bk W b (pre ++ old).toArray T → Bk (setC W b pre.length vs) b (pre ++ vs).toArray T := by
  induction vs with
  | nil => intro W pre old hl h; have : old = [] := List.eq_nil_of_length_eq_zero hl; subst this; exact h
  | cons v vs ih =>
    intro W pre old hl h
    match old, hl with
    | u :: old, hl =>
      have h1 := h.set pre.length v
      have e : (pre ++ u :: old).toArray.setIfInBounds pre.length v = ((pre ++ [v]) ++ old).toArray := by simp
      rw [e] at h1
      have h2 := ih _ (pre ++ [v]) old (by simpa using hl) h1
      simpa [setC] using h2
theorem Bk.all {W : World} {b : Nat} {cs : Array Value} {T : TypeId} (h : Bk W b cs T) (vs : List Value) (hl : cs.size = vs.length) : Bk (setC W b 0 vs) b vs.toArray T :=
  setC_bk vs W [] cs.toList (by simpa using hl) (by simpa using h)

end Go.Proofs.Ytbiikgkfklhohaa
