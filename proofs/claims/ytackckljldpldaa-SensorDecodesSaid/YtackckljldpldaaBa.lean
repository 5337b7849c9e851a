/- Ground for laws without mines: slices known by their cells, blocks known whole, frames, append. -/
import Derived.Test.YtackckljldpldaaCn
import Derived.Deep.RegionHeld3
import Derived.Deep.DrawnRows
import Derived.Outline
import Derived.Deep.RegionLaw
import Derived.Deep.AppendLies
import Derived.Deep.Cut
import Derived.Deep.CutRange
import Derived.Laws.OwnMore
namespace Go.Proofs.Ytackckljldpldaa
open Go.RowKit
attribute [local go_sem ↓] Go.wp_at_zero Go.wp_at_succ

/-- What is old stays: cells and marks below a number. -/
theorem bcell {B : Nat} {W w1 : World} (hb : Below B W w1) : (∀ b o, b < B → w1.cell? ⟨b, o, none⟩ = W.cell? ⟨b, o, none⟩) ∧ (∀ b o, b < B → w1.frozen? ⟨b, o, none⟩ = W.frozen? ⟨b, o, none⟩) :=
  ⟨fun b o h => hb.cell (p := ⟨b, o, none⟩) h, fun b o h => hb.frozen (p := ⟨b, o, none⟩) h⟩
theorem bl_alloc {a w : World} (h : Below a.heap.size a w) (o : Obj) : Below a.heap.size a (w.alloc o) := h.alloc h.size o
theorem bl_call {a w w' : World} (h : Below a.heap.size a w) (k : Below w.heap.size w w') : Below a.heap.size a w' := h.trans (k.mono h.size)
theorem bl_drewN {a w : World} (h : Below a.heap.size a w) (n : Nat) : Below a.heap.size a (w.drewN n) := h.trans ⟨rfl, rfl, rfl, Nat.le_refl _, fun _ _ => rfl⟩
/-- The slice v has n elements of sz cells each, and these are xs. -/
def Sl (w : World) (v : Value) (sz n : Nat) (xs : List Value) : Prop :=
  xs.length = n * sz ∧ ((n = 0 ∧ (v = .slice none 0 0 ∨ ∃ a cap, v = .slice (some a) 0 cap ∧ cap ≤ maxLen)) ∨ ∃ g off cap, v = .slice (some ⟨g, off, none⟩) n cap ∧ n ≤ cap ∧ cap ≤ maxLen ∧ ∀ j, j < n * sz → w.cell? ⟨g, off + j, none⟩ = some (xs.getD j undef))
theorem Sl.below {w w' : World} {v : Value} {sz n : Nat} {xs : List Value} (h : Sl w v sz n xs) (hb : Below w.heap.size w w') : Sl w' v sz n xs := by
  refine ⟨h.1, ?_⟩
  rcases h.2 with h | ⟨g, off, cap, hv, hn, hm, hc⟩
  · exact .inl h
  · refine .inr ⟨g, off, cap, hv, hn, hm, fun j hj => ?_⟩
    rw [← hc j hj]
    exact hb.cell (World.block_lt_of_cell? w _ (hc j hj))
theorem Sl.shape {w : World} {v : Value} {sz n : Nat} {xs : List Value} (h : Sl w v sz n xs) : ∃ a cap, v = .slice a n cap ∧ n ≤ cap ∧ cap ≤ maxLen ∧ (n = 0 ∨ ∃ g off, a = some ⟨g, off, none⟩ ∧ ∀ j, j < n * sz → w.cell? ⟨g, off + j, none⟩ = some (xs.getD j undef)) := by
  rcases h.2 with ⟨rfl, h0 | ⟨a, cap, h0, hm⟩⟩ | ⟨g, off, cap, hv, hn, hm, hc⟩
  · exact ⟨none, 0, h0, Nat.le_refl _, Nat.zero_le _, .inl rfl⟩
  · exact ⟨some a, cap, h0, Nat.zero_le _, hm, .inl rfl⟩
  · exact ⟨_, cap, hv, hn, hm, .inr ⟨g, off, rfl, hc⟩⟩
theorem Sl.cases {w : World} {v : Value} {sz n : Nat} {xs : List Value} (h : Sl w v sz n xs) : (v = .slice none 0 0 ∧ n = 0) ∨ ∃ a cap, v = .slice (some a) n cap ∧ n ≤ cap ∧ cap ≤ maxLen := by
  rcases h.2 with ⟨rfl, h0 | ⟨a, cap, h0, hm⟩⟩ | ⟨g, off, cap, hv, hn, hm, _⟩
  · exact .inl ⟨h0, rfl⟩
  · exact .inr ⟨a, cap, h0, Nat.zero_le _, hm⟩
  · exact .inr ⟨_, cap, hv, hn, hm⟩
theorem alloc_cell (w : World) (cs : Array Value) (T : TypeId) (j : Nat) : (w.alloc (.cells cs T (0, 0))).cell? ⟨w.heap.size, j, none⟩ = cs[j]? := by
  unfold World.cell?
  rw [heap_alloc_new w]
  simp
theorem flat_getD {α : Type} (enc : α → List Value) (sz : Nat) (hs : ∀ x, (enc x).length = sz) (l : List α) (d : α) (k j : Nat) (hk : k < l.length) (hj : j < sz) :
    (l.flatMap enc).getD (k * sz + j) undef = (enc (l.getD k d)).getD j undef := by
  induction l generalizing k with
  | nil => simp at hk
  | cons x l ih =>
    cases k with
    | zero =>
      have := hs x
      simp only [List.flatMap_cons, List.getD_eq_getElem?_getD, Nat.zero_mul, Nat.zero_add]
      rw [List.getElem?_append_left (by omega)]
      simp
    | succ k =>
      have h1 := ih k (by simpa using hk)
      have := hs x
      simp only [List.flatMap_cons, List.getD_eq_getElem?_getD] at h1 ⊢
      rw [List.getElem?_append_right (by rw [this, Nat.add_mul]; omega)]
      rw [show (k + 1) * sz + j - (enc x).length = k * sz + j by rw [this, Nat.add_mul]; omega]
      simpa using h1
/-- The cells of one element of a slice. -/
theorem Sl.elem {α : Type} {enc : α → List Value} {sz : Nat} (hs : ∀ x, (enc x).length = sz) {w : World} {g off : Nat} {l : List α} (d : α)
    (h : ∀ j, j < l.length * sz → w.cell? ⟨g, off + j, none⟩ = some ((l.flatMap enc).getD j undef)) (k j : Nat) (hk : k < l.length) (hj : j < sz) :
    w.cell? ⟨g, off + (k * sz + j), none⟩ = some ((enc (l.getD k d)).getD j undef) := by
  rw [← flat_getD enc sz hs l d k j hk hj]
  refine h _ ?_
  have h2 : (k + 1) * sz ≤ l.length * sz := Nat.mul_le_mul_right _ hk
  rw [Nat.add_mul, Nat.one_mul] at h2
  omega
theorem cellv {w w' : World} (hb : Below w.heap.size w w') {p : Addr} {v : Value} (h : w.cell? p = some v) : w'.cell? p = some v := by
  rw [hb.cell (World.block_lt_of_cell? w _ h)]; exact h
theorem gb_refl (w : World) (r : Option Nat) : w.grownBy w r := ⟨rfl, rfl, rfl, Nat.le_refl _, fun _ _ _ => rfl⟩
theorem gb_below {a w : World} (h : Below a.heap.size a w) (r : Option Nat) : a.grownBy w r := ⟨h.os, h.tape, h.output, h.size, fun k hk _ => h.block k hk⟩
theorem gb_alloc {a w : World} {r : Option Nat} (h : a.grownBy w r) (o : Obj) : a.grownBy (w.alloc o) r :=
  ⟨h.os, h.tape, h.output, Nat.le_trans h.size (by simp), fun k hk hn => (Below.heap_alloc w o k (Nat.lt_of_lt_of_le hk h.size)).trans (h.block k hk hn)⟩
theorem gb_drewN {a w : World} {r : Option Nat} (h : a.grownBy w r) (n : Nat) : a.grownBy (w.drewN n) r := ⟨h.os, h.tape, h.output, h.size, h.block⟩
theorem gb_drew {a w : World} {r : Option Nat} (h : a.grownBy w r) : a.grownBy w.drew r := ⟨h.os, h.tape, h.output, h.size, h.block⟩
theorem gb_set {a w : World} {r : Option Nat} (h : a.grownBy w r) (p : Addr) (hp : r = some p.block ∨ a.heap.size ≤ p.block) (v : Value) : a.grownBy (w.setCell p v) r :=
  ⟨h.os, h.tape, h.output, by simpa [World.setCell] using h.size, fun k hk hn => (Below.heap_setCell w p v k (by
    rintro rfl
    rcases hp with hp | hp
    · exact hn hp.symm
    · omega)).trans (h.block k hk hn)⟩
theorem gb_call {a w w' : World} {r r' : Option Nat} (h : a.grownBy w r) (k : w.grownBy w' r') (hr : ∀ g, r' = some g → r = some g ∨ a.heap.size ≤ g) : a.grownBy w' r :=
  ⟨k.os.trans h.os, k.tape.trans h.tape, k.output.trans h.output, Nat.le_trans h.size k.size, fun i hi hn => (k.block i (Nat.lt_of_lt_of_le hi h.size) (fun e => by
    rcases hr i e.symm with h2 | h2
    · exact hn h2.symm
    · omega)).trans (h.block i hi hn)⟩
theorem gb_same {a w w' : World} {r : Option Nat} (h : a.grownBy w r) (k : w.grownBy w' r) : a.grownBy w' r := gb_call h k fun _ e => .inl e
theorem gb_none {a w w' : World} {r : Option Nat} (h : a.grownBy w r) (k : w.grownBy w' none) : a.grownBy w' r := gb_call h k fun _ e => by cases e
theorem gb_new {a w w' : World} {r : Option Nat} {g : Nat} (h : a.grownBy w r) (k : w.grownBy w' (some g)) (hg : a.heap.size ≤ g) : a.grownBy w' r := gb_call h k fun _ e => by injection e with e; exact .inr (e ▸ hg)
theorem gb_only {b : Nat} {w w' : World} (h : Only b w w') : w.grownBy w' (some b) := ⟨h.os, h.tape, h.output, by rw [h.size]; exact Nat.le_refl _, fun k _ hn => h.block k (fun e => hn (by rw [e]))⟩
theorem gb_to {B : Nat} {a w : World} {r : Option Nat} (h : a.grownBy w r) (hB : B ≤ a.heap.size) (hr : ∀ g, r = some g → B ≤ g) : Below B a w :=
  ⟨h.os, h.tape, h.output, h.size, fun k hk => h.block k (by omega) (fun e => by have := hr k e.symm; omega)⟩
theorem gb_cell {a w : World} {r : Option Nat} (h : a.grownBy w r) {g : Nat} (hg : g < a.heap.size) (hn : r ≠ some g) (o : Nat) : w.cell? ⟨g, o, none⟩ = a.cell? ⟨g, o, none⟩ :=
  World.cell?_of_block (h.block g hg (fun e => hn e.symm))
theorem gb_frozen {a w : World} {r : Option Nat} (h : a.grownBy w r) {g : Nat} (hg : g < a.heap.size) (hn : r ≠ some g) (o : Nat) : w.frozen? ⟨g, o, none⟩ = a.frozen? ⟨g, o, none⟩ :=
  World.frozen?_of_block (h.block g hg (fun e => hn e.symm))

/-- Block b is known whole: its cells, its type; nothing of it is frozen. -/
def Bk (w : World) (b : Nat) (cs : Array Value) (T : TypeId) : Prop := w.heap[b]? = some (.cells cs T (0, 0))
theorem Bk.new (w : World) (cs : Array Value) (T : TypeId) : Bk (w.alloc (.cells cs T)) w.heap.size cs T := heap_alloc_new w _
theorem Bk.lt {w : World} {b : Nat} {cs : Array Value} {T : TypeId} (h : Bk w b cs T) : b < w.heap.size := (Array.getElem?_eq_some_iff.1 h).1
theorem Bk.of {w w' : World} {b : Nat} {cs : Array Value} {T : TypeId} (h : Bk w b cs T) {r : Option Nat} (k : w.grownBy w' r) (hn : r ≠ some b) : Bk w' b cs T :=
  (k.block b h.lt (fun e => hn e.symm)).trans h
theorem Bk.cell {w : World} {b : Nat} {cs : Array Value} {T : TypeId} (h : Bk w b cs T) (o : Nat) : w.cell? ⟨b, o, none⟩ = cs[o]? := by
  unfold World.cell?
  rw [show w.heap[b]? = some (.cells cs T (0, 0)) from h]
  simp
theorem Bk.frozen {w : World} {b : Nat} {cs : Array Value} {T : TypeId} (h : Bk w b cs T) (o : Nat) : w.frozen? ⟨b, o, none⟩ = false := by
  unfold World.frozen?
  rw [show w.heap[b]? = some (.cells cs T (0, 0)) from h]
  simp
theorem Bk.ne {w : World} {b g : Nat} {cs ds : Array Value} {T U : TypeId} (h : Bk w b cs T) (k : Bk w g ds U) (hT : T ≠ U) : b ≠ g := by
  rintro rfl
  unfold Bk at h k
  rw [h] at k
  injection k with k
  injection k with _ k
  exact hT k
theorem Bk.set {w : World} {b : Nat} {cs : Array Value} {T : TypeId} (h : Bk w b cs T) (o : Nat) (v : Value) : Bk (w.setCell ⟨b, o, none⟩ v) b (cs.setIfInBounds o v) T := by
  unfold Bk at *
  simp only [World.setCell, Array.getElem?_modify, h]
  simp


theorem CdAt.bk {w : World} {b : Nat} {l : List Nat} {i : Nat} (h : CdAt w b l i) : ∃ a cap, Bk w b #[.slice a l.length cap, .int .i64 i] 78 := by
  obtain ⟨_, _, _, a, cap, hb, _⟩ := h
  exact ⟨a, cap, hb⟩
theorem CdAt.lt {w : World} {b : Nat} {l : List Nat} {i : Nat} (h : CdAt w b l i) : b < w.heap.size := by obtain ⟨_, _, k⟩ := h.bk; exact k.lt

theorem CdAt.keep {w w' : World} {b : Nat} {l : List Nat} {i : Nat} (h : CdAt w b l i) {r : Option Nat} (k : w.grownBy w' r) (hr : ∀ g, r = some g → b < g) : CdAt w' b l i := by
  obtain ⟨h1, h2, h3, a, cap, hb, hx⟩ := h
  refine ⟨h1, h2, h3, a, cap, ?_, ?_⟩
  · rw [k.block b (Array.getElem?_eq_some_iff.1 hb).1 (fun e => by have := hr b e.symm; omega)]; exact hb
  · rcases hx with hx | ⟨g, off, ha, hg, hc⟩
    · exact .inl hx
    · refine .inr ⟨g, off, ha, hg, fun j hj => ?_⟩
      rw [← hc j hj]
      exact World.cell?_of_block (w := w) (k.block g (by have := (Array.getElem?_eq_some_iff.1 hb).1; omega) (fun e => by have := hr g e.symm; omega))

/-- Values stored into a block one behind the other. -/
def setC (W : World) (b : Nat) : Nat → List Value → World
  | _, [] => W
  | o, v :: vs => setC (W.setCell ⟨b, o, none⟩ v) b (o + 1) vs
theorem setC_gb (b : Nat) (vs : List Value) : ∀ (W : World) (o : Nat), W.grownBy (setC W b o vs) (some b) := by
  induction vs with
  | nil => exact fun W _ => gb_refl W _
  | cons v vs ih => exact fun W o => gb_same (gb_set (gb_refl W _) ⟨b, o, none⟩ (.inl rfl) v) (ih _ _)
theorem setC_bk {b : Nat} {T : TypeId} (vs : List Value) : ∀ (W : World) (pre old : List Value), old.length = vs.length → Bk W b (pre ++ old).toArray T → Bk (setC W b pre.length vs) b (pre ++ vs).toArray T := by
  induction vs with
  | nil => intro W pre old hl h; have : old = [] := List.eq_nil_of_length_eq_zero hl; subst this; exact h
  | cons v vs ih =>
    intro W pre old hl h
    match old, hl with
    | u :: old, hl =>
      have h1 := h.set pre.length v
      have e : (pre ++ u :: old).toArray.setIfInBounds pre.length v = ((pre ++ [v]) ++ old).toArray := by simp
      rw [e] at h1
      have h2 := ih _ (pre ++ [v]) old (by simpa using hl) h1
      simpa [setC] using h2
theorem Bk.all {W : World} {b : Nat} {cs : Array Value} {T : TypeId} (h : Bk W b cs T) (vs : List Value) (hl : cs.size = vs.length) : Bk (setC W b 0 vs) b vs.toArray T :=
  setC_bk vs W [] cs.toList (by simpa using hl) (by simpa using h)


theorem own_ne {W : World} {base : Nat} {e : TypeId} {size : Nat} {v : Value} {n : Nat} {xs : List Value} {m : Nat} {cs : Array Value} {T : TypeId} (h : W.ownsRow base e size v n xs) (k : Bk W m cs T) (hT : e ≠ T) : v.ownBlock ≠ some m := by
  rcases h.2 with ⟨rfl, _⟩ | ⟨g, cap, cur, rfl, _, hg, _⟩
  · simp [Value.ownBlock]
  · have := Bk.ne (show Bk W g cur e from hg) k hT
    simpa [Value.ownBlock] using this
theorem own_base {W : World} {base : Nat} {e : TypeId} {size : Nat} {v : Value} {n : Nat} {xs : List Value} (h : W.ownsRow base e size v n xs) : ∀ g, v.ownBlock = some g → base ≤ g := fun g hg => (h.lt g hg).1
theorem own_own {W : World} {base : Nat} {e f : TypeId} {size size' : Nat} {v u : Value} {n n' : Nat} {xs ys : List Value} (h : W.ownsRow base e size v n xs) (k : W.ownsRow base f size' u n' ys) (hT : e ≠ f) : v.ownBlock = none ∨ v.ownBlock ≠ u.ownBlock := by
  rcases k.2 with ⟨rfl, _⟩ | ⟨g, cap, cur, rfl, _, hg, _⟩
  · by_cases e : v.ownBlock = none
    · exact .inl e
    · exact .inr (by simpa [Value.ownBlock] using e)
  · exact .inr (own_ne h (show Bk W g cur f from hg) hT)
theorem own_sl {W : World} {base : Nat} {e : TypeId} {size : Nat} {v : Value} {n : Nat} {xs : List Value} (h : W.ownsRow base e size v n xs) : Sl W v size n xs := by
  refine ⟨h.1, ?_⟩
  rcases h.2 with h2 | ⟨g, cap, cur, rfl, _, hg, hn, hm, hc, hx⟩
  · exact .inl ⟨h2.2, .inl h2.1⟩
  · refine .inr ⟨g, 0, cap, rfl, hn, hm, fun j hj => ?_⟩
    rw [Nat.zero_add, Bk.cell (show Bk W g cur e from hg) j, ← hx]
    have hle : n * size ≤ cap * size := Nat.mul_le_mul_right _ hn
    rw [List.getD_eq_getElem?_getD, List.getElem?_take, if_pos hj, Array.getElem?_toList, Array.getElem?_eq_getElem (by omega)]
    rfl
theorem own_slice {W : World} {base : Nat} {e : TypeId} {size : Nat} {v : Value} {n : Nat} {xs : List Value} (h : W.ownsRow base e size v n xs) : ∃ a m c, v = .slice a m c := by
  rcases h.2 with ⟨h2, _⟩ | ⟨g, cap, cur, h2, _⟩ <;> exact ⟨_, _, _, h2⟩
theorem add_off (g off j : Nat) : (⟨g, off, none⟩ : Addr).add j = ⟨g, off + j, none⟩ := by
  unfold Addr.add; split <;> simp_all

section
variable {P : Program} (w : World)
theorem run_app (t ty base : Nat) (e : TypeId) (i : TypeInfo) (z : Value) (size bytes : Nat) (ht : P.underlying t = some (.slice e)) (hi : P.info? e = some i) (hz : i.zero = some z)
    (hsize : i.size = size) (hby : i.bytes = bytes) (hzs : z.cells.size = size) (hsz : 0 < size)
    (v : Value) (n : Nat) (xs : List Value) (hown : w.ownsRow base e size v n xs)
    (x : Value) (m : Nat) (ys : List Value) (hx : Sl w x size m ys) (h1 : ∀ u ∈ ys, u.oneCell' = true)
    (h63 : n + m ≤ maxLen) (hbytes : (n + m) * bytes ≤ 140737488355328) (hbase : base ≤ w.heap.size) :
    ∃ v' w', (Builtin.append_ #[t, t] ty #[v, x]).run P w = .ok v' w' ∧ w'.ownsRow base e size v' (n + m) (xs ++ ys) ∧ w.grownBy w' v.ownBlock := by
  obtain ⟨hl, hx⟩ := hx
  rcases hx with ⟨rfl, rfl | ⟨a, cap, rfl, _⟩⟩ | ⟨g, off, cap, rfl, _, _, hc⟩
  · have e0 : ys = [] := List.eq_nil_of_length_eq_zero (by simpa using hl)
    subst e0
    exact ⟨v, w, run_append_owned_none w base t ty e i size ht hi v n xs hown, by simpa using hown, gb_refl _ _⟩
  · have e0 : ys = [] := List.eq_nil_of_length_eq_zero (by simpa using hl)
    subst e0
    obtain ⟨v', w', hr, h2, h3, _⟩ := run_append_own (P := P) w base t ty e i z size bytes ht hi hz hsize hby hzs hsz v n xs hown a 0 cap [] hl (fun j u hu => by simp at hu) h1 h63 hbytes hbase
    exact ⟨v', w', hr, h2, h3⟩
  · obtain ⟨v', w', hr, h2, h3, _⟩ := run_append_own (P := P) w base t ty e i z size bytes ht hi hz hsize hby hzs hsz v n xs hown ⟨g, off, none⟩ m cap ys hl
      (fun j u hu => by
        have hj : j < ys.length := (List.getElem?_eq_some_iff.1 hu).1
        rw [add_off, hc j (by omega), List.getD_eq_getElem?_getD, hu]; rfl) h1 h63 hbytes hbase
    exact ⟨v', w', hr, h2, h3⟩
theorem wp_app {o : Oper} {a : Act} {K : Act → World → Prop} {Q : Exit → Act → World → Prop} (s x : Operand) (t : TypeId)
    (ho : o.op = .call { callee := .builtin .append, args := #[s, x], argTypes := #[t, t] })
    (base : Nat) (e : TypeId) (i : TypeInfo) (z : Value) (size bytes : Nat) (ht : P.underlying t = some (.slice e)) (hi : P.info? e = some i) (hz : i.zero = some z)
    (hsize : i.size = size) (hby : i.bytes = bytes) (hzs : z.cells.size = size) (hsz : 0 < size)
    (v : Value) (n : Nat) (xs : List Value) (hs : a.eval s = v) (hown : w.ownsRow base e size v n xs)
    (xv : Value) (m : Nat) (ys : List Value) (hxe : a.eval x = xv) (hx : Sl w xv size m ys) (h1 : ∀ u ∈ ys, u.oneCell' = true)
    (h63 : n + m ≤ maxLen) (hbytes : (n + m) * bytes ≤ 140737488355328) (hbase : base ≤ w.heap.size)
    (h : ∀ v' w', w'.ownsRow base e size v' (n + m) (xs ++ ys) → w.grownBy w' v.ownBlock → K (a.put o.dst v') w') : o.wp P a w K Q := by
  obtain ⟨v', w', hr, h2, h3⟩ := run_app (P := P) w t o.type base e i z size bytes ht hi hz hsize hby hzs hsz v n xs hown xv m ys hx h1 h63 hbytes hbase
  unfold Oper.wp execOp
  simp only [ho, resolve, invoke, builtin, Sem.run_bind, Sem.run_pure, Result.andThen_ok, List.map_toArray, List.map_cons, List.map_nil, hs, hxe, hr]
  exact h v' w' h2 h3
theorem wpList_app {ops : Array Oper} {rest : List Oper} {o : Oper} {a : Act} {Q : Exit → Act → World → Prop} (hgd : o.guard = none) (s x : Operand) (t : TypeId)
    (ho : o.op = .call { callee := .builtin .append, args := #[s, x], argTypes := #[t, t] })
    (base : Nat) (e : TypeId) (i : TypeInfo) (z : Value) (size bytes : Nat) (ht : P.underlying t = some (.slice e)) (hi : P.info? e = some i) (hz : i.zero = some z)
    (hsize : i.size = size) (hby : i.bytes = bytes) (hzs : z.cells.size = size) (hsz : 0 < size)
    (v : Value) (n : Nat) (xs : List Value) (hs : a.eval s = v) (hown : w.ownsRow base e size v n xs)
    (xv : Value) (m : Nat) (ys : List Value) (hxe : a.eval x = xv) (hx : Sl w xv size m ys) (h1 : ∀ u ∈ ys, u.oneCell' = true)
    (h63 : n + m ≤ maxLen) (hbytes : (n + m) * bytes ≤ 140737488355328) (hbase : base ≤ w.heap.size)
    (h : ∀ v' w', w'.ownsRow base e size v' (n + m) (xs ++ ys) → w.grownBy w' v.ownBlock → wpList P ops Q rest (a.put o.dst v') w') : wpList P ops Q (o :: rest) a w :=
  wpList_plain hgd fun _ hK => wp_app w s x t ho base e i z size bytes ht hi hz hsize hby hzs hsz v n xs hs hown xv m ys hxe hx h1 h63 hbytes hbase fun v' w' h2 h3 => hK _ _ (h v' w' h2 h3)
theorem step_app {ops : Array Oper} {o : Oper} {a : Act} {K : Act → World → Prop} {Q : Exit → Act → World → Prop} {E : Prop} (hgd : o.guard = none) (s x : Operand) (t : TypeId)
    (ho : o.op = .call { callee := .builtin .append, args := #[s, x], argTypes := #[t, t] })
    (base : Nat) (e : TypeId) (i : TypeInfo) (z : Value) (size bytes : Nat) (ht : P.underlying t = some (.slice e)) (hi : P.info? e = some i) (hz : i.zero = some z)
    (hsize : i.size = size) (hby : i.bytes = bytes) (hzs : z.cells.size = size) (hsz : 0 < size)
    (v : Value) (n : Nat) (xs : List Value) (hs : a.eval s = v) (hown : w.ownsRow base e size v n xs)
    (xv : Value) (m : Nat) (ys : List Value) (hxe : a.eval x = xv) (hx : Sl w xv size m ys) (h1 : ∀ u ∈ ys, u.oneCell' = true)
    (h63 : n + m ≤ maxLen) (hbytes : (n + m) * bytes ≤ 140737488355328) (hbase : base ≤ w.heap.size)
    (h : ∀ v' w', w'.ownsRow base e size v' (n + m) (xs ++ ys) → w.grownBy w' v.ownBlock → K (a.put o.dst v') w') :
    if Region.wanted o (yielded ops a.tmps) = true then Oper.wp P o a w K Q else E := by
  rw [if_pos (by simp [Region.wanted, hgd])]
  exact wp_app w s x t ho base e i z size bytes ht hi hz hsize hby hzs hsz v n xs hs hown xv m ys hxe hx h1 h63 hbytes hbase h
end

theorem own_by {w w' : World} {base : Nat} {e : TypeId} {size : Nat} {v : Value} {n : Nat} {xs : List Value} (h : w.ownsRow base e size v n xs) (g : w.grownBy w' none) : w'.ownsRow base e size v n xs := by
  by_cases hv : v.ownBlock = none
  · exact h.kept g (.inl hv)
  · exact h.kept g (.inr hv)


theorem Sl.by_ {w w' : World} {v : Value} {sz n : Nat} {xs : List Value} (h : Sl w v sz n xs) (hb : w.grownBy w' none) : Sl w' v sz n xs :=
  h.below ⟨hb.os, hb.tape, hb.output, hb.size, fun k hk => hb.block k hk (by simp)⟩
theorem ownsRow_set {w : World} {base : Nat} {e : TypeId} {size : Nat} {v : Value} {n : Nat} {xs : List Value} {b : Nat} {cs : Array Value} {T : TypeId} (h : w.ownsRow base e size v n xs) (k : Bk w b cs T) (hT : e ≠ T) (vs : List Value) : (setC w b 0 vs).ownsRow base e size v n xs :=
  h.kept (setC_gb b vs w 0) (.inr (own_ne h k hT))
theorem flat_set {α : Type} (enc : α → List Value) (sz : Nat) (hs : ∀ x, (enc x).length = sz) (d x' : α) (j : Nat) (u : Value) (hj : j < sz) :
    ∀ (l : List α) (k : Nat), k < l.length → enc x' = (enc (l.getD k d)).set j u → (l.flatMap enc).set (k * sz + j) u = (l.set k x').flatMap enc := by
  intro l
  induction l with
  | nil => intro k hk; simp at hk
  | cons x l ih =>
    intro k hk h
    cases k with
    | zero =>
      have h0 := hs x
      simp only [List.getD_cons_zero] at h
      simp only [List.flatMap_cons, List.set_cons_zero, Nat.zero_mul, Nat.zero_add]
      rw [List.set_append_left _ _ (by omega), h]
    | succ k =>
      have h1 := ih k (by simpa using hk) (by simpa using h)
      have h0 := hs x
      simp only [List.flatMap_cons, List.set_cons_succ]
      rw [← h1, List.set_append_right _ _ (by rw [h0, Nat.add_mul]; omega)]
      congr 2
      rw [h0, Nat.add_mul]; omega
theorem own_mono {w : World} {base base' : Nat} {e : TypeId} {size : Nat} {v : Value} {n : Nat} {xs : List Value} (h : w.ownsRow base e size v n xs) (hb : base' ≤ base) : w.ownsRow base' e size v n xs := by
  refine ⟨h.1, ?_⟩
  rcases h.2 with h2 | ⟨g, cap, cur, h1, h2, h3⟩
  · exact .inl h2
  · exact .inr ⟨g, cap, cur, h1, by omega, h3⟩
/-- What a slice of the call's own looks like if it has an element: and how its cells are read and written. -/
theorem own_open {w : World} {base : Nat} {e : TypeId} {size : Nat} {v : Value} {n : Nat} {xs : List Value} (h : w.ownsRow base e size v n xs) (hn : 0 < n) :
    ∃ g cap, v = .slice (some ⟨g, 0, none⟩) n cap ∧ (∃ cur, Bk w g cur e) ∧ (∀ j, j < n * size → w.cell? ⟨g, j, none⟩ = xs[j]?) ∧ (∀ j, w.frozen? ⟨g, j, none⟩ = false) ∧
      (∀ j u, j < n * size → (w.setCell ⟨g, j, none⟩ u).ownsRow base e size v n (xs.set j u)) := by
  rcases h.2 with ⟨_, h0⟩ | ⟨g, cap, cur, rfl, hb, hg, hnc, hm, hc, hx⟩
  · omega
  refine ⟨g, cap, rfl, ⟨cur, hg⟩, fun j hj => ?_, fun j => Bk.frozen (show Bk w g cur e from hg) j, fun j u hj => ?_⟩
  · rw [Bk.cell (show Bk w g cur e from hg) j, ← hx, List.getElem?_take, if_pos hj, Array.getElem?_toList]
  · have hk := Bk.set (show Bk w g cur e from hg) j u
    refine ⟨by rw [List.length_set]; exact h.1, .inr ⟨g, cap, _, rfl, hb, hk, hnc, hm, by simpa using hc, ?_⟩⟩
    rw [Array.toList_setIfInBounds, List.take_set, hx]
theorem own_slc {W : World} {base : Nat} {e : TypeId} {size : Nat} {v : Value} {n : Nat} {xs : List Value} (h : W.ownsRow base e size v n xs) : ∃ a c, v = .slice a n c := by
  rcases h.2 with ⟨h2, rfl⟩ | ⟨g, cap, cur, h2, _⟩ <;> exact ⟨_, _, h2⟩
/-- The one element that is laid for an append. -/
theorem sl_new (W : World) (cs : Array Value) (T : TypeId) (n : Nat) (hn : W.heap.size = n) {sz : Nat} (hm : 1 ≤ maxLen) (hs : cs.size = sz) : Sl (W.alloc (.cells cs T)) (.slice (some ⟨n, 0, none⟩) 1 1) sz 1 cs.toList := by
  subst hn
  refine ⟨by simpa using hs, .inr ⟨_, 0, 1, rfl, Nat.le_refl _, hm, fun j hj => ?_⟩⟩
  rw [Nat.zero_add, (Bk.new W cs T).cell j, List.getD_eq_getElem?_getD, Array.getElem?_toList, Array.getElem?_eq_getElem (by omega)]
  rfl
theorem Sl.draw {w w' : World} {v : Value} {sz n b : Nat} {xs : List Value} (h : Sl w v sz n xs) (o : w.grownBy w' (some b))
    (hb : ∀ off, (∀ j, j < n * sz → w.cell? ⟨b, off + j, none⟩ = some (xs.getD j undef)) → n = 0) : Sl w' v sz n xs := by
  refine ⟨h.1, ?_⟩
  rcases h.2 with h | ⟨g, off, cap, hv, hn, hm, hc⟩
  · exact .inl h
  · refine .inr ⟨g, off, cap, hv, hn, hm, fun j hj => ?_⟩
    have hg : g ≠ b := by
      rintro rfl
      have := hb off hc
      subst this
      omega
    rw [← hc j hj]
    exact gb_cell o (World.block_lt_of_cell? w _ (hc j hj)) (by simpa using Ne.symm hg) _
theorem gb_b {w w' : World} (h : Below w.heap.size w w') : w.grownBy w' none := gb_below h none
end Go.Proofs.Ytackckljldpldaa
