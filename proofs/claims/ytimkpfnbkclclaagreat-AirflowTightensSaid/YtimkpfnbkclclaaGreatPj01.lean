/- A part of the proof, what is needed of it. -/
import Derived.Laws.AppendOwn
import Derived.Laws.OwnMore
import Derived.Deep.MidRow
import Derived.Laws.CopyRow
import Derived.Test.YtimkpfnbkclclaaGreatPj00
namespace Go.Proofs.YtimkpfnbkclclaaGreat.Ab
open Go
inductive PR (w : World) (M : Nat → Prop) : AV → Value → Prop
  | undef (v : Value) : PR w M .undef v
  | bool (b : Bool) : PR w M (.bool b) (.bool b)
  | int (k : IntKind) (n : Int) : PR w M (.int k n) (.int k n)
  | str (s : ByteArray) : PR w M (.str s) (.string s)
  | nilp : PR w M .nilp (.pointer none)
  | raw (v : Value) : PR w M (.raw v) v
  | any1 (v : Value) (h : v.oneCell' = true) : PR w M .any1 v
  | slc0 (sz : Nat) (f : Nat → List AV) (v : Value) (h : v = .slice none 0 0 ∨ ∃ a cap, v = .slice (some a) 0 cap ∧ cap ≤ maxLen) : PR w M (.slc sz 0 f) v
  | slc (sz n : Nat) (f : Nat → List AV) (g off cap : Nat) (us : Nat → Nat → Value) (hn : 0 < n) (hc : n ≤ cap) (hm : cap ≤ maxLen)
      (hl : ∀ k, k < n → (f k).length = sz)
      (hg : ∀ k j, k < n → j < sz → ¬ M g ∧ w.cell? ⟨g, off + (k * sz + j), none⟩ = some (us k j) ∧ (us k j).oneCell' = true)
      (hp : ∀ k j, k < n → j < sz → PR w M ((f k).getD j .undef) (us k j)) : PR w M (.slc sz n f) (.slice (some ⟨g, off, none⟩) n cap)
inductive VR (w : World) (M : Nat → Prop) (σ : Nat → Value) (V : Nat → Option Nat) : AV → Value → Prop
  | pure {x : AV} {v : Value} (h : PR w M x v) : VR w M σ V x v
  | void : VR w M σ V .void Go.undef
  | own (id ver m : Nat) (v : Value) (h1 : v.oneCell' = true) (hV : V id = some m) (hm : ver ≤ m) (h : ver = m → v = σ id) : VR w M σ V (.own id ver) v
  | ptr (id off g m : Nat) (hV : V id = some m) (h : σ id = .pointer (some ⟨g, 0, none⟩)) : VR w M σ V (.ptr id off) (.pointer (some ⟨g, off, none⟩))
  | rptr (id ver sz k off m g b : Nat) (hV : V id = some m) (hm : ver ≤ m)
      (h : ver = m → ∃ n cap, σ id = .slice (some ⟨g, 0, none⟩) n cap ∧ k < n ∧ b = k * sz) : VR w M σ V (.rptr id ver sz k off) (.pointer (some ⟨g, b + off, none⟩))
  | pptr (cs : List AV) (off g o : Nat) (us : Nat → Value) (hg : ∀ j, j < cs.length → ¬ M g ∧ w.cell? ⟨g, o + j, none⟩ = some (us j) ∧ (us j).oneCell' = true)
      (hp : ∀ j, j < cs.length → PR w M (cs.getD j .undef) (us j)) : VR w M σ V (.pptr cs off) (.pointer (some ⟨g, o + off, none⟩))
  | lptr (id ver off m g : Nat) (hV : V id = some m) (hm : ver ≤ m) (h : ver = m → ∃ n cap, σ id = .slice (some ⟨g, 0, none⟩) n cap) : VR w M σ V (.lptr id ver off) (.pointer (some ⟨g, off, none⟩))
  | agg (cs : List AV) (vs : Array Value) (hl : vs.size = cs.length) (h : ∀ j, j < cs.length → VR w M σ V (cs.getD j .undef) (vs.getD j Go.undef)) : VR w M σ V (.agg cs) (.agg vs)
  | tup (cs : List AV) (vs : Array Value) (hl : vs.size = cs.length) (h : ∀ j, j < cs.length → VR w M σ V (cs.getD j .undef) (vs.getD j Go.undef)) : VR w M σ V (.tup cs) (.tuple vs)
  | fn (f : FuncId) (cs : List AV) (vs : Array Value) (hl : vs.size = cs.length) (h : ∀ j, j < cs.length → VR w M σ V (cs.getD j .undef) (vs.getD j Go.undef)) : VR w M σ V (.fn f cs) (.func (.func f) #[] vs)
theorem PR.grow {w w' : World} {M M' : Nat → Prop} (hk : ∀ g, ¬ M g → g < w.heap.size → w'.heap[g]? = w.heap[g]?) (hm : ∀ g, g < w.heap.size → M' g → M g)
    {x : AV} {v : Value} (h : PR w M x v) : PR w' M' x v := by
  induction h with
  | slc0 sz f v h => exact .slc0 sz f v h
  | slc sz n f g off cap us hn hc hmx hl hg hp ih =>
    refine .slc sz n f g off cap us hn hc hmx hl (fun k j hk' hj => ?_) ih
    obtain ⟨h1, h2, h3⟩ := hg k j hk' hj
    have hlt := World.block_lt_of_cell? w _ h2
    exact ⟨fun h => h1 (hm g hlt h), by rw [World.cell?_of_block (w := w) (hk g h1 hlt)]; exact h2, h3⟩
  | any1 v h => exact .any1 v h
  | _ => constructor
structure Grow (w : World) (M : Nat → Prop) (σ : Nat → Value) (V : Nat → Option Nat) (w' : World) (M' : Nat → Prop) (σ' : Nat → Value) (V' : Nat → Option Nat) : Prop where
  size : w.heap.size ≤ w'.heap.size
  keep : ∀ g, ¬ M g → g < w.heap.size → w'.heap[g]? = w.heap[g]?
  mutd : ∀ g, g < w.heap.size → M' g → M g
  ver : ∀ id m, V id = some m → ∃ m', V' id = some m' ∧ m ≤ m' ∧ (m' = m → σ' id = σ id)
  var : ∀ id m g, V id = some m → σ id = .pointer (some g) → σ' id = σ id
theorem Grow.refl (w : World) (M : Nat → Prop) (σ : Nat → Value) (V : Nat → Option Nat) : Grow w M σ V w M σ V :=
  ⟨Nat.le_refl _, fun _ _ _ => rfl, fun _ _ h => h, fun _ m h => ⟨m, h, Nat.le_refl _, fun _ => rfl⟩, fun _ _ _ _ _ => rfl⟩
theorem Grow.trans {w w' w'' : World} {M M' M'' : Nat → Prop} {σ σ' σ'' : Nat → Value} {V V' V'' : Nat → Option Nat} (h : Grow w M σ V w' M' σ' V') (k : Grow w' M' σ' V' w'' M'' σ'' V'') :
    Grow w M σ V w'' M'' σ'' V'' := by
  refine ⟨Nat.le_trans h.size k.size, fun g hg hl => ?_, fun g hg hm => h.mutd g hg (k.mutd g (Nat.lt_of_lt_of_le hg h.size) hm), fun id m hV => ?_, fun id m g hV hs => ?_⟩
  · rw [k.keep g (fun hm => hg (h.mutd g hl hm)) (Nat.lt_of_lt_of_le hl h.size), h.keep g hg hl]
  · obtain ⟨m1, a1, b1, c1⟩ := h.ver id m hV
    obtain ⟨m2, a2, b2, c2⟩ := k.ver id m1 a1
    exact ⟨m2, a2, Nat.le_trans b1 b2, fun e => by rw [c2 (by omega), c1 (by omega)]⟩
  · obtain ⟨m1, a1, _, _⟩ := h.ver id m hV
    rw [k.var id m1 g a1 (by rw [h.var id m g hV hs]; exact hs), h.var id m g hV hs]
theorem Grow.draw (w : World) (M : Nat → Prop) (σ : Nat → Value) (V : Nat → Option Nat) (n : Nat) : Grow w M σ V { w with drawn := n } M σ V :=
  ⟨Nat.le_refl _, fun _ _ _ => rfl, fun _ _ h => h, fun _ m h => ⟨m, h, Nat.le_refl _, fun _ => rfl⟩, fun _ _ _ _ _ => rfl⟩
theorem VR.grow {w w' : World} {M M' : Nat → Prop} {σ σ' : Nat → Value} {V V' : Nat → Option Nat} (G : Grow w M σ V w' M' σ' V') {x : AV} {v : Value} (h : VR w M σ V x v) : VR w' M' σ' V' x v := by
  induction h with
  | pure h => exact .pure (h.grow G.keep G.mutd)
  | void => exact .void
  | own id ver m v hone hV hm h =>
    obtain ⟨m', h1, h2, h3⟩ := G.ver id m hV
    exact .own id ver m' v hone h1 (by omega) (fun e => by rw [h3 (by omega)]; exact h (by omega))
  | ptr id off g m hV h =>
    obtain ⟨m', h1, _, _⟩ := G.ver id m hV
    exact .ptr id off g m' h1 (by rw [G.var id m _ hV h]; exact h)
  | rptr id ver sz k off m g b hV hm h =>
    obtain ⟨m', h1, h2, h3⟩ := G.ver id m hV
    exact .rptr id ver sz k off m' g b h1 (by omega) (fun e => by rw [h3 (by omega)]; exact h (by omega))
  | pptr cs off g o us hg hp =>
    refine .pptr cs off g o us (fun j hj => ?_) (fun j hj => (hp j hj).grow G.keep G.mutd)
    obtain ⟨h1, h2, h3⟩ := hg j hj
    have hlt := World.block_lt_of_cell? w _ h2
    exact ⟨fun h => h1 (G.mutd g hlt h), by rw [World.cell?_of_block (w := w) (G.keep g h1 hlt)]; exact h2, h3⟩
  | lptr id ver off m g hV hm h =>
    obtain ⟨m', h1, h2, h3⟩ := G.ver id m hV
    exact .lptr id ver off m' g h1 (by omega) (fun e => by rw [h3 (by omega)]; exact h (by omega))
  | agg cs vs hl _ ih => exact .agg cs vs hl ih
  | tup cs vs hl _ ih => exact .tup cs vs hl ih
  | fn f cs vs hl _ ih => exact .fn f cs vs hl ih
def Blk.live : Blk → Prop
  | .dead _ => False
  | _ => True
def aA : Value → Option Nat
  | .pointer (some a) => some a.block
  | .slice (some a) _ _ => some a.block
  | _ => none
structure Fr where
  w0 : World
  m0 : Nat → Prop
  mx : Nat → Prop
  s0 : Nat → Value
  mm : Nat
  kv : Prop
def Own (H : Nat → Option Blk) (σ : Nat → Value) (g : Nat) : Prop := ∃ id b, H id = some b ∧ b.live ∧ aA (σ id) = some g
def Mut (F : Fr) (H : Nat → Option Blk) (σ : Nat → Value) (g : Nat) : Prop := F.mx g ∨ Own H σ g
def Ver (H : Nat → Option Blk) (id : Nat) : Option Nat := (H id).map Blk.ver
def BR (w : World) (M : Nat → Prop) (σ : Nat → Value) (V : Nat → Option Nat) (id : Nat) : Blk → Prop
  | .var cells => ∃ g vs T, σ id = .pointer (some ⟨g, 0, none⟩) ∧ w.heap[g]? = some (.cells vs T (0, 0)) ∧ vs.size = cells.length ∧
      ∀ j, j < cells.length → VR w M σ V (cells.getD j .undef) (vs.getD j Go.undef) ∧ (vs.getD j Go.undef).oneCell' = true
  | .row _ sz n e f => ∃ xs, 0 < sz ∧ w.ownsRow 0 e sz (σ id) n xs ∧ (∀ k, k < n → (f k).length = sz) ∧
      ∀ k j, k < n → j < sz → PR w M ((f k).getD j .undef) (xs.getD (k * sz + j) Go.undef) ∧ (xs.getD (k * sz + j) Go.undef).oneCell' = true
  | .nilrow _ => σ id = .slice none 0 0
  | .lrow _ sz n e cells => ∃ xs, 0 < sz ∧ 0 < n ∧ w.ownsRow 0 e sz (σ id) n xs ∧ cells.length = n * sz ∧
      ∀ j, j < n * sz → VR w M σ V (cells.getD j .undef) (xs.getD j Go.undef) ∧ (xs.getD j Go.undef).oneCell' = true
  | .dead _ => True
structure RelH (F : Fr) (H : Nat → Option Blk) (σ : Nat → Value) (w : World) : Prop where
  os : w.os = F.w0.os
  tape : w.tape = F.w0.tape
  output : w.output = F.w0.output
  size : F.w0.heap.size ≤ w.heap.size
  old : ∀ g, g < F.w0.heap.size → ¬ F.m0 g → w.heap[g]? = F.w0.heap[g]?
  bl : ∀ id b, H id = some b → BR w (Mut F H σ) σ (Ver H) id b
  ds : ∀ id id' b b' g, id ≠ id' → H id = some b → H id' = some b' → b.live → b'.live → aA (σ id) = some g → aA (σ id') = some g → False
  new : ∀ id b g, H id = some b → b.live → aA (σ id) = some g → g < w.heap.size ∧ (F.w0.heap.size ≤ g ∨ F.m0 g) ∧ ¬ F.mx g
  mxl : ∀ g, F.mx g → g < F.w0.heap.size
theorem BR.grow {w w' : World} {M M' : Nat → Prop} {σ σ' : Nat → Value} {V V' : Nat → Option Nat} (G : Grow w M σ V w' M' σ' V') {id : Nat} {b : Blk} (hσ : σ' id = σ id)
    (hb : ∀ g, b.live → aA (σ id) = some g → g < w.heap.size → w'.heap[g]? = w.heap[g]?) (h : BR w M σ V id b) : BR w' M' σ' V' id b := by
  cases b with
  | var cells =>
    obtain ⟨g, vs, T, h1, h2, h3, h4⟩ := h
    have hlt : g < w.heap.size := (Array.getElem?_eq_some_iff.1 h2).1
    exact ⟨g, vs, T, by rw [hσ]; exact h1, by rw [hb g trivial (by rw [h1]; rfl) hlt]; exact h2, h3, fun j hj => ⟨(h4 j hj).1.grow G, (h4 j hj).2⟩⟩
  | row ver sz n e f =>
    obtain ⟨xs, h0, h1, h2, h3⟩ := h
    refine ⟨xs, h0, ?_, h2, fun k j hk hj => ⟨(h3 k j hk hj).1.grow G.keep G.mutd, (h3 k j hk hj).2⟩⟩
    rw [hσ]
    refine ⟨h1.1, ?_⟩
    rcases h1.2 with h | ⟨g, cap, cur, e1, e2, e3, e4⟩
    · exact .inl h
    · refine .inr ⟨g, cap, cur, e1, e2, ?_, e4⟩
      rw [hb g trivial (by rw [e1]; rfl) (Array.getElem?_eq_some_iff.1 e3).1]
      exact e3
  | nilrow v => exact hσ.trans h
  | lrow ver sz n e cells =>
    obtain ⟨xs, h0, h0', h1, h2, h3⟩ := h
    refine ⟨xs, h0, h0', ?_, h2, fun j hj => ⟨(h3 j hj).1.grow G, (h3 j hj).2⟩⟩
    rw [hσ]
    refine ⟨h1.1, ?_⟩
    rcases h1.2 with h | ⟨g, cap, cur, e1, e2, e3, e4⟩
    · exact .inl h
    · refine .inr ⟨g, cap, cur, e1, e2, ?_, e4⟩
      rw [hb g trivial (by rw [e1]; rfl) (Array.getElem?_eq_some_iff.1 e3).1]
      exact e3
  | dead v => trivial
theorem RelH.chgs {F : Fr} {H H' : Nat → Option Blk} {σ σ' : Nat → Value} {w w' : World} (h : RelH F H σ w) (I : Nat → Prop)
    (offH : ∀ id, ¬ I id → H' id = H id) (offS : ∀ id, ¬ I id → σ' id = σ id)
    (os : w'.os = w.os) (tape : w'.tape = w.tape) (output : w'.output = w.output) (size : w.heap.size ≤ w'.heap.size)
    (hkeep : ∀ g, g < w.heap.size → (∀ id b, I id → H id = some b → b.live → aA (σ id) ≠ some g) → w'.heap[g]? = w.heap[g]?)
    (hs : ∀ id b' g, I id → H' id = some b' → b'.live → aA (σ' id) = some g → g < w'.heap.size ∧ (w.heap.size ≤ g ∨ ∃ id0 b, I id0 ∧ H id0 = some b ∧ b.live ∧ aA (σ id0) = some g))
    (hd : ∀ id id' b b' g, id ≠ id' → I id → I id' → H' id = some b → H' id' = some b' → b.live → b'.live → aA (σ' id) = some g → aA (σ' id') = some g → False)
    (hv : ∀ id b, I id → H id = some b → ∃ b', H' id = some b' ∧ b.ver ≤ b'.ver ∧ (b'.ver = b.ver → σ' id = σ id) ∧ ∀ g, σ id = .pointer (some g) → σ' id = σ id)
    (hb : Grow w (Mut F H σ) σ (Ver H) w' (Mut F H' σ') σ' (Ver H') → ∀ id b', I id → H' id = some b' → BR w' (Mut F H' σ') σ' (Ver H') id b') :
    RelH F H' σ' w' ∧ Grow w (Mut F H σ) σ (Ver H) w' (Mut F H' σ') σ' (Ver H') := by
  have own' : ∀ id b' g, H' id = some b' → b'.live → aA (σ' id) = some g → (¬ I id ∧ H id = some b' ∧ aA (σ id) = some g) ∨ (I id ∧ g < w'.heap.size ∧ (w.heap.size ≤ g ∨ ∃ id0 b, I id0 ∧ H id0 = some b ∧ b.live ∧ aA (σ id0) = some g)) := by
    intro id b' g h1 h2 h3
    by_cases hi : I id
    · exact .inr ⟨hi, hs id b' g hi h1 h2 h3⟩
    · exact .inl ⟨hi, by rw [← offH id hi]; exact h1, by rw [← offS id hi]; exact h3⟩
  have G : Grow w (Mut F H σ) σ (Ver H) w' (Mut F H' σ') σ' (Ver H') := by
    refine ⟨size, fun g hg hl => hkeep g hl (fun id b _ h1 h2 h3 => hg (.inr ⟨id, b, h1, h2, h3⟩)), fun g hl hm => ?_, fun id m hV => ?_, fun id m g hV hs' => ?_⟩
    · rcases hm with hm | ⟨id, b, h1, h2, h3⟩
      · exact .inl hm
      · rcases own' id b g h1 h2 h3 with ⟨_, h4, h5⟩ | ⟨_, _, h4 | ⟨id0, b0, _, h5, h6, h7⟩⟩
        · exact .inr ⟨id, b, h4, h2, h5⟩
        · omega
        · exact .inr ⟨id0, b0, h5, h6, h7⟩
    · obtain ⟨b, h1, h2⟩ := Option.map_eq_some_iff.1 hV
      by_cases hi : I id
      · obtain ⟨b', e1, e2, e3, _⟩ := hv id b hi h1
        exact ⟨b'.ver, by simp [Ver, e1], by omega, fun e => e3 (by omega)⟩
      · exact ⟨m, by rw [Ver, offH id hi]; exact hV, Nat.le_refl _, fun _ => offS id hi⟩
    · obtain ⟨b, h1, h2⟩ := Option.map_eq_some_iff.1 hV
      by_cases hi : I id
      · obtain ⟨b', e1, e2, e3, e4⟩ := hv id b hi h1
        exact e4 g hs'
      · exact offS id hi
  refine ⟨⟨os.trans h.os, tape.trans h.tape, output.trans h.output, Nat.le_trans h.size size, fun g hg hm => ?_, fun id b hb' => ?_, fun id id' b b' g hne h1 h2 l1 l2 k1 k2 => ?_, fun id b g h1 h2 h3 => ?_, h.mxl⟩, G⟩
  · rw [hkeep g (Nat.lt_of_lt_of_le hg h.size) (fun id b _ h1 h2 h3 => ?_), h.old g hg hm]
    rcases (h.new id b g h1 h2 h3).2.1 with h4 | h4
    · omega
    · exact hm h4
  · by_cases hi : I id
    · exact hb G id b hi hb'
    · have hH : H id = some b := by rw [← offH id hi]; exact hb'
      refine (h.bl id b hH).grow G (offS id hi) fun g hl hg hlt => hkeep g hlt fun id0 b0 hi0 h1 h2 h3 => ?_
      exact h.ds id id0 b b0 g (fun e => hi (e ▸ hi0)) hH h1 hl h2 hg h3
  · rcases own' id b g h1 l1 k1 with ⟨i1, p1, q1⟩ | ⟨i1, p1, q1⟩
    · rcases own' id' b' g h2 l2 k2 with ⟨i2, p2, q2⟩ | ⟨i2, p2, q2⟩
      · exact h.ds id id' b b' g hne p1 p2 l1 l2 q1 q2
      · rcases q2 with q2 | ⟨id0, b0, i0, e1, e2, e3⟩
        · have := (h.new id b g p1 l1 q1).1; omega
        · exact h.ds id id0 b b0 g (fun e => i1 (e ▸ i0)) p1 e1 l1 e2 q1 e3
    · rcases own' id' b' g h2 l2 k2 with ⟨i2, p2, q2⟩ | ⟨i2, p2, q2⟩
      · rcases q1 with q1 | ⟨id0, b0, i0, e1, e2, e3⟩
        · have := (h.new id' b' g p2 l2 q2).1; omega
        · exact h.ds id' id0 b' b0 g (fun e => i2 (e ▸ i0)) p2 e1 l2 e2 q2 e3
      · exact hd id id' b b' g hne i1 i2 h1 h2 l1 l2 k1 k2
  · rcases own' id b g h1 h2 h3 with ⟨_, p1, q1⟩ | ⟨_, p1, q1⟩
    · obtain ⟨a1, a2, a3⟩ := h.new id b g p1 h2 q1
      exact ⟨Nat.lt_of_lt_of_le a1 size, a2, a3⟩
    · rcases q1 with q1 | ⟨id0, b0, i0, e1, e2, e3⟩
      · exact ⟨p1, .inl (Nat.le_trans h.size q1), fun hm => by have := h.mxl g hm; have := h.size; omega⟩
      · obtain ⟨a1, a2, a3⟩ := h.new id0 b0 g e1 e2 e3
        exact ⟨p1, a2, a3⟩
def upd {α : Type} (f : Nat → α) (i : Nat) (x : α) : Nat → α := fun j => if j = i then x else f j
@[simp] theorem upd_same {α : Type} (f : Nat → α) (i : Nat) (x : α) : upd f i x i = x := by simp [upd]
theorem upd_ne {α : Type} (f : Nat → α) {i j : Nat} (x : α) (h : j ≠ i) : upd f i x j = f j := by simp [upd, h]
theorem RelH.chg {F : Fr} {H : Nat → Option Blk} {σ : Nat → Value} {w w' : World} (h : RelH F H σ w) (id : Nat) (b' : Blk) (s' : Value)
    (os : w'.os = w.os) (tape : w'.tape = w.tape) (output : w'.output = w.output) (size : w.heap.size ≤ w'.heap.size)
    (hkeep : ∀ g, g < w.heap.size → (∀ b, H id = some b → b.live → aA (σ id) ≠ some g) → w'.heap[g]? = w.heap[g]?)
    (hs : ∀ g, b'.live → aA s' = some g → g < w'.heap.size ∧ (w.heap.size ≤ g ∨ ∃ b, H id = some b ∧ b.live ∧ aA (σ id) = some g))
    (hv : ∀ b, H id = some b → b.ver ≤ b'.ver ∧ (b'.ver = b.ver → s' = σ id) ∧ ∀ g, σ id = .pointer (some g) → s' = σ id)
    (hb : Grow w (Mut F H σ) σ (Ver H) w' (Mut F (upd H id (some b')) (upd σ id s')) (upd σ id s') (Ver (upd H id (some b'))) →
      BR w' (Mut F (upd H id (some b')) (upd σ id s')) (upd σ id s') (Ver (upd H id (some b'))) id b') :
    RelH F (upd H id (some b')) (upd σ id s') w' ∧ Grow w (Mut F H σ) σ (Ver H) w' (Mut F (upd H id (some b')) (upd σ id s')) (upd σ id s') (Ver (upd H id (some b'))) := by
  refine h.chgs (fun i => i = id) (fun i hi => upd_ne _ _ hi) (fun i hi => upd_ne _ _ hi) os tape output size (fun g hg hk => hkeep g hg fun b h1 h2 => hk id b rfl h1 h2) ?_ ?_ ?_ ?_
  · rintro i b g rfl h1 h2 h3
    rw [upd_same] at h1 h3
    obtain rfl := Option.some.inj h1
    obtain ⟨a1, a2⟩ := hs g h2 h3
    exact ⟨a1, a2.imp_right fun ⟨b, e⟩ => ⟨i, b, rfl, e⟩⟩
  · rintro i i' b b' g hne rfl rfl
    exact absurd rfl hne
  · rintro i b rfl h1
    obtain ⟨a1, a2, a3⟩ := hv b h1
    exact ⟨b', upd_same _ _ _, a1, fun e => by rw [upd_same]; exact a2 e, fun g e => by rw [upd_same]; exact a3 g e⟩
  · rintro G i b rfl h1
    rw [upd_same] at h1
    obtain rfl := Option.some.inj h1
    exact hb G
end Go.Proofs.YtimkpfnbkclclaaGreat.Ab
namespace Go.Proofs.YtimkpfnbkclclaaGreat.Ab
open Go
theorem nO {α : Type 1} {id : Nat} {k : Blk → LM α} {H : Nat → Option Blk} {rd : List Nat} {g : α} (h : (LM.look id k).run H = some (rd, g)) :
    ∃ b rd', H id = some b ∧ (k b).run H = some (rd', g) := by
  unfold LM.run at h
  cases hb : H id with
  | none => simp [hb] at h
  | some b =>
    simp only [hb] at h
    cases hk : (k b).run H with
    | none => simp [hk] at h
    | some r =>
      simp only [hk, Option.some.injEq, Prod.mk.injEq] at h
      exact ⟨b, r.1, rfl, by rw [hk, ← h.2]⟩
theorem nN {α : Type 1} {b : Bool} {x y : LM α} {H : Nat → Option Blk} {r : List Nat × α} (h : (LM.case b x y).run H = some r) : (b = true ∧ x.run H = some r) ∨ (b = false ∧ y.run H = some r) := by
  cases b with
  | true => exact .inl ⟨rfl, h⟩
  | false => exact .inr ⟨rfl, h⟩
theorem oH {α : Type 1} {g0 : α} {H : Nat → Option Blk} {rd : List Nat} {g : α} (h : (LM.ret g0).run H = some (rd, g)) : g = g0 := by
  simp only [LM.run, Option.some.injEq, Prod.mk.injEq] at h
  exact h.2.symm
theorem j4 {α : Type 1} {H : Nat → Option Blk} {r : List Nat × α} (h : (LM.fail : LM α).run H = some r) : False := by simp [LM.run] at h
theorem LM.run_congr {α : Type 1} {H H' : Nat → Option Blk} (m : LM α) : ∀ {rd : List Nat} {g : α}, m.run H = some (rd, g) → (∀ id ∈ rd, H' id = H id) → m.run H' = some (rd, g) := by
  induction m with
  | fail => intro rd g h _; exact (j4 h).elim
  | ret a => intro rd g h _; exact h
  | look id k ih =>
    intro rd g h hr
    unfold LM.run at h ⊢
    cases hb : H id with
    | none => simp [hb] at h
    | some b =>
      simp only [hb] at h
      cases hk : (k b).run H with
      | none => simp [hk] at h
      | some r =>
        simp only [hk, Option.some.injEq, Prod.mk.injEq] at h
        obtain ⟨rfl, rfl⟩ := h
        have e := ih b hk (fun i hi => hr i (by simp [hi]))
        rw [hr id (by simp), hb]
        simp only [e]
  | case b x y ihx ihy =>
    intro rd g h hr
    cases b with
    | true => exact ihx h hr
    | false => exact ihy h hr
theorem ay {P : Program} {t : TypeId} {ti : TI} (h : ttOf P t = some ti) : ∃ i d z, P.info? t = some i ∧ P.underlying t = some d ∧ i.zero = some z ∧
    ti = ⟨i.size, eX d, i.bytes, kindOf d, z.cells.toList.map zcOf, ko P t d⟩ ∧ (∀ v ∈ z.cells.toList, v.oneCell' = true) ∧ z.cells.size = i.size := by
  unfold ttOf at h
  cases hi : P.info? t with
  | none => simp [hi] at h
  | some i =>
    cases hd : P.underlying t with
    | none => simp [hi, hd] at h
    | some d =>
      cases hz : i.zero with
      | none => simp [hi, hd, hz] at h
      | some z =>
        simp only [hi, hd, hz] at h
        split at h
        · rename_i hb
          simp only [Bool.and_eq_true, List.all_eq_true] at hb
          exact ⟨i, d, z, rfl, rfl, hz, (Option.some.inj h).symm, hb.1, Nat.eq_of_beq_eq_true hb.2⟩
        · cases h
theorem run_sizeOf {P : Program} {t : TypeId} {i : TypeInfo} (h : P.info? t = some i) (w : World) : (sizeOf t).run P w = .ok i.size w := by simp [sizeOf, typeInfo, h]
theorem aY {P : Program} {t : TypeId} {d : TypeDesc} (h : P.underlying t = some d) (w : World) : (isAgg t).run P w = .ok (eX d) w := by
  unfold isAgg
  rw [Sem.run_bind, run_underlying h w]
  cases d <;> simp [eX]
theorem d9 {d : TypeDesc} {e : TypeId} (h : kindOf d = .slice e) : d = .slice e := by
  cases d <;> simp [kindOf] at h
  rw [h]
theorem jT {d : TypeDesc} {k : IntKind} (h : kindOf d = .int k) : d = .int k := by
  cases d <;> simp [kindOf] at h
  rw [h]
theorem jU {d : TypeDesc} (h : kindOf d = .str) : d = .string := by
  cases d <;> simp [kindOf] at h
  rfl
theorem gy {d : TypeDesc} {fs : List (Nat × TypeId)} (h : kindOf d = .struct fs) : ∃ fields, d = .struct fields ∧ fs = fields.toList.map fun f => (f.offset, f.type) := by
  cases d <;> simp [kindOf] at h
  exact ⟨_, rfl, h.symm⟩
theorem bG {P : Program} {T e : TypeId} {ei : TI} (h : aO (ttOf P) T = some (e, ei)) : P.underlying T = some (.slice e) ∧ ttOf P e = some ei ∧ 0 < ei.size := by
  unfold aO at h
  cases ht : ttOf P T with
  | none => simp [ht] at h
  | some ti =>
    obtain ⟨i, d, z, h1, h2, h3, h4, _⟩ := ay ht
    simp only [ht] at h
    cases hk : ti.kind with
    | slice e' =>
      simp only [hk] at h
      cases he : ttOf P e' with
      | none => simp [he] at h
      | some ei' =>
        simp only [he] at h
        cases hb : Nat.blt 0 ei'.size with
        | false => simp [hb] at h
        | true =>
          simp only [hb, Option.some.injEq, Prod.mk.injEq] at h
          obtain ⟨rfl, rfl⟩ := h
          have : kindOf d = .slice e' := by rw [h4] at hk; exact hk
          rw [d9 this] at h2
          exact ⟨h2, he, Nat.le_of_ble_eq_true hb⟩
    | _ => simp [hk] at h
theorem dZ {P : Program} {S : TypeId} {i off : Nat} {fi : TI} (h : bg (ttOf P) S i = some (off, fi)) :
    ∃ fields f, P.underlying S = some (.struct fields) ∧ fields[i]? = some f ∧ f.offset = off ∧ ttOf P f.type = some fi ∧ 0 < fi.size := by
  unfold bg at h
  cases ht : ttOf P S with
  | none => simp [ht] at h
  | some ti =>
    obtain ⟨inf, d, z, h1, h2, h3, h4, _⟩ := ay ht
    simp only [ht] at h
    cases hk : ti.kind with
    | struct fs =>
      simp only [hk] at h
      have hkd : kindOf d = .struct fs := by rw [h4] at hk; exact hk
      obtain ⟨fields, rfl, rfl⟩ := gy hkd
      simp only [List.getElem?_map, Array.getElem?_toList] at h
      cases hf : fields[i]? with
      | none => simp [hf] at h
      | some f =>
        simp only [hf, Option.map_some] at h
        cases he : ttOf P f.type with
        | none => simp [he] at h
        | some fi' =>
          simp only [he] at h
          cases hb : Nat.blt 0 fi'.size with
          | false => simp [hb] at h
          | true =>
            simp only [hb, Option.some.injEq, Prod.mk.injEq] at h
            obtain ⟨rfl, rfl⟩ := h
            exact ⟨fields, f, h2, hf, rfl, he, Nat.le_of_ble_eq_true hb⟩
    | _ => simp [hk] at h
def ups (H : Nat → Option Blk) : List (Nat × Blk) → Nat → Option Blk
  | [] => H
  | p :: ps => ups (upd H p.1 (some p.2)) ps
def dX (P : Program) (F : Fr) (H : Nat → Option Blk) (σ : Nat → Value) (o : Oper) (a : Act) (w : World) (c : Nat) (e : Eff) : Prop :=
  ∀ (K : Act → World → Prop) (Q : Exit → Act → World → Prop),
    (∀ v w' σ', RelH F (ups H (e.upd ++ number c e.news)) σ' w' → VR w' (Mut F (ups H (e.upd ++ number c e.news)) σ') σ' (Ver (ups H (e.upd ++ number c e.news))) e.val v →
      Grow w (Mut F H σ) σ (Ver H) w' (Mut F (ups H (e.upd ++ number c e.news)) σ') σ' (Ver (ups H (e.upd ++ number c e.news))) → K (a.put o.dst v) w') → o.wp P a w K Q
section
variable {P : Program} {F : Fr} {H : Nat → Option Blk} {σ : Nat → Value} {o : Oper} {a : Act} {w : World} {c : Nat}
theorem dX.step {e : Eff} {H' : Nat → Option Blk} (v : Value) (w' : World) (σ' : Nat → Value) (hH : ups H (e.upd ++ number c e.news) = H') (hrun : (execOp a.eval o).run P w = .ok (.value v) w')
    (rel : RelH F H' σ' w' ∧ Grow w (Mut F H σ) σ (Ver H) w' (Mut F H' σ') σ' (Ver H')) (hv : VR w' (Mut F H' σ') σ' (Ver H') e.val v) : dX P F H σ o a w c e := by
  subst hH
  intro K Q hK
  unfold Oper.wp
  rw [hrun]
  exact hK v w' σ' rel.1 hv rel.2
theorem dX.skip {e : Eff} {H' : Nat → Option Blk} (w' : World) (σ' : Nat → Value) (hH : ups H (e.upd ++ number c e.news) = H') (hrun : (execOp a.eval o).run P w = .ok .skip w')
    (rel : RelH F H' σ' w' ∧ Grow w (Mut F H σ) σ (Ver H) w' (Mut F H' σ') σ' (Ver H')) (hv : e.val = .void) : dX P F H σ o a w c e := by
  subst hH
  intro K Q hK
  unfold Oper.wp
  rw [hrun]
  exact hK undef w' σ' rel.1 (by rw [hv]; exact .void) rel.2
theorem dX.quiet {x : AV} (rel : RelH F H σ w) (v : Value) (hrun : (execOp a.eval o).run P w = .ok (.value v) w) (hv : VR w (Mut F H σ) σ (Ver H) x v) : dX P F H σ o a w c ⟨x, [], []⟩ :=
  .step v w σ rfl hrun ⟨rel, .refl _ _ _ _⟩ hv
theorem bV {s : Sem Value} {v : Value} {w' : World} (ho : execOp a.eval o = (do pure (.value (← s)))) (h : s.run P w = .ok v w') : (execOp a.eval o).run P w = .ok (.value v) w' := by
  rw [ho]; simp [h]
theorem qb {s : Sem Unit} {w' : World} (ho : execOp a.eval o = (do s; pure .skip)) (h : s.run P w = .ok () w') : (execOp a.eval o).run P w = .ok .skip w' := by
  rw [ho]; simp [h]
theorem iw {t : TypeId} {ti : TI} (ht : ttOf P t = some ti) (g off : Nat) (us : Nat → Value) (hc : ∀ j, j < ti.size → w.cell? ⟨g, off + j, none⟩ = some (us j)) :
    (ti.agg = true → (Instr.loadAt t (.pointer (some ⟨g, off, none⟩))).run P w = .ok (.agg ((List.range ti.size).map us).toArray) w) ∧
    (ti.agg = false → ti.size = 1 → (Instr.loadAt t (.pointer (some ⟨g, off, none⟩))).run P w = .ok (us 0) w) := by
  obtain ⟨i, d, z, h1, h2, h3, h4, _⟩ := ay ht
  have hs : ti.size = i.size := by rw [h4]
  have hagg : ti.agg = eX d := by rw [h4]
  refine ⟨fun hg => ?_, fun hg h1' => ?_⟩
  · have hl := run_loadCells (P := P) w ⟨g, off, none⟩ i.size us (fun j hj => by rw [Addr.add_mid]; exact hc j (by omega))
    rw [hs]
    simp only [Instr.loadAt, Instr.sureAddr, Sem.run_bind, Sem.run_pure, Result.andThen_ok, loadVar, aY h2, ← hagg, hg, if_true, run_sizeOf h1, hl]
  · have h0 := hc 0 (by omega)
    rw [Nat.add_zero] at h0
    simp only [Instr.loadAt, Instr.sureAddr, Sem.run_bind, Sem.run_pure, Result.andThen_ok, loadVar, aY h2, ← hagg, hg, Bool.false_eq_true, if_false, run_load, h0]
theorem dN {t : TypeId} {ti : TI} (ht : ttOf P t = some ti) {cs : List AV} {off : Nat} {x : AV} (hx : apart ti cs off = some x) {M : Nat → Prop} {V : Nat → Option Nat} (g o : Nat) (us : Nat → Value)
    (hc : ∀ j, j < cs.length → w.cell? ⟨g, o + j, none⟩ = some (us j) ∧ VR w M σ V (cs.getD j .undef) (us j)) :
    ∃ v, (Instr.loadAt t (.pointer (some ⟨g, o + off, none⟩))).run P w = .ok v w ∧ VR w M σ V x v := by
  unfold apart at hx
  cases hb : Nat.ble (off + ti.size) cs.length with
  | false => simp [hb] at hx
  | true =>
    have hle : off + ti.size ≤ cs.length := Nat.le_of_ble_eq_true hb
    simp only [hb] at hx
    obtain ⟨l1, l2⟩ := iw (P := P) (w := w) ht g (o + off) (fun j => us (off + j)) (fun j hj => by rw [Nat.add_assoc]; exact (hc (off + j) (by omega)).1)
    cases hg : ti.agg with
    | true =>
      simp only [hg, Option.some.injEq] at hx
      subst hx
      refine ⟨_, l1 hg, .agg _ _ (by simp; omega) fun j hj => ?_⟩
      have hj' : j < ti.size := by simp at hj; omega
      have e1 : ((cs.drop off).take ti.size).getD j .undef = cs.getD (off + j) .undef := by
        simp [List.getD_eq_getElem?_getD, hj', List.getElem?_drop]
      have e2 : ((List.range ti.size).map fun j => us (off + j)).toArray.getD j Go.undef = us (off + j) := by simp [hj']
      rw [e1, e2]
      exact (hc (off + j) (by omega)).2
    | false =>
      simp only [hg] at hx
      cases h1 : Nat.beq ti.size 1 with
      | false => simp [h1] at hx
      | true =>
        simp only [h1, Option.some.injEq] at hx
        subst hx
        have hs : ti.size = 1 := Nat.eq_of_beq_eq_true h1
        exact ⟨_, l2 hg hs, (hc off (by omega)).2⟩
theorem BR.var_cells {M : Nat → Prop} {V : Nat → Option Nat} {id : Nat} {cells : List AV} (h : BR w M σ V id (.var cells)) : ∃ g T vs, σ id = .pointer (some ⟨g, 0, none⟩) ∧ w.heap[g]? = some (.cells vs T (0, 0)) ∧ vs.size = cells.length ∧
    ∀ j, j < cells.length → w.cell? ⟨g, j, none⟩ = some (vs.getD j Go.undef) ∧ VR w M σ V (cells.getD j .undef) (vs.getD j Go.undef) ∧ (vs.getD j Go.undef).oneCell' = true := by
  obtain ⟨g, vs, T, h1, h2, h3, h4⟩ := h
  refine ⟨g, T, vs, h1, h2, h3, fun j hj => ⟨?_, (h4 j hj).1, (h4 j hj).2⟩⟩
  have hjs : j < vs.size := by omega
  simp [World.cell?, h2, Array.getD, hjs]
theorem BR.row_cells {M : Nat → Prop} {V : Nat → Option Nat} {id ver sz n : Nat} {e : TypeId} {f : Nat → List AV} (h : BR w M σ V id (.row ver sz n e f)) :
    0 < sz ∧ (∀ k, k < n → (f k).length = sz) ∧ ∃ xs, w.ownsRow 0 e sz (σ id) n xs ∧ (∀ k j, k < n → j < sz → PR w M ((f k).getD j .undef) (xs.getD (k * sz + j) Go.undef) ∧ (xs.getD (k * sz + j) Go.undef).oneCell' = true) ∧
    (0 < n → ∃ g cap cur, σ id = .slice (some ⟨g, 0, none⟩) n cap ∧ n ≤ cap ∧ cap ≤ maxLen ∧ w.heap[g]? = some (.cells cur e (0, 0)) ∧ cur.size = cap * sz ∧ cur.toList.take (n * sz) = xs ∧
      ∀ k j, k < n → j < sz → w.cell? ⟨g, k * sz + j, none⟩ = some (xs.getD (k * sz + j) Go.undef)) := by
  obtain ⟨xs, h0, h1, h2, h3⟩ := h
  refine ⟨h0, h2, xs, h1, h3, fun hn => ?_⟩
  rcases h1.2 with ⟨_, h⟩ | ⟨g, cap, cur, e1, _, e3, e4, e5, e6, e7⟩
  · omega
  · refine ⟨g, cap, cur, e1, e4, e5, e3, e6, e7, fun k j hk hj => ?_⟩
    have hlt : k * sz + j < n * sz := by
      have h2 : (k + 1) * sz ≤ n * sz := Nat.mul_le_mul_right _ hk
      rw [Nat.add_mul, Nat.one_mul] at h2
      omega
    have hle : n * sz ≤ cap * sz := Nat.mul_le_mul_right _ e4
    have hcs : k * sz + j < cur.size := by omega
    rw [← e7]
    simp [World.cell?, e3, List.getD_eq_getElem?_getD, hlt, hcs]
theorem BR.lrow_cells {M : Nat → Prop} {V : Nat → Option Nat} {id ver sz n : Nat} {e : TypeId} {cells : List AV} (h : BR w M σ V id (.lrow ver sz n e cells)) :
    0 < sz ∧ 0 < n ∧ cells.length = n * sz ∧ ∃ g cap cur xs, w.ownsRow 0 e sz (σ id) n xs ∧ σ id = .slice (some ⟨g, 0, none⟩) n cap ∧ n ≤ cap ∧ cap ≤ maxLen ∧ w.heap[g]? = some (.cells cur e (0, 0)) ∧ cur.size = cap * sz ∧ cur.toList.take (n * sz) = xs ∧
      ∀ j, j < n * sz → w.cell? ⟨g, j, none⟩ = some (xs.getD j Go.undef) ∧ VR w M σ V (cells.getD j .undef) (xs.getD j Go.undef) ∧ (xs.getD j Go.undef).oneCell' = true := by
  obtain ⟨xs, h0, h0', h1, h2, h3⟩ := h
  rcases h1.2 with ⟨_, h⟩ | ⟨g, cap, cur, e1, _, e3, e4, e5, e6, e7⟩
  · omega
  · refine ⟨h0, h0', h2, g, cap, cur, xs, h1, e1, e4, e5, e3, e6, e7, fun j hj => ⟨?_, h3 j hj⟩⟩
    have hle : n * sz ≤ cap * sz := Nat.mul_le_mul_right _ e4
    have hcs : j < cur.size := by omega
    rw [← e7]
    simp [World.cell?, e3, List.getD_eq_getElem?_getD, hj, hcs]
theorem BR.row_slc {M M' : Nat → Prop} {V : Nat → Option Nat} {id ver sz n : Nat} {e : TypeId} {f : Nat → List AV} (h : BR w M σ V id (.row ver sz n e f)) (hM : ∀ g, M' g → M g) (hn : ∀ g, aA (σ id) = some g → ¬ M' g) :
    PR w M' (.slc sz n f) (σ id) := by
  obtain ⟨h0, h2, xs, h1, h3, h4⟩ := h.row_cells
  by_cases hz : n = 0
  · subst hz
    refine .slc0 sz f _ ?_
    rcases h1.2 with ⟨h, _⟩ | ⟨g, cap, cur, e1, _, _, _, e5, _⟩
    · exact .inl h
    · exact .inr ⟨_, cap, e1, e5⟩
  · obtain ⟨g, cap, cur, e1, e2, e3, e4, e5, e6, e7⟩ := h4 (by omega)
    rw [e1]
    refine .slc sz n f g 0 cap (fun k j => xs.getD (k * sz + j) Go.undef) (by omega) e2 e3 h2 (fun k j hk hj => ⟨hn g (by rw [e1]; rfl), by rw [Nat.zero_add]; exact e7 k j hk hj, (h3 k j hk hj).2⟩) (fun k j hk hj => ?_)
    exact (h3 k j hk hj).1.grow (fun _ _ _ => rfl) (fun g _ h => hM g h)
end
end Go.Proofs.YtimkpfnbkclclaaGreat.Ab
namespace Go.Proofs.YtimkpfnbkclclaaGreat.Ab
open Go
section
variable {w : World} {M : Nat → Prop} {σ : Nat → Value} {V : Nat → Option Nat} {v : Value}
theorem VR.int_inv {k : IntKind} {n : Int} (h : VR w M σ V (.int k n) v) : v = .int k n := by cases h with | pure h => cases h; rfl
theorem VR.bool_inv {b : Bool} (h : VR w M σ V (.bool b) v) : v = .bool b := by cases h with | pure h => cases h; rfl
theorem VR.str_inv {s : ByteArray} (h : VR w M σ V (.str s) v) : v = .string s := by cases h with | pure h => cases h; rfl
theorem VR.void_inv (h : VR w M σ V .void v) : v = Go.undef := by cases h with | void => rfl | pure h => cases h
theorem VR.agg_inv {cs : List AV} (h : VR w M σ V (.agg cs) v) : ∃ vs : Array Value, v = .agg vs ∧ vs.size = cs.length ∧ ∀ j, j < cs.length → VR w M σ V (cs.getD j .undef) (vs.getD j Go.undef) := by
  cases h with
  | pure h => cases h
  | agg cs vs hl h => exact ⟨vs, rfl, hl, h⟩
theorem VR.tup_inv {cs : List AV} (h : VR w M σ V (.tup cs) v) : ∃ vs : Array Value, v = .tuple vs ∧ vs.size = cs.length ∧ ∀ j, j < cs.length → VR w M σ V (cs.getD j .undef) (vs.getD j Go.undef) := by
  cases h with
  | pure h => cases h
  | tup cs vs hl h => exact ⟨vs, rfl, hl, h⟩
theorem VR.fn_inv {f : FuncId} {cs : List AV} (h : VR w M σ V (.fn f cs) v) : ∃ vs : Array Value, v = .func (.func f) #[] vs ∧ vs.size = cs.length ∧ ∀ j, j < cs.length → VR w M σ V (cs.getD j .undef) (vs.getD j Go.undef) := by
  cases h with
  | pure h => cases h
  | fn f cs vs hl h => exact ⟨vs, rfl, hl, h⟩
theorem VR.ptr_inv {id off : Nat} (h : VR w M σ V (.ptr id off) v) : ∃ g, σ id = .pointer (some ⟨g, 0, none⟩) ∧ v = .pointer (some ⟨g, off, none⟩) ∧ ∃ m, V id = some m := by
  cases h with
  | pure h => cases h
  | ptr id off g m hV h => exact ⟨g, h, rfl, m, hV⟩
theorem VR.own_inv {id ver : Nat} (h : VR w M σ V (.own id ver) v) (hV : V id = some ver) : v = σ id := by
  cases h with
  | pure h => cases h
  | own id ver m v h1 hV' hm h => rw [hV] at hV'; injection hV' with e; exact h e
theorem VR.rptr_inv {id ver sz k off : Nat} (h : VR w M σ V (.rptr id ver sz k off) v) (hV : V id = some ver) : ∃ g n cap, σ id = .slice (some ⟨g, 0, none⟩) n cap ∧ k < n ∧ v = .pointer (some ⟨g, k * sz + off, none⟩) := by
  cases h with
  | pure h => cases h
  | rptr id ver sz k off m g b hV' hm h =>
    rw [hV] at hV'; injection hV' with e
    obtain ⟨n, cap, e1, e2, e3⟩ := h e
    exact ⟨g, n, cap, e1, e2, by rw [e3]⟩
theorem VR.lptr_inv {id ver off : Nat} (h : VR w M σ V (.lptr id ver off) v) (hV : V id = some ver) : ∃ g n cap, σ id = .slice (some ⟨g, 0, none⟩) n cap ∧ v = .pointer (some ⟨g, off, none⟩) := by
  cases h with
  | pure h => cases h
  | lptr id ver off m g hV' hm h =>
    rw [hV] at hV'; injection hV' with e
    obtain ⟨n, cap, e1⟩ := h e
    exact ⟨g, n, cap, e1, rfl⟩
theorem VR.slc_inv {sz n : Nat} {f : Nat → List AV} (h : VR w M σ V (.slc sz n f) v) : PR w M (.slc sz n f) v := by
  cases h with
  | pure h => exact h
theorem VR.pptr_inv {cs : List AV} {off : Nat} (h : VR w M σ V (.pptr cs off) v) : ∃ (g o : Nat) (us : Nat → Value), v = .pointer (some ⟨g, o + off, none⟩) ∧ (∀ j, j < cs.length → ¬ M g ∧ w.cell? ⟨g, o + j, none⟩ = some (us j) ∧ (us j).oneCell' = true) ∧
    ∀ j, j < cs.length → PR w M (cs.getD j .undef) (us j) := by
  cases h with
  | pure h => cases h
  | pptr cs off g o us hg hp => exact ⟨g, o, us, rfl, hg, hp⟩
theorem PR.slc_len {sz n : Nat} {f : Nat → List AV} (h : PR w M (.slc sz n f) v) : ∃ a cap, v = .slice a n cap ∧ n ≤ cap ∧ cap ≤ maxLen := by
  cases h with
  | slc0 sz f v h =>
    rcases h with rfl | ⟨a, cap, rfl, hm⟩
    · exact ⟨none, 0, rfl, Nat.le_refl _, Nat.zero_le _⟩
    · exact ⟨some a, cap, rfl, Nat.zero_le _, hm⟩
  | slc sz n f g off cap us hn hc hm hl hg hp => exact ⟨_, cap, rfl, hc, hm⟩
theorem VR.one {x : AV} (h : VR w M σ V x v) (h1 : x.one = true) : v.oneCell' = true := by
  cases h with
  | pure h =>
    cases h with
    | undef v => simp [AV.one] at h1
    | raw v => simp [AV.one] at h1
    | slc0 sz f v h => rcases h with rfl | ⟨a, cap, rfl, _⟩ <;> rfl
    | any1 v h => exact h
    | _ => rfl
  | void => simp [AV.one] at h1
  | own id ver m v hone _ _ _ => exact hone
  | agg => simp [AV.one] at h1
  | tup => simp [AV.one] at h1
  | _ => rfl
end
theorem ak {H : Nat → Option Blk} {id : Nat} {b : Blk} (h : H id = some b) : Ver H id = some b.ver := by simp [Ver, h]
theorem lu {w : World} {M : Nat → Prop} {σ : Nat → Value} {V : Nat → Option Nat} (v : Value) : VR w M σ V (iH v) v := by
  refine .pure ?_
  unfold iH
  split
  · exact .bool _
  · exact .int _ _
  · exact .str _
  · exact .nilp
  · exact .slc0 _ _ _ (.inl rfl)
  · exact .raw _
def Good (P : Program) (F : Fr) (H : Nat → Option Blk) (σ : Nat → Value) (o : Oper) (a : Act) (w : World) (c : Nat) (m : LM EffG) : Prop :=
  ∀ rd g x, m.run H = some (rd, g) → g.req = true → g.get = some x → (g.eff x).news.length ≤ 64 → dX P F H σ o a w c (g.eff x)
section
variable {P : Program} {F : Fr} {H : Nat → Option Blk} {σ : Nat → Value} {o : Oper} {a : Act} {w : World} {c : Nat}
theorem Good.fail : Good P F H σ o a w c .fail := fun _ _ _ h _ _ _ => (j4 h).elim
theorem Good.look {id : Nat} {k : Blk → LM EffG} (h : ∀ b, H id = some b → Good P F H σ o a w c (k b)) : Good P F H σ o a w c (.look id k) := by
  intro rd g x hr hq hg hl
  obtain ⟨b, rd', hb, hk⟩ := nO hr
  exact h b hb rd' g x hk hq hg hl
theorem Good.case {b : Bool} {x y : LM EffG} (hx : b = true → Good P F H σ o a w c x) (hy : b = false → Good P F H σ o a w c y) : Good P F H σ o a w c (.case b x y) := by
  intro rd g z hr hq hg hl
  rcases nN hr with ⟨h1, h2⟩ | ⟨h1, h2⟩
  · exact hx h1 rd g z h2 hq hg hl
  · exact hy h1 rd g z h2 hq hg hl
theorem Good.ret64 {e : EffG} (h : ∀ x, e.req = true → e.get = some x → (e.eff x).news.length ≤ 64 → dX P F H σ o a w c (e.eff x)) : Good P F H σ o a w c (.ret e) := by
  intro rd g x hr hq hg hl
  obtain rfl := oH hr
  exact h x hq hg hl
theorem Good.ret {e : EffG} (h : ∀ x, e.req = true → e.get = some x → dX P F H σ o a w c (e.eff x)) : Good P F H σ o a w c (.ret e) := .ret64 fun x hq hg _ => h x hq hg
theorem Good.val {x : AV} (rel : RelH F H σ w) (v : Value) (hrun : (execOp a.eval o).run P w = .ok (.value v) w) (hv : VR w (Mut F H σ) σ (Ver H) x v) : Good P F H σ o a w c (.ret (.val x)) :=
  .ret fun _ _ _ => .quiet rel v hrun hv
theorem Good.when {b : Bool} {x : AV} (rel : RelH F H σ w) (h : b = true → ∃ v, (execOp a.eval o).run P w = .ok (.value v) w ∧ VR w (Mut F H σ) σ (Ver H) x v) : Good P F H σ o a w c (.ret (.when b x)) :=
  .ret fun _ hb _ => by
    obtain ⟨v, h1, h2⟩ := h hb
    exact .quiet rel v h1 h2
theorem nu {T : TypeId} {x : Operand} {ti : TI} (ho : o.op = .load T x) (ht : ttOf P T = some ti) (rel : RelH F H σ w) {y : AV} (hx : VR w (Mut F H σ) σ (Ver H) y (a.eval x)) :
    Good P F H σ o a w c (nW ti y) := by
  have hrun : ∀ v, (Instr.loadAt T (a.eval x)).run P w = .ok v w → (execOp a.eval o).run P w = .ok (.value v) w := fun v h => bV (by simp [execOp, ho]) h
  cases y with
  | ptr id off =>
    refine .look fun b hb => ?_
    cases b with
    | var cells =>
      obtain ⟨g, hg, he, _⟩ := hx.ptr_inv
      obtain ⟨g', T', vs, h1, h2, h3, h4⟩ := (rel.bl id _ hb).var_cells
      rw [hg] at h1
      injection h1 with h1; injection h1 with h1; injection h1 with h1
      subst h1
      cases hp : apart ti cells off with
      | none => simp only [hp]; exact .fail
      | some v =>
        simp only [hp]
        obtain ⟨u, e1, e2⟩ := dN (P := P) ht hp g 0 (fun j => vs.getD j Go.undef) (fun j hj => ⟨by rw [Nat.zero_add]; exact (h4 j hj).1, (h4 j hj).2.1⟩)
        exact .val rel u (hrun u (by rw [he]; rw [Nat.zero_add] at e1; exact e1)) e2
    | _ => exact .fail
  | rptr id ver sz k off =>
    refine .look fun b hb => ?_
    cases b with
    | row ver' sz' n e f =>
      cases hv : Nat.beq ver ver' && Nat.beq sz sz' with
      | false => simp only [hv]; exact .fail
      | true =>
        simp only [Bool.and_eq_true] at hv
        obtain rfl := Nat.eq_of_beq_eq_true hv.1
        obtain rfl := Nat.eq_of_beq_eq_true hv.2
        obtain ⟨g, n', cap, hg, hk, he⟩ := hx.rptr_inv (ak hb)
        obtain ⟨h0, h2, xs, h1, h3, h4⟩ := (rel.bl id _ hb).row_cells
        have hn : n' = n := by
          rcases h1.2 with ⟨h, _⟩ | ⟨g1, cap1, cur1, e1, _⟩
          · rw [hg] at h; cases h
          · rw [hg] at e1; injection e1
        subst hn
        obtain ⟨g1, cap1, cur1, e1, e2, e3, e4, e5, e6, e7⟩ := h4 (by omega)
        rw [hg] at e1
        injection e1 with e1; injection e1 with e1; injection e1 with e1
        subst e1
        simp only [hv.1, hv.2, Bool.and_self]
        cases hb2 : Nat.ble (off + ti.size) sz with
        | false => exact .fail
        | true =>
          have hle : off + ti.size ≤ sz := Nat.le_of_ble_eq_true hb2
          obtain ⟨l1, l2⟩ := iw (P := P) (w := w) ht g (k * sz + off) (fun j => xs.getD (k * sz + (off + j)) Go.undef) (fun j hj => by rw [Nat.add_assoc]; exact e7 k (off + j) hk (by omega))
          cases hg2 : ti.agg with
          | true =>
            dsimp only
            refine .val rel _ (hrun _ (by rw [he]; exact l1 hg2)) (.agg _ _ (by simp [h2 k hk]; omega) fun j hj => ?_)
            have hj' : j < ti.size := by simp at hj; omega
            have e1 : (((f k).drop off).take ti.size).getD j .undef = (f k).getD (off + j) .undef := by
              simp [List.getD_eq_getElem?_getD, hj', List.getElem?_drop]
            have e2 : ((List.range ti.size).map fun j => xs.getD (k * sz + (off + j)) Go.undef).toArray.getD j Go.undef = xs.getD (k * sz + (off + j)) Go.undef := by simp [hj']
            rw [e1, e2]
            exact .pure (h3 k (off + j) hk (by omega)).1
          | false =>
            cases h1' : Nat.beq ti.size 1 with
            | false => exact .fail
            | true =>
              have hs : ti.size = 1 := Nat.eq_of_beq_eq_true h1'
              exact .val rel _ (hrun _ (by rw [he]; exact l2 hg2 hs)) (.pure (h3 k off hk (by omega)).1)
    | _ => exact .fail
  | pptr cs off =>
    unfold nW
    obtain ⟨g, o', us, he, hg, hp⟩ := hx.pptr_inv
    cases hp2 : apart ti cs off with
    | none => simp only [hp2]; exact .fail
    | some v =>
      simp only [hp2]
      obtain ⟨u, e1, e2⟩ := dN (P := P) (V := Ver H) (σ := σ) ht hp2 g o' us (fun j hj => ⟨(hg j hj).2.1, .pure (hp j hj)⟩)
      exact .val rel u (hrun u (by rw [he]; exact e1)) e2
  | lptr id ver off =>
    refine .look fun b hb => ?_
    cases b with
    | lrow ver' sz n e cells =>
      cases hv : Nat.beq ver ver' with
      | false => simp only [hv]; exact .fail
      | true =>
        obtain rfl := Nat.eq_of_beq_eq_true hv
        simp only [hv]
        obtain ⟨g, n', cap, hg, he⟩ := hx.lptr_inv (ak hb)
        obtain ⟨h0, h0', hl, g1, cap1, cur, xs, k1, k2, k3, k4, k5, k6, k7, k8⟩ := (rel.bl id _ hb).lrow_cells
        rw [hg] at k2
        injection k2 with k2; injection k2 with k2; injection k2 with k2
        subst k2
        cases hp : apart ti cells off with
        | none => exact .fail
        | some v =>
          dsimp only
          obtain ⟨u, e1, e2⟩ := dN (P := P) ht hp g 0 (fun j => xs.getD j Go.undef) (fun j hj => ⟨by rw [Nat.zero_add]; exact (k8 j (by omega)).1, (k8 j (by omega)).2.1⟩)
          exact .val rel u (hrun u (by rw [he]; rw [Nat.zero_add] at e1; exact e1)) e2
    | _ => exact .fail
  | _ => exact .fail
theorem kV {M : Nat → Prop} {V : Nat → Option Nat} {t : Bool} {x y : AV} {u v : Value} (hx : VR w M σ V x u) (hy : VR w M σ V y v) : VR w M σ V (kS t x y) (if t then u else v) := by
  rw [jO]
  cases t
  · exact hy
  · exact hx
theorem iP {T : TypeId} {x i : Operand} {e : TypeId} {ei : TI} (ho : o.op = .indexAddr T x i) (ht : aO (ttOf P) T = some (e, ei)) (rel : RelH F H σ w) {y : AV} {k : IntKind} {j : Int}
    (hx : VR w (Mut F H σ) σ (Ver H) y (a.eval x)) (hi : a.eval i = .int k j) :
    (∀ sz n f, y = .slc sz n f → sz = ei.size → Good P F H σ o a w c (.ret (.when (decide (0 ≤ j ∧ j < n)) (.pptr (f j.toNat) 0)))) ∧
    (∀ id ver sz n f, y = .own id ver → H id = some (.row ver sz n e f) → sz = ei.size → Good P F H σ o a w c (.ret (.when (decide (0 ≤ j ∧ j < n)) (.rptr id ver sz j.toNat 0)))) ∧
    (∀ id ver sz n e' f, y = .own id ver → H id = some (.row ver sz n e' f) → sz = ei.size → Good P F H σ o a w c (.ret (.when (decide (0 ≤ j ∧ j < n)) (.rptr id ver sz j.toNat 0)))) ∧
    (∀ id ver sz n e' cells, y = .own id ver → H id = some (.lrow ver sz n e' cells) → sz = ei.size → Good P F H σ o a w c (idxL id ver sz j n 0)) := by
  obtain ⟨hu, he, hsz⟩ := bG ht
  obtain ⟨inf, d, z, h1, h2, h3, h4, _⟩ := ay he
  have hs : ei.size = inf.size := by rw [h4]
  have hrun : ∀ g off n cap, a.eval x = .slice (some ⟨g, off, none⟩) n cap → 0 ≤ j ∧ j < n → (execOp a.eval o).run P w = .ok (.value (.pointer (some ⟨g, off + j.toNat * ei.size, none⟩))) w := by
    intro g off n cap hv hj
    refine bV (s := Instr.indexAt T (a.eval x) (a.eval i)) (by simp [execOp, ho]) ?_
    rw [hv, hi]
    simp [Instr.indexAt, asIntOf, run_underlying hu, hj, run_sizeOf h1, ← hs, Addr.add_mid]
  have rowcase : ∀ id ver sz n e' f, y = .own id ver → H id = some (.row ver sz n e' f) → sz = ei.size → Good P F H σ o a w c (.ret (.when (decide (0 ≤ j ∧ j < n)) (.rptr id ver sz j.toNat 0))) := by
    intro id ver sz n e' f hy hb hse
    subst hy
    have hv := hx.own_inv (ak hb)
    obtain ⟨g0, g2, xs, g1, g3, g4⟩ := (rel.bl id _ hb).row_cells
    refine .when rel fun hj => ?_
    have hj := of_decide_eq_true hj
    obtain ⟨g, cap, cur, e1, e2, e3, e4, e5, e6, e7⟩ := g4 (by omega)
    refine ⟨_, hrun g 0 n cap (by rw [hv, e1]) hj, ?_⟩
    have := VR.rptr (w := w) (M := Mut F H σ) (σ := σ) (V := Ver H) id ver sz j.toNat 0 ver g (0 + j.toNat * ei.size) (ak hb) (Nat.le_refl _) fun _ => ⟨n, cap, e1, by omega, by rw [hse, Nat.zero_add]⟩
    rw [Nat.add_zero] at this
    exact this
  have lcase : ∀ id ver sz n e' cells, y = .own id ver → H id = some (.lrow ver sz n e' cells) → sz = ei.size → Good P F H σ o a w c (idxL id ver sz j n 0) := by
    intro id ver sz n e' cells hy hb hse
    subst hy
    have hv := hx.own_inv (ak hb)
    obtain ⟨g0, g0', gl, g, cap, cur, xs, k1, k2, k3, k4, k5, k6, k7, k8⟩ := (rel.bl id _ hb).lrow_cells
    have go : ∀ m k, m + k = n → Good P F H σ o a w c (idxL id ver sz j m k) := by
      intro m
      induction m with
      | zero => intro k _; exact .fail
      | succ m ih =>
        intro k hk
        unfold idxL
        refine .case (fun hd => ?_) fun _ => ih (k + 1) (by omega)
        · have hd := of_decide_eq_true hd
          have hjk : j.toNat = k := by omega
          refine .val rel _ (hrun g 0 n cap (by rw [hv, k2]) (by omega)) ?_
          rw [hjk, Nat.zero_add, ← hse]
          exact .lptr id ver (k * sz) ver g (ak hb) (Nat.le_refl _) fun _ => ⟨n, cap, k2⟩
    exact go n 0 rfl
  refine ⟨fun sz n f hy hse => ?_, fun id ver sz n f hy hb hse => rowcase id ver sz n e f hy hb hse, rowcase, lcase⟩
  subst hy
  refine .when rel fun hj => ?_
  have hj := of_decide_eq_true hj
  have hp := hx.slc_inv
  generalize hv : a.eval x = v at hp
  cases hp with
  | slc0 sz f v h => omega
  | slc sz n f g off cap us hn hc hm hl hg hp =>
    have hk : j.toNat < n := by omega
    refine ⟨_, hrun g off n cap hv hj, ?_⟩
    have := VR.pptr (w := w) (M := Mut F H σ) (σ := σ) (V := Ver H) (f j.toNat) 0 g (off + j.toNat * sz) (fun i => us j.toNat i)
      (fun i hi => by rw [hl _ hk] at hi; rw [Nat.add_assoc]; exact hg _ i hk hi) (fun i hi => by rw [hl _ hk] at hi; exact hp _ i hk hi)
    rw [hse, Nat.add_zero] at this
    exact this
end
end Go.Proofs.YtimkpfnbkclclaaGreat.Ab
namespace Go.Proofs.YtimkpfnbkclclaaGreat.Ab
open Go
section
variable {P : Program} {F : Fr} {H : Nat → Option Blk} {σ : Nat → Value} {o : Oper} {a : Act} {w : World} {c : Nat}
theorem ok_int {op : BinOp} {T Ty : TypeId} {x y : Operand} (ho : o.op = .binOp op T x y Ty) (rel : RelH F H σ w) {k k' : IntKind} {m n : Int} (hx : a.eval x = .int k m) (hy : a.eval y = .int k' n) (tt : TypeId → Option TI) :
    Good P F H σ o a w c (abin tt op T (.int k m) (.int k' n)) := by
  unfold abin
  dsimp only
  split
  · rename_i hk; subst hk
    have hrun : ∀ v, (binOp op T (.int k m) (.int k n)).run P w = .ok v w → (execOp a.eval o).run P w = .ok (.value v) w := by
      intro v h
      refine bV (s := do eqGuard op T x y (a.eval x) (a.eval y); binOp op T (a.eval x) (a.eval y)) (by simp [execOp, ho]) ?_
      rw [hx, hy]
      have hq : (eqGuard op T x y (.int k m) (.int k n)).run P w = .ok () w := by
        unfold eqGuard
        cases op <;> rfl
      simp only [Sem.run_bind, hq, Result.andThen_ok, h]
    cases op with
    | quo =>
      refine .when rel fun hb => ?_
      have hn : n ≠ 0 := by simpa using hb
      exact ⟨.int k (k.wrap (m.tdiv n)), hrun _ (by simp [binOp, Op.intDiv, hn]), .pure (.int _ _)⟩
    | rem =>
      refine .when rel fun hb => ?_
      have hn : n ≠ 0 := by simpa using hb
      exact ⟨.int k (m.tmod n), hrun _ (by simp [binOp, Op.intDiv, hn]), .pure (.int _ _)⟩
    | shr =>
      refine .when rel fun hb => ?_
      have hb := of_decide_eq_true hb
      have hk : n ≤ k.bits := by cases k <;> simp [IntKind.bits] <;> omega
      exact ⟨.int k (m / 2 ^ n.toNat), hrun _ (by rw [binOp_shr, shift_shr k k m n hb.1 hk]; rfl), .pure (.int _ _)⟩
    | add => exact .val rel (.int k (k.wrap (m + n))) (hrun _ (by simp [binOp, Op.intArith])) (.pure (.int _ _))
    | sub => exact .val rel (.int k (k.wrap (m - n))) (hrun _ (by simp [binOp, Op.intArith])) (.pure (.int _ _))
    | mul => exact .val rel (.int k (k.wrap (m * n))) (hrun _ (by simp [binOp, Op.intArith])) (.pure (.int _ _))
    | eql => exact .val rel (.bool (m == n)) (hrun _ (by simp [binOp, Op.intCmp])) (.pure (.bool _))
    | neq => exact .val rel (.bool (m != n)) (hrun _ (by simp [binOp, Op.intCmp])) (.pure (.bool _))
    | lss => exact .val rel (.bool (decide (m < n))) (hrun _ (by simp [binOp, Op.intCmp])) (.pure (.bool _))
    | leq => exact .val rel (.bool (decide (m ≤ n))) (hrun _ (by simp [binOp, Op.intCmp])) (.pure (.bool _))
    | gtr => exact .val rel (.bool (decide (m > n))) (hrun _ (by simp [binOp, Op.intCmp])) (.pure (.bool _))
    | geq => exact .val rel (.bool (decide (m ≥ n))) (hrun _ (by simp [binOp, Op.intCmp])) (.pure (.bool _))
    | _ => exact .fail
  · exact .fail
theorem p9 {op : UnOp} {T : TypeId} {x : Operand} (ho : o.op = .unOp op T x) (rel : RelH F H σ w) {y : AV} (hx : VR w (Mut F H σ) σ (Ver H) y (a.eval x)) : Good P F H σ o a w c (aun op y) := by
  have hrun : ∀ v, (Op.unary op (a.eval x)).run P w = .ok v w → (execOp a.eval o).run P w = .ok (.value v) w := fun v h => bV (by simp [execOp, ho]) h
  unfold aun
  split
  · rename_i k n
    rw [hx.int_inv] at hrun
    exact .val rel (.int k (k.wrap (0 - n))) (hrun _ (by simp [Op.unary, Op.intArith])) (.pure (.int _ _))
  · rename_i b
    rw [hx.bool_inv] at hrun
    exact .val rel (.bool !b) (hrun _ (by simp [Op.unary])) (.pure (.bool _))
  · exact .fail
theorem nC {S : TypeId} {x : Operand} {i off : Nat} {fi : TI} (ho : o.op = .fieldAddr S x i) (ht : bg (ttOf P) S i = some (off, fi)) (rel : RelH F H σ w) {y : AV} (hx : VR w (Mut F H σ) σ (Ver H) y (a.eval x)) :
    Good P F H σ o a w c (kM y off) := by
  obtain ⟨fields, f, hu, hf, hoff, hfi, hsz⟩ := dZ ht
  obtain ⟨inf, d, z, h1, h2, h3, h4, _⟩ := ay hfi
  have hs : inf.size ≠ 0 := by
    have : fi.size = inf.size := by rw [h4]
    omega
  have hrun : ∀ g o', a.eval x = .pointer (some ⟨g, o', none⟩) → (execOp a.eval o).run P w = .ok (.value (.pointer (some ⟨g, o' + off, none⟩))) w := by
    intro g o' hv
    refine bV (s := Instr.fieldAt S (a.eval x) i) (by simp [execOp, ho]) ?_
    rw [hv]
    simp [Instr.fieldAt, run_underlying hu, hf, Instr.sureAddr, fieldPlace, run_sizeOf h1, hs, hoff, Addr.add_mid]
  unfold kM
  split
  · obtain ⟨g, h1, h2, m, hm⟩ := hx.ptr_inv
    exact .val rel _ (hrun g _ h2) (.ptr _ _ g m hm h1)
  · refine .ret fun _ _ _ => ?_
    generalize hv : a.eval x = v at hx
    cases hx with
    | pure h => cases h
    | rptr id ver sz k off' m g b hV hm h =>
      refine .quiet rel _ (hrun g _ hv) ?_
      rw [Nat.add_assoc]
      exact .rptr _ _ _ _ _ m g b hV hm h
  · obtain ⟨g, o', us, he, hg, hp⟩ := hx.pptr_inv
    refine .val rel _ (hrun g _ he) ?_
    rw [Nat.add_assoc]
    exact .pptr _ _ g o' us hg hp
  · refine .ret fun _ _ _ => ?_
    generalize hv : a.eval x = v at hx
    cases hx with
    | pure h => cases h
    | lptr id ver off' m g hV hm h => exact .quiet rel _ (hrun g _ hv) (.lptr _ _ _ m g hV hm h)
  · exact .fail
theorem l6 {S : TypeId} {x : Operand} {i off : Nat} {fi : TI} {cs : List AV} {v : AV} (ho : o.op = .field S x i) (ht : bg (ttOf P) S i = some (off, fi)) (hp : apart fi cs off = some v) (rel : RelH F H σ w) (hx : VR w (Mut F H σ) σ (Ver H) (.agg cs) (a.eval x)) :
    Good P F H σ o a w c (.ret (.val v)) := by
  obtain ⟨fields, f, hu, hf, hoff, hfi, hsz⟩ := dZ ht
  obtain ⟨inf, d, z, h1, h2, h3, h4, _⟩ := ay hfi
  have hs : fi.size = inf.size := by rw [h4]
  have hagg : fi.agg = eX d := by rw [h4]
  obtain ⟨vs, hv, hl, hc⟩ := hx.agg_inv
  unfold apart at hp
  cases hb : Nat.ble (off + fi.size) cs.length with
  | false => simp [hb] at hp
  | true =>
    have hle : off + fi.size ≤ cs.length := Nat.le_of_ble_eq_true hb
    simp only [hb] at hp
    have hrun : ∀ u, (part f.type vs off).run P w = .ok u w → (execOp a.eval o).run P w = .ok (.value u) w := by
      intro u h
      refine bV (s := Instr.field S (a.eval x) i) (by simp [execOp, ho]) ?_
      rw [hv]
      simp [Instr.field, run_underlying hu, hf, asAgg, hoff, h]
    cases hg : fi.agg with
    | true =>
      simp only [hg, Option.some.injEq] at hp
      subst hp
      refine .val rel (.agg (vs.extract off (off + fi.size))) (hrun _ ?_) (.agg _ _ (by simp; omega) fun j hj => ?_)
      · simp only [part, Sem.run_bind, aY h2, ← hagg, hg, Result.andThen_ok, if_true, run_sizeOf h1, Sem.run_pure, hs]
      · have hj' : j < fi.size := by simp at hj; omega
        have e1 : ((cs.drop off).take fi.size).getD j .undef = cs.getD (off + j) .undef := by
          simp [List.getD_eq_getElem?_getD, hj', List.getElem?_drop]
        have e2 : (vs.extract off (off + fi.size)).getD j Go.undef = vs.getD (off + j) Go.undef := by
          have : off + j < vs.size := by omega
          have h3 : j < min (off + fi.size) vs.size - off := by omega
          simp [Array.getD, this, h3]
        rw [e1, e2]
        exact hc _ (by omega)
    | false =>
      simp only [hg] at hp
      cases h1' : Nat.beq fi.size 1 with
      | false => simp [h1'] at hp
      | true =>
        simp only [h1', Option.some.injEq] at hp
        subst hp
        have hs1 : fi.size = 1 := Nat.eq_of_beq_eq_true h1'
        have hlt : off < vs.size := by omega
        refine .val rel (vs.getD off Go.undef) (hrun _ ?_) (hc off (by omega))
        have e : vs[off]? = some (vs.getD off Go.undef) := by simp [Array.getD, hlt]
        simp only [part, Sem.run_bind, aY h2, ← hagg, hg, Result.andThen_ok, Bool.false_eq_true, if_false, e, Sem.run_pure]
theorem jm (least : Bool) (rel : RelH F H σ w) :
    ∀ (xs : List AV) (vs : List Value) (x : AV) (v : Value), VR w (Mut F H σ) σ (Ver H) x v → xs.length = vs.length → (∀ j, j < xs.length → VR w (Mut F H σ) σ (Ver H) (xs.getD j .undef) (vs.getD j Go.undef)) →
    (∀ u, (vs.foldlM (if least then Builtin.min2 else Builtin.max2) v).run P w = .ok u w → (execOp a.eval o).run P w = .ok (.value u) w) →
    Good P F H σ o a w c (fT least x xs) := by
  intro xs
  induction xs with
  | nil =>
    intro vs x v hx hl _ hrun
    obtain rfl : vs = [] := List.eq_nil_of_length_eq_zero (by simpa using hl.symm)
    cases x <;> exact .val rel v (hrun v (by simp)) hx
  | cons y ys ih =>
    intro vs x v hx hl hvs hrun
    obtain ⟨u, us, rfl⟩ : ∃ u us, vs = u :: us := by cases vs with
      | nil => simp at hl
      | cons u us => exact ⟨u, us, rfl⟩
    have hy := hvs 0 (by simp)
    simp only [List.getD_cons_zero] at hy
    cases x with
    | int k m =>
      cases y with
      | int k' n =>
        unfold fT
        split
        · rename_i hk; subst hk
          obtain rfl := hx.int_inv
          obtain rfl := hy.int_inv
          cases least with
          | true =>
            refine ih us _ (.int k (if n < m then n else m)) (.pure (.int _ _)) (by simpa using hl) (fun j hj => by simpa using hvs (j + 1) (by simpa using hj)) fun u h => hrun u ?_
            simp only [List.foldlM_cons, Sem.run_bind, if_true, Builtin.min2, Sem.run_pure, Result.andThen_ok] at h ⊢
            exact h
          | false =>
            refine ih us _ (.int k (if m < n then n else m)) (.pure (.int _ _)) (by simpa using hl) (fun j hj => by simpa using hvs (j + 1) (by simpa using hj)) fun u h => hrun u ?_
            simp only [List.foldlM_cons, Sem.run_bind, Bool.false_eq_true, if_false, Builtin.max2, Sem.run_pure, Result.andThen_ok] at h ⊢
            exact h
        · exact .fail
      | _ => exact .fail
    | _ => cases y <;> exact .fail
end
end Go.Proofs.YtimkpfnbkclclaaGreat.Ab
namespace Go.Proofs.YtimkpfnbkclclaaGreat.Ab
open Go
section
variable {P : Program} {w : World} {M : Nat → Prop} {σ : Nat → Value} {V : Nat → Option Nat}
def j5 (d : Nat) (us vs : Array Value) (f : Field) (_ : Option Bool × Unit) : Sem (ForInStep (Option Bool × Unit)) :=
  if f.name ≠ "_" then do
    let x ← part f.type us f.offset
    let y ← part f.type vs f.offset
    let q ← Op.equalIn d f.type x y
    if (!q) = true then pure (ForInStep.done (some false, ())) else pure (ForInStep.yield (none, ()))
  else pure (ForInStep.yield (none, ()))
theorem dH : ∀ {ts : List Bool} {xs ys : List AV} {r : Bool}, au ts xs ys = some r → xs.length = ts.length ∧ ys.length = ts.length := by
  intro ts
  induction ts with
  | nil => intro xs ys r h; cases xs <;> cases ys <;> simp [au] at h ⊢
  | cons t ts ih =>
    intro xs ys r h
    cases xs with
    | nil => cases t <;> cases ys <;> simp [au] at h
    | cons x xs =>
      cases ys with
      | nil => cases t <;> cases x <;> simp [au] at h
      | cons y ys =>
        have : ∃ r', au ts xs ys = some r' := by
          cases t <;> cases x <;> cases y <;> simp only [au] at h <;> (try cases h) <;> (try (split at h)) <;> (try cases h) <;>
            (obtain ⟨r', h1, _⟩ := Option.map_eq_some_iff.1 h; exact ⟨r', h1⟩)
        obtain ⟨r', h1⟩ := this
        have := ih h1
        simp; omega
theorem gV : ∀ {t1 t2 : List Bool} {xs ys : List AV} {r : Bool}, au (t1 ++ t2) xs ys = some r →
    ∃ r1 r2, au t1 (xs.take t1.length) (ys.take t1.length) = some r1 ∧ au t2 (xs.drop t1.length) (ys.drop t1.length) = some r2 ∧ r = (r1 && r2) := by
  intro t1
  induction t1 with
  | nil => intro t2 xs ys r h; exact ⟨true, r, by simp [au], by simpa using h, by simp⟩
  | cons t t1 ih =>
    intro t2 xs ys r h
    cases xs with
    | nil => cases t <;> cases ys <;> simp [au] at h
    | cons x xs =>
      cases ys with
      | nil => cases t <;> cases x <;> simp [au] at h
      | cons y ys =>
        cases t <;> cases x <;> cases y <;> simp only [List.cons_append, au] at h <;> (try cases h) <;> (try (split at h)) <;> (try cases h) <;>
          (obtain ⟨r', h1, rfl⟩ := Option.map_eq_some_iff.1 h
           obtain ⟨r1, r2, e1, e2, rfl⟩ := ih h1
           refine ⟨_, r2, ?_, by simpa using e2, by rw [Bool.and_assoc]⟩
           simp_all [au])
theorem dV {t : TypeId} {d : TypeDesc} (hk : P.underlying t = some d) (ha : eX d = false) {us : Array Value} {off : Nat} (h : off < us.size) : (part t us off).run P w = .ok (us.getD off Go.undef) w := by
  have hu : ∃ u, us[off]? = some u ∧ us.getD off Go.undef = u := ⟨us[off], Array.getElem?_eq_getElem h, by simp [Array.getD, h]⟩
  obtain ⟨u, h1, h2⟩ := hu
  rw [h2]
  simp [part, aY hk, ha, h1]
def oO (P : Program) (w : World) (M : Nat → Prop) (σ : Nat → Value) (V : Nat → Option Nat) (n : Nat) : Prop := ∀ (t : TypeId) (ts : List Bool), eqcT P n t = some ts → ∀ (d off : Nat) (us vs : Array Value) (xs ys : List AV) (r : Bool), au ts xs ys = some r →
    off + ts.length ≤ us.size → off + ts.length ≤ vs.size → (∀ j, j < xs.length → VR w M σ V (xs.getD j .undef) (us.getD (off + j) Go.undef)) → (∀ j, j < ys.length → VR w M σ V (ys.getD j .undef) (vs.getD (off + j) Go.undef)) →
    ∃ u v, (part t us off).run P w = .ok u w ∧ (part t vs off).run P w = .ok v w ∧ (Op.equalIn (d + n) t u v).run P w = .ok r w
theorem jf {n : Nat} (IH : oO P w M σ V n) (d : Nat) (us vs : Array Value) : ∀ (fl : List Field) (i : Nat) (ts : List Bool) (xs ys : List AV) (r : Bool), aH (eqcT P n) fl i = some ts → au ts xs ys = some r →
    i + xs.length ≤ us.size → i + ys.length ≤ vs.size → (∀ j, j < xs.length → VR w M σ V (xs.getD j .undef) (us.getD (i + j) Go.undef)) → (∀ j, j < ys.length → VR w M σ V (ys.getD j .undef) (vs.getD (i + j) Go.undef)) →
    (forIn fl ((none : Option Bool), ()) (j5 (d + n) us vs)).run P w = .ok (if r then (none, ()) else (some false, ())) w := by
  intro fl
  induction fl with
  | nil =>
    intro i ts xs ys r hf he _ _ _ _
    simp only [aH, Option.some.injEq] at hf
    subst hf
    cases xs with
    | nil => cases ys with
      | nil =>
        simp only [au, Option.some.injEq] at he
        subst he
        simp
      | cons => simp [au] at he
    | cons => simp [au] at he
  | cons f fl ih =>
    intro i ts xs ys r hf he h1 h2 h3 h4
    unfold aH at hf
    cases hn : f.name != "_" && Nat.beq f.offset i with
    | false => simp [hn] at hf
    | true =>
      cases hs : eqcT P n f.type with
      | none => simp [hn, hs] at hf
      | some t =>
        cases hr : aH (eqcT P n) fl (i + t.length) with
        | none => simp [hn, hs, hr] at hf
        | some ts' =>
          simp only [hn, hs, hr, Option.some.injEq] at hf
          subst hf
          simp only [Bool.and_eq_true, bne_iff_ne] at hn
          have hoff : f.offset = i := Nat.eq_of_beq_eq_true hn.2
          obtain ⟨r1, r2, e1, e2, rfl⟩ := gV he
          have l1 := dH e1
          have l2 := dH e2
          simp only [List.length_take, List.length_drop] at l1 l2
          obtain ⟨u, v, p1, p2, heq⟩ := IH f.type t hs d i us vs _ _ r1 e1 (by omega) (by omega)
            (fun j hj => by rw [List.length_take] at hj; have := h3 j (by omega); rw [List.getD_eq_getElem?_getD] at this ⊢; rwa [List.getElem?_take_of_lt (by omega)])
            (fun j hj => by rw [List.length_take] at hj; have := h4 j (by omega); rw [List.getD_eq_getElem?_getD] at this ⊢; rwa [List.getElem?_take_of_lt (by omega)])
          rw [← hoff] at p1 p2
          rw [List.forIn_cons]
          simp only [j5, hn.1, ne_eq, not_false_eq_true, if_true, Sem.run_bind, p1, p2, Result.andThen_ok, heq]
          cases r1 with
          | false => simp
          | true =>
            simp only [Bool.not_true, Bool.false_eq_true, if_false, Sem.run_pure, Result.andThen_ok, Bool.true_and]
            exact ih (i + t.length) ts' _ _ r2 hr e2 (by rw [List.length_drop]; omega) (by rw [List.length_drop]; omega)
              (fun j hj => by rw [List.length_drop] at hj; have := h3 (t.length + j) (by omega); rw [List.getD_eq_getElem?_getD] at this ⊢; rw [List.getElem?_drop]; rwa [Nat.add_assoc])
              (fun j hj => by rw [List.length_drop] at hj; have := h4 (t.length + j) (by omega); rw [List.getD_eq_getElem?_getD] at this ⊢; rw [List.getElem?_drop]; rwa [Nat.add_assoc])
theorem pW : ∀ n, oO P w M σ V n := by
  intro n
  induction n with
  | zero => intro t ts h; simp [eqcT] at h
  | succ n ih =>
    intro t ts h d off us vs xs ys r he h1 h2 h3 h4
    have hl := dH he
    unfold eqcT at h
    split at h
    · rename_i k hk
      injection h with h
      subst h
      have p1 : (part t us off).run P w = .ok (us.getD off Go.undef) w := dV hk rfl (by simp at h1; omega)
      have p2 : (part t vs off).run P w = .ok (vs.getD off Go.undef) w := dV hk rfl (by simp at h2; omega)
      refine ⟨_, _, p1, p2, ?_⟩
      have hx := h3 0 (by rw [hl.1]; simp)
      have hy := h4 0 (by rw [hl.2]; simp)
      rw [Nat.add_zero] at hx hy
      match xs, ys, hl with
      | [x], [y], _ =>
        simp only [List.getD_cons_zero] at hx hy
        cases x with
        | int k1 m =>
          cases y with
          | int k2 q =>
            simp only [au] at he
            split at he
            · rename_i hkk; subst hkk
              simp at he
              rw [hx.int_inv, hy.int_inv, ← he]
              rw [show d + (n + 1) = (d + n) + 1 from rfl]
              simp [Op.equalIn, run_underlying hk]
            · cases he
          | _ => simp [au] at he
        | _ => simp [au] at he
    · rename_i hk
      injection h with h
      subst h
      have p1 : (part t us off).run P w = .ok (us.getD off Go.undef) w := dV hk rfl (by simp at h1; omega)
      have p2 : (part t vs off).run P w = .ok (vs.getD off Go.undef) w := dV hk rfl (by simp at h2; omega)
      refine ⟨_, _, p1, p2, ?_⟩
      have hx := h3 0 (by rw [hl.1]; simp)
      have hy := h4 0 (by rw [hl.2]; simp)
      rw [Nat.add_zero] at hx hy
      match xs, ys, hl with
      | [x], [y], _ =>
        simp only [List.getD_cons_zero] at hx hy
        cases x with
        | bool m =>
          cases y with
          | bool q =>
            simp [au] at he
            rw [hx.bool_inv, hy.bool_inv, ← he]
            rw [show d + (n + 1) = (d + n) + 1 from rfl]
            simp [Op.equalIn, run_underlying hk]
          | _ => simp [au] at he
        | _ => simp [au] at he
    · rename_i fs hk
      cases hst : P.stoodInHeld t with
      | true => simp [hst] at h
      | false =>
        cases hi : P.info? t with
        | none => simp [hst, hi] at h
        | some i =>
          simp only [hst, hi] at h
          cases hf : aH (eqcT P n) fs.toList 0 with
          | none => simp [hf] at h
          | some ts0 =>
            simp only [hf] at h
            cases hb : Nat.beq ts0.length i.size with
            | false => simp [hb] at h
            | true =>
              simp only [hb, Option.some.injEq] at h
              subst h
              have hsz := Nat.eq_of_beq_eq_true hb
              have p1 : (part t us off).run P w = .ok (.agg (us.extract off (off + i.size))) w := by simp [part, aY hk, eX, Go.sizeOf, typeInfo, hi]
              have p2 : (part t vs off).run P w = .ok (.agg (vs.extract off (off + i.size))) w := by simp [part, aY hk, eX, Go.sizeOf, typeInfo, hi]
              refine ⟨_, _, p1, p2, ?_⟩
              have gx : ∀ (us : Array Value) j, j < i.size → off + i.size ≤ us.size → (us.extract off (off + i.size)).getD j Go.undef = us.getD (off + j) Go.undef := fun us j hj hs => by
                rw [Array.getD_eq_getD_getElem?, Array.getD_eq_getD_getElem?, Array.getElem?_extract_of_lt (by omega), Array.getElem?_eq_getElem (by omega)]
              rw [show d + (n + 1) = (d + n) + 1 from rfl]
              unfold Op.equalIn
              simp only [Sem.run_bind, run_underlying hk, Result.andThen_ok, run_program, hst, Bool.false_eq_true, if_false]
              rw [← Array.forIn_toList]
              have key := jf ih d (us.extract off (off + i.size)) (vs.extract off (off + i.size)) fs.toList 0 ts0 xs ys r hf he (by simp; omega) (by simp; omega)
                (fun j hj => by rw [Nat.zero_add, gx us j (by omega) (by omega)]; exact h3 j hj) (fun j hj => by rw [Nat.zero_add, gx vs j (by omega) (by omega)]; exact h4 j hj)
              change ((forIn fs.toList ((none : Option Bool), ()) (j5 (d + n) _ _)).run P w).andThen _ = _
              rw [key]
              cases r <;> simp
    · cases h
theorem dz {n : Nat} (IH : ∀ t ts, eqcT P n t = some ts → ∀ d, P.eqGuardType (d + n) t = false) : ∀ {fl : List Field} {i : Nat} {ts : List Bool}, aH (eqcT P n) fl i = some ts → ∀ d, fl.any (fun f => f.name != "_" && P.eqGuardType (d + n) f.type) = false := by
  intro fl
  induction fl with
  | nil => intro i ts _ d; rfl
  | cons f fl ih =>
    intro i ts h d
    unfold aH at h
    cases hn : f.name != "_" && Nat.beq f.offset i with
    | false => simp [hn] at h
    | true =>
      cases hs : eqcT P n f.type with
      | none => simp [hn, hs] at h
      | some t =>
        cases hr : aH (eqcT P n) fl (i + t.length) with
        | none => simp [hn, hs, hr] at h
        | some ts' =>
          have h1 := IH f.type t hs d
          have h2 := ih hr d
          simp only [List.any_cons, h1, h2, Bool.and_false, Bool.or_false]
theorem oV : ∀ n t ts, eqcT P n t = some ts → ∀ d, P.eqGuardType (d + n) t = false := by
  intro n
  induction n with
  | zero => intro t ts h; simp [eqcT] at h
  | succ n ih =>
    intro t ts h d
    rw [show d + (n + 1) = (d + n) + 1 from rfl]
    unfold eqcT at h
    unfold Program.eqGuardType
    split at h
    · rename_i k hk; rw [hk]
    · rename_i hk; rw [hk]
    · rename_i fs hk
      rw [hk]
      cases hst : P.stoodInHeld t with
      | true => simp [hst] at h
      | false =>
        cases hi : P.info? t with
        | none => simp [hst, hi] at h
        | some i =>
          simp only [hst, hi] at h
          cases hf : aH (eqcT P n) fs.toList 0 with
          | none => simp [hf] at h
          | some ts0 =>
            dsimp only
            rw [← Array.any_toList]
            exact dz ih hf d
    · cases h
theorem oQ {T : TypeId} {d : TypeDesc} {ts : List Bool} {xs ys : List AV} {r : Bool} {us vs : Array Value} (hu : P.underlying T = some d) (he : ko P T d = some ts) (ha : eX d = true) (hr : au ts xs ys = some r)
    (hl : us.size = xs.length) (hl2 : vs.size = ys.length) (hx : ∀ j, j < xs.length → VR w M σ V (xs.getD j .undef) (us.getD j Go.undef)) (hy : ∀ j, j < ys.length → VR w M σ V (ys.getD j .undef) (vs.getD j Go.undef)) :
    (Op.equal T (.agg us) (.agg vs)).run P w = .ok r w ∧ ∀ op x y, (eqGuard op T x y (.agg us) (.agg vs)).run P w = .ok () w := by
  cases d with
  | struct fs =>
    unfold ko at he
    cases hst : P.stoodInHeld T with
    | true => simp [hst] at he
    | false =>
      simp only [hst] at he
      constructor
      · unfold Op.equal Op.maxDepth
        rw [show (10000 : Nat) = (9996 + 3) + 1 from rfl]
        unfold Op.equalIn
        simp only [Sem.run_bind, run_underlying hu, Result.andThen_ok, run_program, hst, Bool.false_eq_true, if_false]
        rw [← Array.forIn_toList]
        have key := jf (P := P) (w := w) (M := M) (σ := σ) (V := V) (pW 3) 9996 us vs fs.toList 0 ts xs ys r he hr (by omega) (by omega) (fun j hj => by rw [Nat.zero_add]; exact hx j hj) (fun j hj => by rw [Nat.zero_add]; exact hy j hj)
        change ((forIn fs.toList ((none : Option Bool), ()) (j5 (9996 + 3) us vs)).run P w).andThen _ = _
        rw [key]
        cases r <;> simp
      · intro op x y
        unfold eqGuard
        have hg : P.eqGuardType P.depth T = false := by
          unfold Program.depth
          have hts : 0 < Made.depth := by decide
          rw [show 2 * (P.types.size + Made.depth) + 2 = (2 * (P.types.size + Made.depth) - 2 + 3) + 1 by omega]
          unfold Program.eqGuardType
          rw [hu]
          have := dz (oV 3) he (2 * (P.types.size + Made.depth) - 2)
          dsimp only
          rw [← Array.any_toList]
          exact this
        cases op <;> simp [hg]
  | array n e => simp [ko] at he
  | _ => simp [eX] at ha
end
section
variable {P : Program} {F : Fr} {H : Nat → Option Blk} {σ : Nat → Value} {o : Oper} {a : Act} {w : World} {c : Nat}
theorem pq {op : BinOp} {T Ty : TypeId} {x y : Operand} (ho : o.op = .binOp op T x y Ty) (rel : RelH F H σ w) {p q : AV} (hx : VR w (Mut F H σ) σ (Ver H) p (a.eval x)) (hy : VR w (Mut F H σ) σ (Ver H) q (a.eval y)) :
    Good P F H σ o a w c (abin (ttOf P) op T p q) := by
  have hrun : ∀ v, (do eqGuard op T x y (a.eval x) (a.eval y); binOp op T (a.eval x) (a.eval y)).run P w = .ok v w → (execOp a.eval o).run P w = .ok (.value v) w :=
    fun v h => bV (s := do eqGuard op T x y (a.eval x) (a.eval y); binOp op T (a.eval x) (a.eval y)) (by simp [execOp, ho]) h
  cases p with
  | int k m =>
    cases q with
    | int k' n => exact ok_int ho rel hx.int_inv hy.int_inv _
    | _ => exact .fail
  | bool m =>
    cases q with
    | bool n =>
      unfold abin
      dsimp only
      split
      · rename_i he
        obtain ⟨ti, ht, hq⟩ := Option.map_eq_some_iff.1 he
        obtain ⟨i, d, z, h1, h2, h3, h4, _⟩ := ay ht
        simp only [h4, Prod.mk.injEq] at hq
        obtain ⟨hd, ha⟩ := hq
        have hu : P.underlying T = some .bool := by
          cases d <;> simp [ko, eX] at hd ha
          exact h2
        rw [hx.bool_inv, hy.bool_inv] at hrun
        have hq : ∀ op, (eqGuard op T x y (.bool m) (.bool n)).run P w = .ok () w := by intro op; unfold eqGuard; cases op <;> rfl
        have heq : (Op.equal T (.bool m) (.bool n)).run P w = .ok (m == n) w := by
          unfold Op.equal Op.maxDepth
          rw [show (10000 : Nat) = 9999 + 1 from rfl]
          unfold Op.equalIn
          simp [run_underlying hu]
        cases op with
        | eql => exact .val rel (.bool (m == n)) (hrun _ (by simp [hq, binOp, heq])) (.pure (.bool _))
        | neq => exact .val rel (.bool (!(m == n))) (hrun _ (by simp [hq, binOp, heq])) (.pure (.bool _))
        | _ => exact .fail
      · exact .fail
    | _ => exact .fail
  | agg xs =>
    cases q with
    | agg ys =>
      unfold abin
      dsimp only
      split
      · rename_i ts he
        obtain ⟨ti, ht, hq⟩ := Option.map_eq_some_iff.1 he
        obtain ⟨i, d, z, h1, h2, h3, h4, _⟩ := ay ht
        simp only [h4, Prod.mk.injEq] at hq
        cases hr : au ts xs ys with
        | none => exact .fail
        | some r =>
          obtain ⟨us, hus, hl, hc⟩ := hx.agg_inv
          obtain ⟨vs, hvs, hl2, hc2⟩ := hy.agg_inv
          obtain ⟨e1, e2⟩ := oQ h2 hq.1 hq.2 hr hl hl2 hc hc2
          rw [hus, hvs] at hrun
          cases op with
          | eql => exact .val rel (.bool r) (hrun _ (by simp [e2, binOp, e1])) (.pure (.bool _))
          | neq => exact .val rel (.bool (!r)) (hrun _ (by simp [e2, binOp, e1])) (.pure (.bool _))
          | _ => exact .fail
      · exact .fail
    | _ => exact .fail
  | _ => exact .fail
end
end Go.Proofs.YtimkpfnbkclclaaGreat.Ab
namespace Go.Proofs.YtimkpfnbkclclaaGreat.Ab
open Go
theorem aK (H : Nat → Option Blk) (l r : List (Nat × Blk)) : ups H (l ++ r) = ups (ups H l) r := by
  induction l generalizing H with
  | nil => rfl
  | cons p ps ih => exact ih _
theorem iV {α : Type} (f : Nat → α) {i j : Nat} (x y : α) (h : i ≠ j) : upd (upd f i x) j y = upd (upd f j y) i x := by
  funext k
  simp only [upd]
  split <;> split <;> simp_all
theorem aT {α : Type} (f : Nat → α) (i : Nat) : upd f i (f i) = f := by
  funext k
  simp only [upd]
  split <;> simp_all
theorem aL {H : Nat → Option Blk} {l : List (Nat × Blk)} {id : Nat} (h : ∀ p ∈ l, p.1 ≠ id) : ups H l id = H id := by
  induction l generalizing H with
  | nil => rfl
  | cons p ps ih =>
    rw [ups, ih (fun q hq => h q (by simp [hq])), upd_ne _ _ (fun e => h p (by simp) e.symm)]
theorem mJ {H : Nat → Option Blk} {l : List (Nat × Blk)} {id : Nat} {b : Blk} (h : ∀ p ∈ l, p.1 ≠ id) : ups (upd H id (some b)) l = upd (ups H l) id (some b) := by
  induction l generalizing H with
  | nil => rfl
  | cons p ps ih =>
    rw [ups, ups, iV _ _ _ (fun e => h p (by simp) e.symm), ih (fun q hq => h q (by simp [hq]))]
theorem dU {c : Nat} {bs : List Blk} : ∀ p ∈ number c bs, c ≤ p.1 ∧ p.1 < c + bs.length := by
  induction bs generalizing c with
  | nil => intro p hp; simp [number] at hp
  | cons b bs ih =>
    intro p hp
    rw [number] at hp
    rcases List.mem_cons.1 hp with rfl | hp
    · simp
    · have := ih p hp
      simp; omega
section
variable {P : Program} {F : Fr} {H : Nat → Option Blk} {σ : Nat → Value} {w : World}
abbrev Now (F : Fr) (w : World) (H : Nat → Option Blk) (σ : Nat → Value) (w' : World) (H' : Nat → Option Blk) (σ' : Nat → Value) : Prop :=
  RelH F H' σ' w' ∧ Grow w (Mut F H σ) σ (Ver H) w' (Mut F H' σ') σ' (Ver H')
theorem RelH.now (rel : RelH F H σ w) : Now F w H σ w H σ := ⟨rel, .refl _ _ _ _⟩
theorem Now.trans {w' w'' : World} {H' H'' : Nat → Option Blk} {σ' σ'' : Nat → Value} (h : Now F w H σ w' H' σ') (k : Now F w' H' σ' w'' H'' σ'') : Now F w H σ w'' H'' σ'' := ⟨k.1, h.2.trans k.2⟩
theorem RelH.addNil (rel : RelH F H σ w) (id : Nat) (hn : H id = none) : Now F w H σ w (upd H id (some (.nilrow 0))) (upd σ id (.slice none 0 0)) :=
  rel.chg id (.nilrow 0) (.slice none 0 0) rfl rfl rfl (Nat.le_refl _) (fun _ _ _ => rfl) (fun g _ h => by simp [aA] at h) (fun b h => by rw [hn] at h; cases h) (fun _ => upd_same _ _ _)
theorem RelH.addNils : ∀ (n : Nat) {H : Nat → Option Blk} {σ : Nat → Value} (c : Nat), RelH F H σ w → (∀ j, j < n → H (c + j) = none) →
    ∃ σ', Now F w H σ w (ups H (number c (aJ n))) σ' ∧ ∀ j, j < n → ups H (number c (aJ n)) (c + j) = some (.nilrow 0) ∧ σ' (c + j) = .slice none 0 0 := by
  intro n
  induction n with
  | zero => intro H σ c rel _; exact ⟨σ, rel.now, fun j hj => by omega⟩
  | succ n ih =>
    intro H σ c rel hn
    have h1 := rel.addNil c (by simpa using hn 0 (by omega))
    obtain ⟨σ', h2, h3⟩ := ih (c + 1) h1.1 (fun j hj => by rw [upd_ne _ _ (by omega), show c + 1 + j = c + (j + 1) by omega]; exact hn (j + 1) (by omega))
    refine ⟨σ', h1.trans h2, fun j hj => ?_⟩
    cases j with
    | zero =>
      rw [Nat.add_zero]
      have e : ups H (number c (aJ (n + 1))) c = some (.nilrow 0) := by
        show ups (upd H c (some (.nilrow 0))) (number (c + 1) (aJ n)) c = _
        rw [aL (fun p hp => by have := (dU p hp).1; omega), upd_same]
      refine ⟨e, ?_⟩
      have := h2.1.bl c (.nilrow 0) e
      exact this
    | succ j =>
      have := h3 j (by omega)
      rw [show c + 1 + j = c + (j + 1) by omega] at this
      exact this
theorem jX (n : Nat) : (aJ n).length = n := by induction n with
  | zero => rfl
  | succ n ih => simp [aJ, ih]
theorem alloc_old (w : World) (o : Obj) (g : Nat) (h : g < w.heap.size) : (w.alloc o).heap[g]? = w.heap[g]? := by
  simp only [World.alloc]
  rw [Array.getElem?_push_lt h, Array.getElem?_eq_getElem h]
theorem RelH.addVar (rel : RelH F H σ w) (id : Nat) (hn : H id = none) (cells : List AV) (vs : Array Value) (T : TypeId) (hl : vs.size = cells.length)
    (hc : ∀ j, j < cells.length → VR w (Mut F H σ) σ (Ver H) (cells.getD j .undef) (vs.getD j Go.undef) ∧ (vs.getD j Go.undef).oneCell' = true) :
    Now F w H σ (w.alloc (.cells vs T)) (upd H id (some (.var cells))) (upd σ id (.pointer (some ⟨w.heap.size, 0, none⟩))) := by
  refine rel.chg id (.var cells) (.pointer (some ⟨w.heap.size, 0, none⟩)) rfl rfl rfl (by simp) (fun g hg _ => alloc_old w _ g hg) (fun g _ h => ?_) (fun b h => by rw [hn] at h; cases h) (fun G => ?_)
  · simp only [aA, Option.some.injEq] at h
    subst h
    exact ⟨by simp, .inl (Nat.le_refl _)⟩
  · exact ⟨w.heap.size, vs, T, upd_same _ _ _, heap_alloc_new w _, hl, fun j hj => ⟨(hc j hj).1.grow G, (hc j hj).2⟩⟩
theorem RelH.addRow (rel : RelH F H σ w) (id : Nat) (hn : H id = none) (sz n cap : Nat) (e : TypeId) (f : Nat → List AV) (vs : Array Value) (hsz : 0 < sz) (hnc : n ≤ cap) (hm : cap ≤ maxLen) (hl : vs.size = cap * sz) (hf : ∀ k, k < n → (f k).length = sz)
    (hc : ∀ k j, k < n → j < sz → PR w (Mut F H σ) ((f k).getD j .undef) (vs.getD (k * sz + j) Go.undef) ∧ (vs.getD (k * sz + j) Go.undef).oneCell' = true) :
    Now F w H σ (w.alloc (.cells vs e)) (upd H id (some (.row 0 sz n e f))) (upd σ id (.slice (some ⟨w.heap.size, 0, none⟩) n cap)) := by
  refine rel.chg id (.row 0 sz n e f) (.slice (some ⟨w.heap.size, 0, none⟩) n cap) rfl rfl rfl (by simp) (fun g hg _ => alloc_old w _ g hg) (fun g _ h => ?_) (fun b h => by rw [hn] at h; cases h) (fun G => ?_)
  · simp only [aA, Option.some.injEq] at h
    subst h
    exact ⟨by simp, .inl (Nat.le_refl _)⟩
  · have hle : n * sz ≤ cap * sz := Nat.mul_le_mul_right _ hnc
    refine ⟨vs.toList.take (n * sz), hsz, ⟨by simp; omega, .inr ⟨w.heap.size, cap, vs, upd_same _ _ _, Nat.zero_le _, heap_alloc_new w _, hnc, hm, hl, rfl⟩⟩, hf, fun k j hk hj => ?_⟩
    have hlt : k * sz + j < n * sz := by
      have h2 : (k + 1) * sz ≤ n * sz := Nat.mul_le_mul_right _ hk
      rw [Nat.add_mul, Nat.one_mul] at h2
      omega
    have e1 : (vs.toList.take (n * sz)).getD (k * sz + j) Go.undef = vs.getD (k * sz + j) Go.undef := by
      have hs : k * sz + j < vs.size := by omega
      simp [List.getD_eq_getElem?_getD, hlt, Array.getD, hs]
    rw [e1]
    exact ⟨(hc k j hk hj).1.grow G.keep G.mutd, (hc k j hk hj).2⟩
theorem RelH.addLrow (rel : RelH F H σ w) (id : Nat) (hn : H id = none) (sz n : Nat) (e : TypeId) (cells : List AV) (vs : Array Value) (hsz : 0 < sz) (hn0 : 0 < n) (hm : n ≤ maxLen) (hl : vs.size = n * sz) (hcl : cells.length = n * sz)
    (hc : ∀ j, j < n * sz → VR w (Mut F H σ) σ (Ver H) (cells.getD j .undef) (vs.getD j Go.undef) ∧ (vs.getD j Go.undef).oneCell' = true) :
    Now F w H σ (w.alloc (.cells vs e)) (upd H id (some (.lrow 0 sz n e cells))) (upd σ id (.slice (some ⟨w.heap.size, 0, none⟩) n n)) := by
  refine rel.chg id (.lrow 0 sz n e cells) (.slice (some ⟨w.heap.size, 0, none⟩) n n) rfl rfl rfl (by simp) (fun g hg _ => alloc_old w _ g hg) (fun g _ h => ?_) (fun b h => by rw [hn] at h; cases h) (fun G => ?_)
  · simp only [aA, Option.some.injEq] at h
    subst h
    exact ⟨by simp, .inl (Nat.le_refl _)⟩
  · refine ⟨vs.toList.take (n * sz), hsz, hn0, ⟨by simp; omega, .inr ⟨w.heap.size, n, vs, upd_same _ _ _, Nat.zero_le _, heap_alloc_new w _, Nat.le_refl _, hm, hl, rfl⟩⟩, hcl, fun j hj => ?_⟩
    have e1 : (vs.toList.take (n * sz)).getD j Go.undef = vs.getD j Go.undef := by
      have hs : j < vs.size := by omega
      simp [List.getD_eq_getElem?_getD, hj, Array.getD, hs]
    rw [e1]
    exact ⟨(hc j hj).1.grow G, (hc j hj).2⟩
theorem RelH.addFree (rel : RelH F H σ w) (o : Obj) : Now F w H σ (w.alloc o) H σ :=
  rel.chgs (fun _ => False) (fun _ _ => rfl) (fun _ _ => rfl) rfl rfl rfl (by simp) (fun g hg _ => alloc_old w _ g hg) (fun _ _ _ h => h.elim) (fun _ _ _ _ _ _ h => h.elim) (fun _ _ h => h.elim) (fun _ _ _ h => h.elim)
theorem RelH.kill (rel : RelH F H σ w) (u : List (Nat × Blk)) (hu : ∀ p ∈ u, ∃ b, H p.1 = some b ∧ b.live ∧ p.2 = .dead (b.ver + 1)) :
    Now F w H σ w (ups H u) σ ∧ (∀ p ∈ u, ∀ g, aA (σ p.1) = some g → ¬ Mut F (ups H u) σ g) ∧ ∀ g, Mut F (ups H u) σ g → Mut F H σ g := by
  have hat : ∀ id, (∃ p ∈ u, p.1 = id) → ∃ b, H id = some b ∧ b.live ∧ ups H u id = some (.dead (b.ver + 1)) := by
    clear rel
    have gen : ∀ (u : List (Nat × Blk)) (H0 : Nat → Option Blk), (∀ p ∈ u, ∃ b, H p.1 = some b ∧ b.live ∧ p.2 = .dead (b.ver + 1)) → ∀ id, (∃ p ∈ u, p.1 = id) → ∃ b, H id = some b ∧ b.live ∧ ups H0 u id = some (.dead (b.ver + 1)) := by
      intro u
      induction u with
      | nil => intro H0 _ id h; obtain ⟨p, hp, _⟩ := h; cases hp
      | cons p ps ih =>
        intro H0 hu id h
        by_cases hq : ∃ q ∈ ps, q.1 = id
        · exact ih _ (fun q hq => hu q (by simp [hq])) id hq
        · obtain ⟨b, h1, h2, h3⟩ := hu p (by simp)
          have hid : p.1 = id := by
            obtain ⟨q, hq1, hq2⟩ := h
            rcases List.mem_cons.1 hq1 with rfl | hq1
            · exact hq2
            · exact absurd ⟨q, hq1, hq2⟩ hq
          subst hid
          refine ⟨b, h1, h2, ?_⟩
          rw [ups, aL (fun q hq1 e => hq ⟨q, hq1, e⟩), upd_same, h3]
    exact gen u H hu
  have hoff : ∀ id, ¬ (∃ p ∈ u, p.1 = id) → ups H u id = H id := fun id h => aL fun p hp e => h ⟨p, hp, e⟩
  have main := rel.chgs (H' := ups H u) (σ' := σ) (w' := w) (fun id => ∃ p ∈ u, p.1 = id) hoff (fun _ _ => rfl) rfl rfl rfl (Nat.le_refl _) (fun _ _ _ => rfl)
    (fun id b' g hi h1 h2 _ => by
      obtain ⟨b, _, _, e3⟩ := hat id hi
      rw [h1] at e3; injection e3 with e3; subst e3; exact h2.elim)
    (fun id id' b b' g _ hi _ h1 _ h2 _ _ _ => by
      obtain ⟨b0, _, _, e3⟩ := hat id hi
      rw [h1] at e3; injection e3 with e3; subst e3; exact h2.elim)
    (fun id b hi h1 => by
      obtain ⟨b0, e1, e2, e3⟩ := hat id hi
      rw [h1] at e1; injection e1 with e1; subst e1
      exact ⟨_, e3, by simp [Blk.ver], fun _ => rfl, fun _ _ => rfl⟩)
    (fun _ id b' hi h1 => by
      obtain ⟨b0, _, _, e3⟩ := hat id hi
      rw [h1] at e3; injection e3 with e3; subst e3; trivial)
  refine ⟨main, fun p hp g hg hm => ?_, fun g hm => ?_⟩
  · obtain ⟨b, e1, e2, _⟩ := hat p.1 ⟨p, hp, rfl⟩
    rcases hm with hm | ⟨id, b', h1, h2, h3⟩
    · exact (rel.new p.1 b g e1 e2 hg).2.2 hm
    · by_cases hi : ∃ q ∈ u, q.1 = id
      · obtain ⟨b0, _, _, e3⟩ := hat id hi
        rw [h1] at e3; injection e3 with e3; subst e3; exact h2
      · rw [hoff id hi] at h1
        exact rel.ds p.1 id b b' g (fun e => hi ⟨p, hp, e⟩) e1 h1 e2 h2 hg h3
  · rcases hm with hm | ⟨id, b', h1, h2, h3⟩
    · exact .inl hm
    · by_cases hi : ∃ q ∈ u, q.1 = id
      · obtain ⟨b0, _, _, e3⟩ := hat id hi
        rw [h1] at e3; injection e3 with e3; subst e3; exact h2.elim
      · rw [hoff id hi] at h1
        exact .inr ⟨id, b', h1, h2, h3⟩
theorem gM {w : World} {g : Nat} {cur new : Array Value} {t : TypeId} (hg : w.heap[g]? = some (.cells cur t (0, 0))) : (w.setRow g new).heap[g]? = some (.cells new t (0, 0)) := setRow_heap w g cur new t (0, 0) hg
theorem RelH.setVar (rel : RelH F H σ w) (id : Nat) (cells : List AV) (hid : H id = some (.var cells)) (off : Nat) (xs : List AV) (us : List Value) (hx : us.length = xs.length) (hle : off + xs.length ≤ cells.length)
    (hc : ∀ j, j < xs.length → VR w (Mut F H σ) σ (Ver H) (xs.getD j .undef) (us.getD j Go.undef) ∧ (us.getD j Go.undef).oneCell' = true) (t : TypeId) (inf : TypeInfo) (hi : P.info? t = some inf) (hs : inf.size = xs.length) (v : Value) (hv : v.cells.toList = us) :
    ∃ g w', σ id = .pointer (some ⟨g, 0, none⟩) ∧ (Instr.storeAt t (.pointer (some ⟨g, off, none⟩)) v).run P w = .ok () w' ∧ Now F w H σ w' (upd H id (some (.var (setAt cells off xs)))) σ := by
  obtain ⟨g, vs, T, h1, h2, h3, h4⟩ := rel.bl id _ hid
  have hg : g < w.heap.size := (Array.getElem?_eq_some_iff.1 h2).1
  have h1c : ∀ u ∈ us, u.oneCell' = true := fun u hu => by
    obtain ⟨j, hj, e⟩ := List.mem_iff_getElem.1 hu
    have := (hc j (by omega)).2
    rw [List.getD_eq_getElem?_getD, List.getElem?_eq_getElem hj] at this
    simpa [e] using this
  have hst := run_storeCells_at P g off T us 0 vs w h2 (by omega) h1c
  simp only [Nat.add_zero] at hst
  refine ⟨g, w.setRow g (vs.toList.take off ++ us ++ vs.toList.drop (off + us.length)).toArray, h1, ?_, ?_⟩
  · have hsz : v.cells.size = inf.size := by rw [← Array.length_toList, hv, hx, hs]
    simp only [Instr.storeAt, Instr.sureAddr, Sem.run_bind, Sem.run_pure, Result.andThen_ok, storeVar, run_sizeOf hi, hsz, ne_eq, not_true_eq_false, if_false, hv, hst]
  · have key := rel.chg id (.var (setAt cells off xs)) (σ id) (w' := w.setRow g (vs.toList.take off ++ us ++ vs.toList.drop (off + us.length)).toArray) rfl rfl rfl (by simp) (fun g' _ hk => ?_) (fun g' _ h => ?_) (fun b h => ⟨by rw [hid] at h; injection h with h; subst h; simp [Blk.ver], fun _ => rfl, fun _ _ => rfl⟩) (fun G => ?_)
    · rw [aT] at key; exact key
    · exact setRow_other w g g' _ (fun e => hk _ hid trivial (by rw [h1, e]; rfl))
    · rw [h1] at h; simp only [aA, Option.some.injEq] at h; subst h
      exact ⟨by simpa using hg, .inr ⟨_, hid, trivial, by rw [h1]; rfl⟩⟩
    · rw [aT] at G ⊢
      have hsl : (setAt cells off xs).length = cells.length := by simp [setAt]; omega
      refine ⟨g, _, T, h1, gM h2, by rw [hsl]; simp; omega, fun j hj => ?_⟩
      rw [hsl] at hj
      have hjv : j < vs.size := by omega
      by_cases c1 : j < off
      · have e1 : (setAt cells off xs).getD j .undef = cells.getD j .undef := by
          rw [setAt, List.append_assoc, List.getD_eq_getElem?_getD, List.getElem?_append_left (by simp; omega), List.getElem?_take, if_pos c1, List.getD_eq_getElem?_getD]
        have e2 : (vs.toList.take off ++ us ++ vs.toList.drop (off + us.length)).toArray.getD j Go.undef = vs.getD j Go.undef := by
          rw [Array.getD_eq_getD_getElem?, List.getElem?_toArray, List.append_assoc, List.getElem?_append_left (by simp; omega), List.getElem?_take, if_pos c1, Array.getElem?_toList, Array.getD_eq_getD_getElem?]
        rw [e1, e2]
        exact ⟨(h4 j (by omega)).1.grow G, (h4 j (by omega)).2⟩
      · by_cases c2 : j < off + xs.length
        · have e1 : (setAt cells off xs).getD j .undef = xs.getD (j - off) .undef := by
            rw [setAt, List.append_assoc, List.getD_eq_getElem?_getD, List.getElem?_append_right (by simp; omega), List.getElem?_append_left (by simp; omega), List.getD_eq_getElem?_getD]
            congr 3; simp; omega
          have e2 : (vs.toList.take off ++ us ++ vs.toList.drop (off + us.length)).toArray.getD j Go.undef = us.getD (j - off) Go.undef := by
            rw [Array.getD_eq_getD_getElem?, List.getElem?_toArray, List.append_assoc, List.getElem?_append_right (by simp; omega), List.getElem?_append_left (by simp; omega), List.getD_eq_getElem?_getD]
            congr 3; simp; omega
          rw [e1, e2]
          exact ⟨(hc _ (by omega)).1.grow G, (hc _ (by omega)).2⟩
        · have e1 : (setAt cells off xs).getD j .undef = cells.getD j .undef := by
            rw [setAt, List.getD_eq_getElem?_getD, List.getElem?_append_right (by simp; omega), List.getElem?_drop, List.getD_eq_getElem?_getD]
            congr 3; simp; omega
          have e2 : (vs.toList.take off ++ us ++ vs.toList.drop (off + us.length)).toArray.getD j Go.undef = vs.getD j Go.undef := by
            rw [Array.getD_eq_getD_getElem?, List.getElem?_toArray, List.getElem?_append_right (by simp; omega), List.getElem?_drop, Array.getElem?_toList, Array.getD_eq_getD_getElem?]
            congr 2; simp; omega
          rw [e1, e2]
          exact ⟨(h4 j (by omega)).1.grow G, (h4 j (by omega)).2⟩
end
end Go.Proofs.YtimkpfnbkclclaaGreat.Ab
namespace Go.Proofs.YtimkpfnbkclclaaGreat.Ab
open Go
theorem dD {k n sz j : Nat} (hk : k < n) (hj : j < sz) : k * sz + j < n * sz := by
  have h2 : (k + 1) * sz ≤ n * sz := Nat.mul_le_mul_right _ hk
  rw [Nat.add_mul, Nat.one_mul] at h2
  omega
theorem mo {k k' j j' sz : Nat} (hj : j < sz) (hj' : j' < sz) (h : k * sz + j = k' * sz + j') : k = k' ∧ j = j' := by
  have h1 : k = k' := by
    rcases Nat.lt_trichotomy k k' with h2 | h2 | h2
    · have h3 : (k + 1) * sz ≤ k' * sz := Nat.mul_le_mul_right _ h2
      rw [Nat.add_mul, Nat.one_mul] at h3; omega
    · exact h2
    · have h3 : (k' + 1) * sz ≤ k * sz := Nat.mul_le_mul_right _ h2
      rw [Nat.add_mul, Nat.one_mul] at h3; omega
  subst h1
  exact ⟨rfl, by omega⟩
theorem gL {cells xs : List AV} {off j : Nat} (hle : off + xs.length ≤ cells.length) :
    (setAt cells off xs).getD j .undef = if off ≤ j ∧ j < off + xs.length then xs.getD (j - off) .undef else cells.getD j .undef := by
  by_cases c1 : j < off
  · rw [if_neg (by omega), setAt, List.append_assoc, List.getD_eq_getElem?_getD, List.getElem?_append_left (by simp; omega), List.getElem?_take, if_pos c1, List.getD_eq_getElem?_getD]
  · by_cases c2 : j < off + xs.length
    · rw [if_pos (by omega), setAt, List.append_assoc, List.getD_eq_getElem?_getD, List.getElem?_append_right (by simp; omega), List.getElem?_append_left (by simp; omega), List.getD_eq_getElem?_getD]
      congr 3; simp; omega
    · rw [if_neg (by omega), setAt, List.getD_eq_getElem?_getD, List.getElem?_append_right (by simp; omega), List.getElem?_drop, List.getD_eq_getElem?_getD]
      congr 3; simp; omega
theorem iA {cur us : List Value} {off j : Nat} (hle : off + us.length ≤ cur.length) :
    (cur.take off ++ us ++ cur.drop (off + us.length)).getD j Go.undef = if off ≤ j ∧ j < off + us.length then us.getD (j - off) Go.undef else cur.getD j Go.undef := by
  by_cases c1 : j < off
  · rw [if_neg (by omega), List.append_assoc, List.getD_eq_getElem?_getD, List.getElem?_append_left (by simp; omega), List.getElem?_take, if_pos c1, List.getD_eq_getElem?_getD]
  · by_cases c2 : j < off + us.length
    · rw [if_pos (by omega), List.append_assoc, List.getD_eq_getElem?_getD, List.getElem?_append_right (by simp; omega), List.getElem?_append_left (by simp; omega), List.getD_eq_getElem?_getD]
      congr 3; simp; omega
    · rw [if_neg (by omega), List.getD_eq_getElem?_getD, List.getElem?_append_right (by simp; omega), List.getElem?_drop, List.getD_eq_getElem?_getD]
      congr 3; simp; omega
section
variable {P : Program} {F : Fr} {H : Nat → Option Blk} {σ : Nat → Value} {w : World}
theorem RelH.setRow (rel : RelH F H σ w) (id ver sz n : Nat) (e : TypeId) (f : Nat → List AV) (hid : H id = some (.row ver sz n e f)) (g n' cap k off : Nat) (hg : σ id = .slice (some ⟨g, 0, none⟩) n' cap) (hk : k < n)
    (xs : List AV) (us : List Value) (hx : us.length = xs.length) (hle : off + xs.length ≤ sz)
    (hc : ∀ j, j < xs.length → PR w (Mut F H σ) (xs.getD j .undef) (us.getD j Go.undef) ∧ (us.getD j Go.undef).oneCell' = true) (t : TypeId) (inf : TypeInfo) (hi : P.info? t = some inf) (hs : inf.size = xs.length) (v : Value) (hv : v.cells.toList = us) :
    ∃ w', (Instr.storeAt t (.pointer (some ⟨g, k * sz + off, none⟩)) v).run P w = .ok () w' ∧ Now F w H σ w' (upd H id (some (.row ver sz n e fun j => if j = k then setAt (f k) off xs else f j))) σ := by
  obtain ⟨h0, h2, xs0, h1, h3, h4⟩ := (rel.bl id _ hid).row_cells
  obtain ⟨g', cap', cur, e1, e2, e3, e4, e5, e6, e7⟩ := h4 (by omega)
  rw [hg] at e1
  injection e1 with q1 q2 q3
  injection q1 with q1; injection q1 with q1
  subst q1 q2 q3
  have hgl : g < w.heap.size := (Array.getElem?_eq_some_iff.1 e4).1
  have hcs : n' * sz ≤ cur.size := by rw [e5]; exact Nat.mul_le_mul_right _ e2
  have hbase : k * sz + off + us.length ≤ n' * sz := by
    have h2 : (k + 1) * sz ≤ n' * sz := Nat.mul_le_mul_right _ hk
    rw [Nat.add_mul, Nat.one_mul] at h2
    omega
  have h1c : ∀ u ∈ us, u.oneCell' = true := fun u hu => by
    obtain ⟨j, hj, e⟩ := List.mem_iff_getElem.1 hu
    have := (hc j (by omega)).2
    rw [List.getD_eq_getElem?_getD, List.getElem?_eq_getElem hj] at this
    simpa [e] using this
  have hst := run_storeCells_at P g (k * sz + off) e us 0 cur w e4 (by omega) h1c
  simp only [Nat.add_zero] at hst
  refine ⟨w.setRow g (cur.toList.take (k * sz + off) ++ us ++ cur.toList.drop (k * sz + off + us.length)).toArray, ?_, ?_⟩
  · have hsz : v.cells.size = inf.size := by rw [← Array.length_toList, hv, hx, hs]
    simp only [Instr.storeAt, Instr.sureAddr, Sem.run_bind, Sem.run_pure, Result.andThen_ok, storeVar, run_sizeOf hi, hsz, ne_eq, not_true_eq_false, if_false, hv, hst]
  · have key := rel.chg id (.row ver sz n' e fun j => if j = k then setAt (f k) off xs else f j) (σ id) (w' := w.setRow g (cur.toList.take (k * sz + off) ++ us ++ cur.toList.drop (k * sz + off + us.length)).toArray) rfl rfl rfl (by simp) (fun g' _ hk => ?_) (fun g' _ h => ?_) (fun b h => ⟨by rw [hid] at h; injection h with h; subst h; simp [Blk.ver], fun _ => rfl, fun _ _ => rfl⟩) (fun G => ?_)
    · rw [aT] at key; exact key
    · exact setRow_other w g g' _ (fun e => hk _ hid trivial (by rw [hg, e]; rfl))
    · rw [hg] at h; simp only [aA, Option.some.injEq] at h; subst h
      exact ⟨by simpa using hgl, .inr ⟨_, hid, trivial, by rw [hg]; rfl⟩⟩
    · rw [aT] at G ⊢
      have hnl : (cur.toList.take (k * sz + off) ++ us ++ cur.toList.drop (k * sz + off + us.length)).length = cur.size := by simp; omega
      refine ⟨(cur.toList.take (k * sz + off) ++ us ++ cur.toList.drop (k * sz + off + us.length)).take (n' * sz), h0, ⟨by rw [List.length_take, hnl]; omega, .inr ⟨g, cap, _, hg, Nat.zero_le _, gM e4, e2, e3, by rw [List.size_toArray, hnl, e5], by simp⟩⟩, fun k' hk' => ?_, fun k' j hk' hj => ?_⟩
      · dsimp only
        split
        · rename_i hkk; subst hkk
          have := h2 k' hk'
          simp [setAt]; omega
        · exact h2 k' hk'
      · have hlt := dD hk' hj
        have e8 : ((cur.toList.take (k * sz + off) ++ us ++ cur.toList.drop (k * sz + off + us.length)).take (n' * sz)).getD (k' * sz + j) Go.undef = (cur.toList.take (k * sz + off) ++ us ++ cur.toList.drop (k * sz + off + us.length)).getD (k' * sz + j) Go.undef := by
          rw [List.getD_eq_getElem?_getD, List.getElem?_take, if_pos hlt, List.getD_eq_getElem?_getD]
        have e9 : xs0.getD (k' * sz + j) Go.undef = cur.toList.getD (k' * sz + j) Go.undef := by
          rw [← e6, List.getD_eq_getElem?_getD, List.getElem?_take, if_pos hlt, List.getD_eq_getElem?_getD]
        rw [e8, iA (by simp; omega)]
        have old := h3 k' j hk' hj
        rw [e9] at old
        dsimp only
        by_cases hkk : k' = k
        · subst hkk
          rw [if_pos rfl, gL (by rw [h2 k' hk']; exact hle)]
          by_cases hin : off ≤ j ∧ j < off + xs.length
          · rw [if_pos hin, if_pos (by omega), show k' * sz + j - (k' * sz + off) = j - off by omega]
            exact ⟨(hc _ (by omega)).1.grow G.keep G.mutd, (hc _ (by omega)).2⟩
          · rw [if_neg hin, if_neg (by omega)]
            exact ⟨old.1.grow G.keep G.mutd, old.2⟩
        · rw [if_neg hkk, if_neg ?_]
          · exact ⟨old.1.grow G.keep G.mutd, old.2⟩
          · rintro ⟨a1, a2⟩
            exact hkk (mo (sz := sz) hj (show k' * sz + j - k * sz < sz by omega) (by omega)).1
theorem RelH.setLrow (rel : RelH F H σ w) (id ver sz n : Nat) (e : TypeId) (cells : List AV) (hid : H id = some (.lrow ver sz n e cells)) (off : Nat) (xs : List AV) (us : List Value) (hx : us.length = xs.length) (hle : off + xs.length ≤ cells.length)
    (hc : ∀ j, j < xs.length → VR w (Mut F H σ) σ (Ver H) (xs.getD j .undef) (us.getD j Go.undef) ∧ (us.getD j Go.undef).oneCell' = true) (t : TypeId) (inf : TypeInfo) (hi : P.info? t = some inf) (hs : inf.size = xs.length) (v : Value) (hv : v.cells.toList = us) :
    ∃ g cap w', σ id = .slice (some ⟨g, 0, none⟩) n cap ∧ (Instr.storeAt t (.pointer (some ⟨g, off, none⟩)) v).run P w = .ok () w' ∧ Now F w H σ w' (upd H id (some (.lrow ver sz n e (setAt cells off xs)))) σ := by
  obtain ⟨h0, h0', hcl, g, cap, cur, xs0, h1, e1, e2, e3, e4, e5, e6, e7⟩ := (rel.bl id _ hid).lrow_cells
  have hgl : g < w.heap.size := (Array.getElem?_eq_some_iff.1 e4).1
  have hcs : n * sz ≤ cur.size := by rw [e5]; exact Nat.mul_le_mul_right _ e2
  have h1c : ∀ u ∈ us, u.oneCell' = true := fun u hu => by
    obtain ⟨j, hj, e⟩ := List.mem_iff_getElem.1 hu
    have := (hc j (by omega)).2
    rw [List.getD_eq_getElem?_getD, List.getElem?_eq_getElem hj] at this
    simpa [e] using this
  have hst := run_storeCells_at P g off e us 0 cur w e4 (by omega) h1c
  simp only [Nat.add_zero] at hst
  refine ⟨g, cap, w.setRow g (cur.toList.take off ++ us ++ cur.toList.drop (off + us.length)).toArray, e1, ?_, ?_⟩
  · have hsz : v.cells.size = inf.size := by rw [← Array.length_toList, hv, hx, hs]
    simp only [Instr.storeAt, Instr.sureAddr, Sem.run_bind, Sem.run_pure, Result.andThen_ok, storeVar, run_sizeOf hi, hsz, ne_eq, not_true_eq_false, if_false, hv, hst]
  · have key := rel.chg id (.lrow ver sz n e (setAt cells off xs)) (σ id) (w' := w.setRow g (cur.toList.take off ++ us ++ cur.toList.drop (off + us.length)).toArray) rfl rfl rfl (by simp) (fun g' _ hk => ?_) (fun g' _ h => ?_) (fun b h => ⟨by rw [hid] at h; injection h with h; subst h; simp [Blk.ver], fun _ => rfl, fun _ _ => rfl⟩) (fun G => ?_)
    · rw [aT] at key; exact key
    · exact setRow_other w g g' _ (fun e => hk _ hid trivial (by rw [e1, e]; rfl))
    · rw [e1] at h; simp only [aA, Option.some.injEq] at h; subst h
      exact ⟨by simpa using hgl, .inr ⟨_, hid, trivial, by rw [e1]; rfl⟩⟩
    · rw [aT] at G ⊢
      have hnl : (cur.toList.take off ++ us ++ cur.toList.drop (off + us.length)).length = cur.size := by simp; omega
      refine ⟨(cur.toList.take off ++ us ++ cur.toList.drop (off + us.length)).take (n * sz), h0, h0', ⟨by rw [List.length_take, hnl]; omega, .inr ⟨g, cap, _, e1, Nat.zero_le _, gM e4, e2, e3, by rw [List.size_toArray, hnl, e5], by simp⟩⟩, by simp [setAt]; omega, fun j hj => ?_⟩
      have e8 : ((cur.toList.take off ++ us ++ cur.toList.drop (off + us.length)).take (n * sz)).getD j Go.undef = (cur.toList.take off ++ us ++ cur.toList.drop (off + us.length)).getD j Go.undef := by
        rw [List.getD_eq_getElem?_getD, List.getElem?_take, if_pos hj, List.getD_eq_getElem?_getD]
      have e9 : xs0.getD j Go.undef = cur.toList.getD j Go.undef := by
        rw [← e6, List.getD_eq_getElem?_getD, List.getElem?_take, if_pos hj, List.getD_eq_getElem?_getD]
      have old := (e7 j hj).2
      rw [e9] at old
      rw [e8, iA (by simp; omega), gL hle]
      by_cases hin : off ≤ j ∧ j < off + xs.length
      · rw [if_pos hin, if_pos (by omega)]
        exact ⟨(hc _ (by omega)).1.grow G, (hc _ (by omega)).2⟩
      · rw [if_neg hin, if_neg (by omega)]
        exact ⟨old.1.grow G, old.2⟩
theorem aU (t ty e : TypeId) (i : TypeInfo) (z : Value) (ht : P.underlying t = some (.slice e)) (hi : P.info? e = some i) (hz : i.zero = some z) (hzs : z.cells.size = i.size) (hsz : 0 < i.size)
    (v : Value) (n : Nat) (xs : List Value) (hown : w.ownsRow 0 e i.size v n xs)
    (x : Value) (m : Nat) (ys : List Value) (hl : ys.length = m * i.size)
    (hx : (m = 0 ∧ (x = .slice none 0 0 ∨ ∃ a cap, x = .slice (some a) 0 cap)) ∨ ∃ g off cap, x = .slice (some ⟨g, off, none⟩) m cap ∧ ∀ j, j < m * i.size → w.cell? ⟨g, off + j, none⟩ = some (ys.getD j Go.undef))
    (h1 : ∀ u ∈ ys, u.oneCell' = true) (h63 : n + m ≤ maxLen) (hbytes : (n + m) * i.bytes ≤ 140737488355328) :
    ∃ v' w', (Builtin.append_ #[t, t] ty #[v, x]).run P w = .ok v' w' ∧ w'.ownsRow 0 e i.size v' (n + m) (xs ++ ys) ∧ w.grownBy w' v.ownBlock ∧ ∀ g, v'.ownBlock = some g → v.ownBlock = some g ∨ w.heap.size ≤ g := by
  have none_case : m = 0 → x = .slice none 0 0 → ∃ v' w', (Builtin.append_ #[t, t] ty #[v, x]).run P w = .ok v' w' ∧ w'.ownsRow 0 e i.size v' (n + m) (xs ++ ys) ∧ w.grownBy w' v.ownBlock ∧ ∀ g, v'.ownBlock = some g → v.ownBlock = some g ∨ w.heap.size ≤ g := by
    rintro rfl rfl
    have e0 : ys = [] := List.eq_nil_of_length_eq_zero (by simpa using hl)
    subst e0
    exact ⟨v, w, run_append_owned_none w 0 t ty e i i.size ht hi v n xs hown, by simpa using hown, ⟨rfl, rfl, rfl, Nat.le_refl _, fun _ _ _ => rfl⟩, fun g hg => .inl hg⟩
  have some_case : ∀ (a : Addr) (cap : Nat), x = .slice (some a) m cap → (∀ j u, ys[j]? = some u → w.cell? (a.add j) = some u) →
      ∃ v' w', (Builtin.append_ #[t, t] ty #[v, x]).run P w = .ok v' w' ∧ w'.ownsRow 0 e i.size v' (n + m) (xs ++ ys) ∧ w.grownBy w' v.ownBlock ∧ ∀ g, v'.ownBlock = some g → v.ownBlock = some g ∨ w.heap.size ≤ g := by
    rintro a cap rfl hy
    obtain ⟨v', w', r1, r2, r3, _⟩ := run_append_own (P := P) w 0 t ty e i z i.size i.bytes ht hi hz rfl rfl hzs hsz v n xs hown a m cap ys hl hy h1 h63 hbytes (Nat.zero_le _)
    refine ⟨v', w', r1, r2, r3, fun g hg => ?_⟩
    rcases hown.2 with ⟨rfl, rfl⟩ | ⟨g0, cap0, cur0, rfl, _, k3, k4, k5, k6, k7⟩
    · have hx0 : xs = [] := List.eq_nil_of_length_eq_zero (by simpa using hown.1)
      subst hx0
      obtain ⟨v2, w2, s1, s2, _, _⟩ := run_append_own (P := P) w w.heap.size t ty e i z i.size i.bytes ht hi hz rfl rfl hzs hsz (.slice none 0 0) 0 [] (World.ownsRow_nil w _ e i.size) a m cap ys hl hy h1 h63 hbytes (Nat.le_refl _)
      rw [r1] at s1
      injection s1 with s1 _
      subst s1
      exact .inr (s2.lt g hg).1
    · by_cases hroom : n + m ≤ cap0
      · have hfit : n * i.size + ys.length ≤ cur0.size := by rw [hl, k6, ← Nat.add_mul]; exact Nat.mul_le_mul_right _ hroom
        have s1 := run_append_room (P := P) w t ty e i ht hi g0 n cap0 cur0 k3 a m cap ys hl hy h1 hroom hfit
        rw [r1] at s1
        injection s1 with s1 _
        subst s1
        exact .inl hg
      · have hsmall : n + m ≤ 9223372036854775807 := by simp only [maxLen] at h63; omega
        have holds : ∀ j u, xs[j]? = some u → w.cell? ((⟨g0, 0, none⟩ : Addr).add j) = some u := hown.cells (g := g0) rfl
        have s1 := run_append_grow (P := P) w t ty e i z ht hi hz ⟨g0, 0, none⟩ n cap0 xs hown.1 holds a m cap ys hl hy (by omega) (by omega) (growslice_fits (by omega) hbytes)
        rw [r1] at s1
        injection s1 with s1 _
        subst s1
        simp only [Value.ownBlock, Option.some.injEq] at hg
        exact .inr (by omega)
  rcases hx with ⟨rfl, h | ⟨a, cap, h⟩⟩ | ⟨g, off, cap, h, hc⟩
  · exact none_case rfl h
  · refine some_case a cap h fun j u hu => ?_
    have e0 : ys = [] := List.eq_nil_of_length_eq_zero (by simpa using hl)
    subst e0
    simp at hu
  · refine some_case _ cap h fun j u hu => ?_
    have hj : j < ys.length := (List.getElem?_eq_some_iff.1 hu).1
    rw [Addr.add_mid, hc j (by omega), List.getD_eq_getElem?_getD, hu]
    rfl
theorem cu {w : World} {base sz n : Nat} {e : TypeId} {v : Value} {xs : List Value} (h : w.ownsRow base e sz v n xs) : aA v = v.ownBlock := by
  rcases h.2 with ⟨rfl, _⟩ | ⟨g, cap, cur, rfl, _⟩ <;> rfl
theorem RelH.grown (rel : RelH F H σ w) (id : Nat) (b : Blk) (hid : H id = some b) (hb : b.live) (ver' sz n m : Nat) (hver : b.ver < ver') (e : TypeId) (f : Nat → List AV) (xs ys : List Value) (v' : Value) (w' : World) (hsz : 0 < sz)
    (hown : w.ownsRow 0 e sz (σ id) n xs) (hown' : w'.ownsRow 0 e sz v' (n + m) (xs ++ ys)) (hg : w.grownBy w' (σ id).ownBlock) (hblk : ∀ g, v'.ownBlock = some g → (σ id).ownBlock = some g ∨ w.heap.size ≤ g)
    (hf : ∀ k, k < n + m → (f k).length = sz) (hc : ∀ k j, k < n + m → j < sz → PR w (Mut F H σ) ((f k).getD j .undef) ((xs ++ ys).getD (k * sz + j) Go.undef) ∧ ((xs ++ ys).getD (k * sz + j) Go.undef).oneCell' = true) :
    Now F w H σ w' (upd H id (some (.row ver' sz (n + m) e f))) (upd σ id v') := by
  refine rel.chg id _ v' hg.os hg.tape hg.output hg.size (fun g hl hk => hg.block g hl fun e => ?_) (fun g _ h => ?_) (fun b' h => ?_) (fun G => ?_)
  · refine hk b hid hb ?_
    rw [cu hown, ← e]
  · rw [cu hown'] at h
    refine ⟨(hown'.lt g h).2, (hblk g h).elim (fun h2 => .inr ⟨b, hid, hb, by rw [cu hown]; exact h2⟩) .inl⟩
  · rw [hid] at h; injection h with h; subst h
    refine ⟨Nat.le_of_lt hver, fun e => by have e : ver' = b.ver := e; omega, fun g h => ?_⟩
    rcases hown.2 with ⟨h2, _⟩ | ⟨g0, cap0, cur0, h2, _⟩ <;> rw [h] at h2 <;> cases h2
  · exact ⟨xs ++ ys, hsz, by rw [upd_same]; exact hown', hf, fun k j hk hj => ⟨(hc k j hk hj).1.grow G.keep G.mutd, (hc k j hk hj).2⟩⟩
theorem RelH.grownL (rel : RelH F H σ w) (id : Nat) (b : Blk) (hid : H id = some b) (hb : b.live) (ver' sz n m : Nat) (hver : b.ver < ver') (e : TypeId) (cells : List AV) (xs ys : List Value) (v' : Value) (w' : World) (hsz : 0 < sz) (hn0 : 0 < n + m)
    (hown : w.ownsRow 0 e sz (σ id) n xs) (hown' : w'.ownsRow 0 e sz v' (n + m) (xs ++ ys)) (hg : w.grownBy w' (σ id).ownBlock) (hblk : ∀ g, v'.ownBlock = some g → (σ id).ownBlock = some g ∨ w.heap.size ≤ g)
    (hcl : cells.length = (n + m) * sz) (hc : ∀ j, j < (n + m) * sz → VR w (Mut F H σ) σ (Ver H) (cells.getD j .undef) ((xs ++ ys).getD j Go.undef) ∧ ((xs ++ ys).getD j Go.undef).oneCell' = true) :
    Now F w H σ w' (upd H id (some (.lrow ver' sz (n + m) e cells))) (upd σ id v') := by
  refine rel.chg id _ v' hg.os hg.tape hg.output hg.size (fun g hl hk => hg.block g hl fun e => ?_) (fun g _ h => ?_) (fun b' h => ?_) (fun G => ?_)
  · refine hk b hid hb ?_
    rw [cu hown, ← e]
  · rw [cu hown'] at h
    refine ⟨(hown'.lt g h).2, (hblk g h).elim (fun h2 => .inr ⟨b, hid, hb, by rw [cu hown]; exact h2⟩) .inl⟩
  · rw [hid] at h; injection h with h; subst h
    refine ⟨Nat.le_of_lt hver, fun e => by have e : ver' = b.ver := e; omega, fun g h => ?_⟩
    rcases hown.2 with ⟨h2, _⟩ | ⟨g0, cap0, cur0, h2, _⟩ <;> rw [h] at h2 <;> cases h2
  · exact ⟨xs ++ ys, hsz, hn0, by rw [upd_same]; exact hown', hcl, fun j hj => ⟨(hc j hj).1.grow G, (hc j hj).2⟩⟩
end
end Go.Proofs.YtimkpfnbkclclaaGreat.Ab
namespace Go.Proofs.YtimkpfnbkclclaaGreat.Ab
open Go
theorem bf {α : Type} {p : α → Bool} {l : List α} : allB p l = true ↔ ∀ x ∈ l, p x = true := by
  induction l with
  | nil => simp [allB]
  | cons x xs ih =>
    unfold allB
    cases h : p x <;> simp [h, ih]
section
variable {w : World} {M : Nat → Prop} {σ : Nat → Value} {V : Nat → Option Nat}
def mM (w : World) (M : Nat → Prop) (σ : Nat → Value) (V : Nat → Option Nat) (cells : List AV) (vs : Array Value) : Prop :=
  vs.size = cells.length ∧ ∀ j, j < cells.length → VR w M σ V (cells.getD j .undef) (vs.getD j Go.undef) ∧ (vs.getD j Go.undef).oneCell' = true
theorem VR.cells {x : AV} {v : Value} (h : VR w M σ V x v) (h1 : allB AV.one x.cells = true) : mM w M σ V x.cells v.cells := by
  by_cases hx : ∃ cs, x = .agg cs
  · obtain ⟨cs, rfl⟩ := hx
    obtain ⟨vs, rfl, hl, hc⟩ := h.agg_inv
    refine ⟨hl, fun j hj => ⟨hc j hj, (hc j hj).one ?_⟩⟩
    refine bf.1 h1 _ ?_
    have hj : j < cs.length := hj
    rw [List.getD_eq_getElem?_getD, List.getElem?_eq_getElem hj]
    exact List.getElem_mem hj
  · have hc : x.cells = [x] := by cases x <;> first | rfl | exact absurd ⟨_, rfl⟩ hx
    rw [hc] at h1 ⊢
    have ho := h.one (bf.1 h1 x (by simp))
    have hv : v.cells = #[v] := by cases v <;> first | rfl | simp [Value.oneCell'] at ho
    rw [hv]
    refine ⟨rfl, fun j hj => ?_⟩
    obtain rfl : j = 0 := by simp at hj; omega
    exact ⟨h, ho⟩
theorem dw : ∀ (zs : List ZC) (c : Nat), (aG zs c).length = zs.length := by
  intro zs
  induction zs with
  | nil => intro c; rfl
  | cons z zs ih => intro c; cases z <;> simp [aG, ih]
theorem eB : ∀ (zs : List ZC), (aC zs).length = zs.length := by
  intro zs
  induction zs with
  | nil => rfl
  | cons z zs ih => cases z <;> simp [aC, ih]
theorem jq (v : Value) : (∃ k, zcOf v = .int k ∧ v = .int k 0) ∨ (zcOf v = .bool ∧ v = .bool false) ∨ (zcOf v = .nilp ∧ v = .pointer none) ∨ (zcOf v = .nilsl ∧ v = .slice none 0 0) ∨ (zcOf v = .str ∧ v = .string ⟨#[]⟩) ∨ zcOf v = .raw v := by
  unfold zcOf
  split
  · exact .inl ⟨_, rfl, rfl⟩
  · exact .inr (.inl ⟨rfl, rfl⟩)
  · exact .inr (.inr (.inl ⟨rfl, rfl⟩))
  · exact .inr (.inr (.inr (.inl ⟨rfl, rfl⟩)))
  · exact .inr (.inr (.inr (.inr (.inl ⟨rfl, rfl⟩))))
  · exact .inr (.inr (.inr (.inr (.inr rfl))))
theorem iD : ∀ (vals : List Value) (c : Nat), (∀ j, j < aB (vals.map zcOf) → VR w M σ V (.own (c + j) 0) (.slice none 0 0)) →
    ∀ j, j < vals.length → VR w M σ V ((aG (vals.map zcOf) c).getD j .undef) (vals.getD j Go.undef) := by
  intro vals
  induction vals with
  | nil => intro c _ j hj; simp at hj
  | cons v vals ih =>
    intro c hown j hj
    simp only [List.map_cons] at hown ⊢
    have step : ∀ (x : AV), VR w M σ V x v → (∀ j, j < aB (vals.map zcOf) → VR w M σ V (.own (c + j) 0) (.slice none 0 0)) → VR w M σ V ((x :: aG (vals.map zcOf) c).getD j .undef) ((v :: vals).getD j Go.undef) := by
      intro x hx ho
      cases j with
      | zero => exact hx
      | succ j => simpa using ih c ho j (by simpa using hj)
    rcases jq v with ⟨k, e, rfl⟩ | ⟨e, rfl⟩ | ⟨e, rfl⟩ | ⟨e, rfl⟩ | ⟨e, rfl⟩ | e <;> rw [e] at hown ⊢
    · exact step _ (.pure (.int _ _)) hown
    · exact step _ (.pure (.bool _)) hown
    · exact step _ (.pure .nilp) hown
    · simp only [aG, aB] at hown ⊢
      cases j with
      | zero => exact hown 0 (by omega)
      | succ j =>
        have := ih (c + 1) (fun j hj => by have := hown (j + 1) (by omega); rwa [show c + (j + 1) = c + 1 + j by omega] at this) j (by simpa using hj)
        simpa using this
    · exact step _ (.pure (.str _)) hown
    · exact step _ (.pure (.raw _)) hown
theorem eF : ∀ (vals : List Value), ∀ j, j < vals.length → PR w M ((aC (vals.map zcOf)).getD j .undef) (vals.getD j Go.undef) := by
  intro vals
  induction vals with
  | nil => intro j hj; simp at hj
  | cons v vals ih =>
    intro j hj
    simp only [List.map_cons]
    have step : ∀ (x : AV), PR w M x v → PR w M ((x :: aC (vals.map zcOf)).getD j .undef) ((v :: vals).getD j Go.undef) := by
      intro x hx
      cases j with
      | zero => exact hx
      | succ j => simpa using ih j (by simpa using hj)
    rcases jq v with ⟨k, e, rfl⟩ | ⟨e, rfl⟩ | ⟨e, rfl⟩ | ⟨e, rfl⟩ | ⟨e, rfl⟩ | e <;> rw [e]
    · exact step _ (.int _ _)
    · exact step _ (.bool _)
    · exact step _ .nilp
    · exact step _ (.slc0 _ _ _ (.inl rfl))
    · exact step _ (.str _)
    · exact step _ (.raw _)
end
section
variable {P : Program} {F : Fr} {H : Nat → Option Blk} {σ : Nat → Value} {o : Oper} {a : Act} {w : World} {c : Nat}
theorem nD {E : Env} {d : Option Nat} (rel : RelH F H σ w) (hrun : (execOp a.eval o).run P w = .ok (.value (.slice none 0 0)) w) (hn : H c = none) : Good P F H σ o a w c (jM E d c) := by
  have new : Good P F H σ o a w c (.ret (.of ⟨.own c 0, [], [.nilrow 0]⟩)) := by
    refine .ret fun _ _ _ => ?_
    have h1 := rel.addNil c hn
    exact .step (H' := upd H c (some (.nilrow 0))) _ w _ rfl hrun h1 (.own c 0 0 _ rfl (by simp [Ver, Blk.ver]) (Nat.le_refl _) (fun _ => by simp))
  unfold jM
  cases d with
  | none => exact new
  | some t =>
    dsimp only
    split
    · rename_i i l he
      cases Nat.beq i c with
      | true => exact new
      | false =>
        refine .look fun b hb => ?_
        cases b with
        | nilrow v => exact .val rel _ hrun (.own i v v _ rfl (ak hb) (Nat.le_refl _) (fun _ => (rel.bl i _ hb).symm))
        | _ => exact .fail
    · exact new
theorem l7 {E : Env} {d : Option Nat} {x : Operand} {y : AV} (ho : o.op = .move x ∨ o.op = .assign x) (rel : RelH F H σ w) (hx : VR w (Mut F H σ) σ (Ver H) y (a.eval x)) (hn : H c = none) :
    Good P F H σ o a w c (match aM x with | true => jM E d c | false => .ret (.val y)) := by
  have hrun : (execOp a.eval o).run P w = .ok (.value (a.eval x)) w := by
    rcases ho with ho | ho <;> simp [execOp, ho]
  cases hb : aM x with
  | false => exact .val rel _ hrun hx
  | true =>
    have he : a.eval x = .slice none 0 0 := by
      unfold aM at hb
      split at hb
      · rfl
      · cases hb
    rw [he] at hrun
    exact nD rel hrun hn
theorem cO (w : World) (cs : Array Value) (T : TypeId) : (newRow T cs).run P w = .ok ⟨w.heap.size, 0, none⟩ (w.alloc (.cells cs T)) := by
  simp [newRow]
theorem nk {T : TypeId} {ti : TI} (ho : o.op = .alloc T) (ht : ttOf P T = some ti) (rel : RelH F H σ w) (hn : ∀ j, j < 64 → H (c + j) = none) :
    Good P F H σ o a w c (.ret (.of ⟨.ptr c 0, [], .var (aG ti.zero (c + 1)) :: aJ (aB ti.zero)⟩)) := by
  obtain ⟨i, d, z, h1, h2, h3, h4, h5, h6⟩ := ay ht
  have hz : ti.zero = z.cells.toList.map zcOf := by rw [h4]
  refine .ret64 fun _ _ _ hlen => ?_
  have hlen : aB ti.zero < 64 := by simp only [EffG.of, List.length_cons, jX] at hlen; omega
  obtain ⟨σ1, n1, n2⟩ := rel.addNils (aB ti.zero) (c + 1) (fun j hj => by rw [show c + 1 + j = c + (j + 1) by omega]; exact hn (j + 1) (by omega))
  have hc0 : ups H (number (c + 1) (aJ (aB ti.zero))) c = none := by
    rw [aL (fun p hp => by have := (dU p hp).1; omega)]
    simpa using hn 0 (by omega)
  have n3 := n1.1.addVar c hc0 (aG ti.zero (c + 1)) z.cells T (by rw [dw, hz]; simp) (fun j hj => by
    rw [dw, hz, List.length_map, Array.length_toList] at hj
    have e : z.cells.getD j Go.undef = z.cells.toList.getD j Go.undef := by simp [List.getD_eq_getElem?_getD, Array.getD_eq_getD_getElem?]
    rw [hz, e]
    refine ⟨iD z.cells.toList (c + 1) (fun j hj => ?_) j (by simpa using hj), h5 _ ?_⟩
    · rw [← hz] at hj
      obtain ⟨e1, e2⟩ := n2 j hj
      exact .own _ 0 0 _ rfl (by rw [Ver, ← hz, e1]; rfl) (Nat.le_refl _) (fun _ => e2.symm)
    · rw [List.getD_eq_getElem?_getD, List.getElem?_eq_getElem (by simpa using hj)]
      exact List.getElem_mem _)
  refine .step (v := .pointer (some ⟨w.heap.size, 0, none⟩)) (w' := w.alloc (.cells z.cells T)) _ ?_ (bV (s := Instr.alloc T true (.tuple #[])) (by simp [execOp, ho]) ?_) (n1.trans n3) ?_
  · show ups (upd H c _) _ = _
    rw [mJ (fun p hp => by have := (dU p hp).1; omega)]
  · simp [Instr.alloc, zeroValue, typeInfo, h1, h3, newVar, cO]
  · exact .ptr c 0 w.heap.size 0 (by simp [Ver, Blk.ver]) (by simp)
theorem pz {T : TypeId} {x : Operand} {y : AV} (ho : o.op = .box T x) (rel : RelH F H σ w) (hx : VR w (Mut F H σ) σ (Ver H) y (a.eval x)) (hn : ∀ j, j < 64 → H (c + j) = none) :
    Good P F H σ o a w c (match aM x with
      | true => .ret (.of ⟨.ptr c 0, [], [.var [.own (c + 1) 0], .nilrow 0]⟩)
      | false => match allB AV.one y.cells with
        | true => .ret (.of ⟨.ptr c 0, [], [.var y.cells]⟩)
        | false => .fail) := by
  have hrun : (execOp a.eval o).run P w = .ok (.value (.pointer (some ⟨w.heap.size, 0, none⟩))) (w.alloc (.cells (a.eval x).cells T)) := by
    refine bV (s := Instr.box T (a.eval x)) (by simp [execOp, ho]) ?_
    simp [Instr.box, newVar, cO]
  have hc0 : H c = none := by simpa using hn 0 (by omega)
  cases hb : aM x with
  | false =>
    cases h1 : allB AV.one y.cells with
    | false => exact .fail
    | true =>
      refine .ret fun _ _ _ => ?_
      obtain ⟨hl, hc⟩ := hx.cells h1
      exact .step (H' := upd H c (some (.var y.cells))) _ _ _ rfl hrun (rel.addVar c hc0 y.cells (a.eval x).cells T hl hc) (.ptr c 0 w.heap.size 0 (by simp [Ver, Blk.ver]) (by simp))
  | true =>
    have he : a.eval x = .slice none 0 0 := by
      unfold aM at hb
      split at hb
      · rfl
      · cases hb
    refine .ret fun _ _ _ => ?_
    have n1 := rel.addNil (c + 1) (hn 1 (by omega))
    have n2 := n1.1.addVar c (by rw [upd_ne _ _ (by omega)]; exact hc0) [.own (c + 1) 0] (a.eval x).cells T (by rw [he]; rfl) (fun j hj => by
      obtain rfl : j = 0 := by simp at hj; omega
      rw [he]
      exact ⟨.own (c + 1) 0 0 (.slice none 0 0) rfl (by simp [Ver, Blk.ver]) (Nat.le_refl _) (fun _ => (upd_same _ _ _).symm), rfl⟩)
    refine .step (H' := upd (upd H (c + 1) (some (.nilrow 0))) c (some (.var [.own (c + 1) 0]))) _ _ _ ?_ hrun (n1.trans n2) (.ptr c 0 w.heap.size 0 (by simp [Ver, Blk.ver]) (by simp))
    show upd (upd H c _) (c + 1) _ = _
    rw [iV _ _ _ (by omega)]
theorem Good.gI {v : AV} {k : AV → List (Nat × Blk) → LM EffG} {x : Value} (rel : RelH F H σ w) (hx : VR w (Mut F H σ) σ (Ver H) v x)
    (h : ∀ v' u, (∀ p ∈ u, ∃ b, H p.1 = some b ∧ b.live ∧ p.2 = .dead (b.ver + 1)) →
      (∀ M' : Nat → Prop, (∀ g, M' g → Mut F H σ g) → (∀ p ∈ u, ∀ g, aA (σ p.1) = some g → ¬ M' g) → PR w M' v' x) → x.oneCell' = true → Good P F H σ o a w c (k v' u)) : Good P F H σ o a w c (Ab.gI v k) := by
  by_cases hv : ∃ id ver, v = .own id ver
  · obtain ⟨id, ver, rfl⟩ := hv
    refine .look fun b hb => ?_
    cases b with
    | row ver' sz n e f =>
      cases hq : Nat.beq ver ver' with
      | false => simp only [hq]; exact .fail
      | true =>
        obtain rfl := Nat.eq_of_beq_eq_true hq
        simp only [hq]
        have hval := hx.own_inv (ak hb)
        refine h _ _ (fun p hp => ?_) (fun M' hM hnot => ?_) (hx.one rfl)
        · simp only [List.mem_singleton] at hp; subst hp; exact ⟨_, hb, trivial, rfl⟩
        · rw [hval]
          exact (rel.bl id _ hb).row_slc hM (fun g hg => hnot (id, .dead (ver + 1)) (List.mem_singleton.2 rfl) g hg)
    | nilrow ver' =>
      cases hq : Nat.beq ver ver' with
      | false => simp only [hq]; exact .fail
      | true =>
        obtain rfl := Nat.eq_of_beq_eq_true hq
        simp only [hq]
        have hval := hx.own_inv (ak hb)
        refine h _ _ (fun p hp => ?_) (fun M' hM hnot => ?_) (hx.one rfl)
        · simp only [List.mem_singleton] at hp; subst hp; exact ⟨_, hb, trivial, rfl⟩
        · have hnil : σ id = .slice none 0 0 := rel.bl id _ hb
          rw [hval, hnil]
          exact .slc0 _ _ _ (.inl rfl)
    | _ => exact .fail
  · have e : Ab.gI v k = match v.plain with | true => k v [] | false => .fail := by cases v <;> first | rfl | exact absurd ⟨_, _, rfl⟩ hv
    rw [e]
    cases hp : v.plain with
    | false => exact .fail
    | true =>
      have h1 : v.one = true := by cases v <;> first | rfl | simp [AV.plain] at hp
      refine h v [] (fun p hp => by cases hp) (fun M' hM _ => ?_) (hx.one h1)
      cases hx with
      | pure hx => exact hx.grow (fun _ _ _ => rfl) (fun g _ hg => hM g hg)
      | _ => simp [AV.plain] at hp
theorem Good.cB (rel : RelH F H σ w) : ∀ (xs : List AV) (us : List Value), us.length = xs.length → (∀ j, j < xs.length → VR w (Mut F H σ) σ (Ver H) (xs.getD j .undef) (us.getD j Go.undef)) →
    ∀ k : List AV → List (Nat × Blk) → LM EffG, (∀ xs' u, xs'.length = xs.length → (∀ p ∈ u, ∃ b, H p.1 = some b ∧ b.live ∧ p.2 = .dead (b.ver + 1)) →
      (∀ M' : Nat → Prop, (∀ g, M' g → Mut F H σ g) → (∀ p ∈ u, ∀ g, aA (σ p.1) = some g → ¬ M' g) → ∀ j, j < xs.length → PR w M' (xs'.getD j .undef) (us.getD j Go.undef) ∧ (us.getD j Go.undef).oneCell' = true) →
      Good P F H σ o a w c (k xs' u)) → Good P F H σ o a w c (Ab.cB xs k) := by
  intro xs
  induction xs with
  | nil => intro us hl _ k h; exact h [] [] rfl (fun p hp => by cases hp) (fun _ _ _ j hj => by simp at hj)
  | cons x xs ih =>
    intro us hl hc k h
    obtain ⟨u0, us, rfl⟩ : ∃ u us', us = u :: us' := by cases us with
      | nil => simp at hl
      | cons u us' => exact ⟨u, us', rfl⟩
    refine Good.gI rel (x := u0) (by simpa using hc 0 (by simp)) fun v' u1 a1 a2 a3 => ?_
    refine ih us (by simpa using hl) (fun j hj => by simpa using hc (j + 1) (by simpa using hj)) _ fun xs' u2 b0 b1 b2 => ?_
    refine h (v' :: xs') (u1 ++ u2) (by simp [b0]) (fun p hp => ?_) (fun M' hM hnot j hj => ?_)
    · rcases List.mem_append.1 hp with hp | hp
      · exact a1 p hp
      · exact b1 p hp
    · cases j with
      | zero => exact ⟨a2 M' hM (fun p hp => hnot p (List.mem_append.2 (.inl hp))), a3⟩
      | succ j =>
        have := b2 M' hM (fun p hp => hnot p (List.mem_append.2 (.inr hp))) j (by simpa using hj)
        simpa using this
theorem l5 {T : TypeId} {x y : Operand} {ti : TI} (ho : o.op = .store T x y) (ht : ttOf P T = some ti) (rel : RelH F H σ w) (hn : ∀ j, j < 64 → H (c + j) = none) {p q : AV} (hx : VR w (Mut F H σ) σ (Ver H) p (a.eval x)) (hy : VR w (Mut F H σ) σ (Ver H) q (a.eval y)) :
    Good P F H σ o a w c (match aM y with
      | true => gZ ti p [.own c 0] [.nilrow 0]
      | false => gZ ti p q.cells []) := by
  obtain ⟨i, d, z, h1, h2, h3, h4, h5, h6⟩ := ay ht
  have hs : ti.size = i.size := by rw [h4]
  have hrun : ∀ w', (Instr.storeAt T (a.eval x) (a.eval y)).run P w = .ok () w' → (execOp a.eval o).run P w = .ok .skip w' := fun w' h => qb (by simp [execOp, ho]) h
  cases hb : aM y with
  | true =>
    have he : a.eval y = .slice none 0 0 := by
      unfold aM at hb
      split at hb
      · rfl
      · cases hb
    have hc0 : H c = none := by simpa using hn 0 (by omega)
    unfold gZ
    cases hq : Nat.beq [AV.own c 0].length ti.size && allB AV.one [AV.own c 0] with
    | false => exact .fail
    | true =>
      dsimp only
      simp only [Bool.and_eq_true] at hq
      have hsz : ti.size = 1 := (Nat.eq_of_beq_eq_true hq.1).symm
      cases p with
      | ptr id off =>
        refine .look fun b hb => ?_
        cases b with
        | var cells =>
          cases hle : Nat.ble (off + ti.size) cells.length with
          | false => simp only [hle]; exact .fail
          | true =>
            simp only [hle]
            refine .ret fun _ _ _ => ?_
            have hne : id ≠ c := fun e => by rw [e, hc0] at hb; cases hb
            have n1 := rel.addNil c hc0
            obtain ⟨g, w', e1, e2, n2⟩ := n1.1.setVar (P := P) id cells (by rw [upd_ne _ _ hne]; exact hb) off [.own c 0] [.slice none 0 0] rfl (by have := Nat.le_of_ble_eq_true hle; simp; omega)
              (fun j hj => by
                obtain rfl : j = 0 := by simp at hj; omega
                exact ⟨.own c 0 0 _ rfl (by simp [Ver, Blk.ver]) (Nat.le_refl _) (fun _ => by simp), rfl⟩) T i h1 (by simp; omega) (.slice none 0 0) rfl
            obtain ⟨g', f1, f2, _⟩ := hx.ptr_inv
            rw [upd_ne _ _ hne, f1] at e1
            injection e1 with e1; injection e1 with e1; injection e1 with e1
            subst e1
            refine .skip w' _ ?_ (hrun w' (by rw [f2, he]; exact e2)) (n1.trans n2) rfl
            show upd (upd H id _) c _ = _
            rw [iV _ _ _ hne]
        | _ => exact .fail
      | rptr id ver sz k off =>
        refine .look fun b hb => ?_
        rw [hc0] at hb; cases hb
      | lptr id ver off => exact .fail
      | _ => exact .fail
  | false =>
    unfold gZ
    simp only [mG]
    cases hq : Nat.beq q.cells.length ti.size && allB AV.one q.cells with
    | false => exact .fail
    | true =>
      dsimp only
      simp only [Bool.and_eq_true] at hq
      have hsz : q.cells.length = ti.size := Nat.eq_of_beq_eq_true hq.1
      obtain ⟨hl, hcells⟩ := hy.cells hq.2
      have eg : ∀ j, (a.eval y).cells.toList.getD j Go.undef = (a.eval y).cells.getD j Go.undef := fun j => by simp [List.getD_eq_getElem?_getD, Array.getD_eq_getD_getElem?]
      cases p with
      | ptr id off =>
        refine .look fun b hb => ?_
        cases b with
        | var cells =>
          cases hle : Nat.ble (off + ti.size) cells.length with
          | false => simp only [hle]; exact .fail
          | true =>
            simp only [hle]
            refine .ret fun _ _ _ => ?_
            obtain ⟨g, w', e1, e2, n2⟩ := rel.setVar (P := P) id cells hb off q.cells (a.eval y).cells.toList (by simpa using hl) (by have := Nat.le_of_ble_eq_true hle; omega)
              (fun j hj => by rw [eg]; exact hcells j hj) T i h1 (by omega) (a.eval y) rfl
            obtain ⟨g', f1, f2, _⟩ := hx.ptr_inv
            rw [f1] at e1
            injection e1 with e1; injection e1 with e1; injection e1 with e1
            subst e1
            exact .skip w' _ rfl (hrun w' (by rw [f2]; exact e2)) n2 rfl
        | _ => exact .fail
      | rptr id ver sz k off =>
        refine Good.cB rel q.cells (a.eval y).cells.toList (by simpa using hl) (fun j hj => by rw [eg]; exact (hcells j hj).1) _ fun xs' u b0 b1 b2 => ?_
        refine .look fun b hb => ?_
        cases b with
        | row ver' sz' n e f =>
          cases hv : Nat.beq ver ver' && Nat.beq sz sz' && Nat.ble (off + ti.size) sz && ng [id] (u.map fun p => (p.1, 0)) with
          | false => simp only [hv]; exact .fail
          | true =>
            simp only [hv]
            simp only [Bool.and_eq_true] at hv
            obtain ⟨⟨⟨v1, v2⟩, v3⟩, v4⟩ := hv
            obtain rfl := Nat.eq_of_beq_eq_true v1
            obtain rfl := Nat.eq_of_beq_eq_true v2
            have hid : ∀ p ∈ u, p.1 ≠ id := by
              intro p hp e
              have := bf.1 v4 (p.1, 0) (List.mem_map.2 ⟨p, hp, rfl⟩)
              subst e
              simp [idx] at this
            refine .ret fun _ _ _ => ?_
            obtain ⟨n1, k1, k2⟩ := rel.kill u b1
            obtain ⟨g, n', cap, g1, g2, g3⟩ := hx.rptr_inv (ak hb)
            have hb' : ups H u id = some (.row ver sz n e f) := by rw [aL hid]; exact hb
            have hkn : k < n := by
              obtain ⟨h0, h2', xs0, h1', h3', h4'⟩ := (rel.bl id _ hb).row_cells
              rcases h1'.2 with ⟨h, _⟩ | ⟨g1', cap1, cur1, e1, _⟩
              · rw [g1] at h; cases h
              · rw [g1] at e1; injection e1 with _ e1; omega
            obtain ⟨w', e2, n2⟩ := n1.1.setRow (P := P) id ver sz n e f hb' g n' cap k off g1 hkn xs' (a.eval y).cells.toList (by rw [b0]; simpa using hl) (by rw [b0]; have := Nat.le_of_ble_eq_true v3; omega)
              (fun j hj => b2 _ k2 k1 j (by omega)) T i h1 (by omega) (a.eval y) rfl
            refine .skip w' _ ?_ (hrun w' (by rw [g3]; exact e2)) (n1.trans n2) rfl
            simp only [EffG.of, number, List.append_nil]
            show ups (upd H id _) u = _
            rw [mJ hid]
        | _ => exact .fail
      | lptr id ver off =>
        refine .look fun b hb => ?_
        cases b with
        | lrow ver' sz n e cells =>
          cases hv : Nat.beq ver ver' && Nat.ble (off + ti.size) cells.length with
          | false => simp only [hv]; exact .fail
          | true =>
            simp only [hv]
            simp only [Bool.and_eq_true] at hv
            obtain rfl := Nat.eq_of_beq_eq_true hv.1
            refine .ret fun _ _ _ => ?_
            obtain ⟨g, cap, w', e1, e2, n2⟩ := rel.setLrow (P := P) id ver sz n e cells hb off q.cells (a.eval y).cells.toList (by simpa using hl) (by have := Nat.le_of_ble_eq_true hv.2; omega)
              (fun j hj => by rw [eg]; exact hcells j hj) T i h1 (by omega) (a.eval y) rfl
            obtain ⟨g', n', cap', f1, f2⟩ := hx.lptr_inv (ak hb)
            rw [f1] at e1
            injection e1 with e1; injection e1 with e1; injection e1 with e1
            subst e1
            exact .skip w' _ rfl (hrun w' (by rw [f2]; exact e2)) n2 rfl
        | _ => exact .fail
      | _ => exact .fail
end
end Go.Proofs.YtimkpfnbkclclaaGreat.Ab
namespace Go.Proofs.YtimkpfnbkclclaaGreat.Ab
open Go
theorem foldl_set (off : Nat) : ∀ (l : List Value) (k : Nat) (cs : Array Value), off + k + l.length ≤ cs.size →
    ((l.zipIdx k).foldl (fun cs p => cs.setIfInBounds (off + p.2) p.1) cs).size = cs.size ∧
    ∀ j, ((l.zipIdx k).foldl (fun cs p => cs.setIfInBounds (off + p.2) p.1) cs).getD j Go.undef = if off + k ≤ j ∧ j < off + k + l.length then l.getD (j - (off + k)) Go.undef else cs.getD j Go.undef := by
  intro l
  induction l with
  | nil => intro k cs _; exact ⟨rfl, fun j => by rw [if_neg (by simp only [List.length_nil]; omega)]; rfl⟩
  | cons v l ih =>
    intro k cs hl
    simp only [List.zipIdx_cons, List.foldl_cons]
    simp only [List.length_cons] at hl
    obtain ⟨h1, h2⟩ := ih (k + 1) (cs.setIfInBounds (off + k) v) (by simp; omega)
    refine ⟨by rw [h1]; simp, fun j => ?_⟩
    rw [h2 j]
    by_cases c1 : j = off + k
    · subst c1
      rw [if_neg (by omega), if_pos (by simp)]
      have : off + k < cs.size := by omega
      simp [Array.getD, this]
    · by_cases c2 : off + (k + 1) ≤ j ∧ j < off + (k + 1) + l.length
      · rw [if_pos c2, if_pos (by simp; omega), show j - (off + k) = (j - (off + (k + 1))) + 1 by omega]
        simp
      · rw [if_neg c2, if_neg (by simp; omega)]
        simp only [Array.getD_eq_getD_getElem?]
        rw [Array.getElem?_setIfInBounds_ne (by omega)]
section
variable {w : World} {M : Nat → Prop} {σ : Nat → Value} {V : Nat → Option Nat}
theorem jQ (a : Act) (ρ : Operand → AV) (hρ : ∀ x, VR w M σ V (ρ x) (a.eval x)) (placeA placeR : Nat → Option (Nat × Nat)) (hpl : ∀ i p, placeA i = some p → placeR i = some p) :
    ∀ (ps : List (Nat × Operand)) (cells : List AV) (vs : Array Value) (cells' : List AV), vs.size = cells.length → (∀ j, j < cells.length → VR w M σ V (cells.getD j .undef) (vs.getD j Go.undef) ∧ (vs.getD j Go.undef).oneCell' = true) →
      bq (ps.map fun p => (p.1, ρ p.2)) cells 0 placeA = some cells' →
      ∃ vs', Instr.fill placeR vs (ps.map fun p => (p.1, a.eval p.2)) = some vs' ∧ vs'.size = cells'.length ∧ cells'.length = cells.length ∧ ∀ j, j < cells'.length → VR w M σ V (cells'.getD j .undef) (vs'.getD j Go.undef) ∧ (vs'.getD j Go.undef).oneCell' = true := by
  intro ps
  induction ps with
  | nil =>
    intro cells vs cells' hl hc h
    simp only [List.map_nil, bq, Option.some.injEq] at h
    subst h
    exact ⟨vs, rfl, hl, rfl, hc⟩
  | cons p ps ih =>
    intro cells vs cells' hl hc h
    simp only [List.map_cons, bq] at h
    cases hp : placeA p.1 with
    | none => simp [hp] at h
    | some q =>
      obtain ⟨off, size⟩ := q
      simp only [hp] at h
      cases hb : Nat.beq (ρ p.2).cells.length size && Nat.ble (off + size) cells.length && allB AV.one (ρ p.2).cells with
      | false => simp [hb] at h
      | true =>
        simp only [hb] at h
        simp only [Bool.and_eq_true] at hb
        obtain ⟨⟨b1, b2⟩, b3⟩ := hb
        have b1 := Nat.eq_of_beq_eq_true b1
        have b2 := Nat.le_of_ble_eq_true b2
        obtain ⟨c1, c2⟩ := (hρ p.2).cells b3
        have e1 : (a.eval p.2).cells.toList.zipIdx = (a.eval p.2).cells.zipIdx.toList := by simp
        obtain ⟨f1, f2⟩ := foldl_set off (a.eval p.2).cells.toList 0 vs (by simp; omega)
        have hlen : (setAt cells off (ρ p.2).cells).length = cells.length := by simp [setAt]; omega
        obtain ⟨vs', g1, g2, g3, g4⟩ := ih (setAt cells off (ρ p.2).cells) _ cells' (by rw [f1, hlen, hl]) (fun j hj => by
          rw [hlen] at hj
          rw [f2 j, gL (by omega)]
          by_cases hin : off ≤ j ∧ j < off + (ρ p.2).cells.length
          · rw [if_pos hin, if_pos (by simp; omega)]
            have := c2 (j - off) (by omega)
            have e : (a.eval p.2).cells.toList.getD (j - (off + 0)) Go.undef = (a.eval p.2).cells.getD (j - off) Go.undef := by simp [List.getD_eq_getElem?_getD, Array.getD_eq_getD_getElem?]
            rw [e]
            exact this
          · rw [if_neg hin, if_neg (by simp; omega)]
            exact hc j hj) h
        refine ⟨vs', ?_, g2, by rw [g3, hlen], g4⟩
        simp only [List.map_cons, Instr.fill, hpl _ _ hp]
        rw [if_neg (by simp; omega), ← Array.foldl_toList, ← e1]
        exact g1
end
theorem jI {P : Program} {w : World} : ∀ (fs : List Field), (∀ f ∈ fs, ∃ i, P.info? f.type = some i) →
    (fs.mapM fun f => do pure (f.offset, ← sizeOf f.type) : Sem (List (Nat × Nat))).run P w = .ok (fs.map fun f => (f.offset, P.cellsOf f.type)) w := by
  intro fs
  induction fs with
  | nil => intro _; simp
  | cons f fs ih =>
    intro h
    obtain ⟨i, hi⟩ := h f (by simp)
    have := ih (fun g hg => h g (by simp [hg]))
    simp only [List.mapM_cons, Sem.run_bind, run_sizeOf hi, Result.andThen_ok, Sem.run_pure, this, List.map_cons]
    simp [Program.cellsOf, hi]
section
variable {P : Program} {F : Fr} {H : Nat → Option Blk} {σ : Nat → Value} {o : Oper} {a : Act} {w : World} {c : Nat}
theorem ny {T : TypeId} {parts : Array (Nat × Operand)} {ti : TI} {fs : List (Nat × TypeId)} {cells : List AV} {ρ : Operand → AV} (ho : o.op = .build T parts) (ht : ttOf P T = some ti) (hk : ti.kind = .struct fs) (hall : allB (fun p : Nat × TypeId => (ttOf P p.2).isSome) fs = true)
    (rel : RelH F H σ w) (hρ : ∀ x, VR w (Mut F H σ) σ (Ver H) (ρ x) (a.eval x)) (hn : ∀ j, j < 64 → H (c + j) = none)
    (hf : bq (parts.toList.map fun p => (p.1, ρ p.2)) (aG ti.zero c) 0 (fun i => (bg (ttOf P) T i).map fun p => (p.1, p.2.size)) = some cells) :
    Good P F H σ o a w c (.ret (.of ⟨.agg cells, [], aJ (aB ti.zero)⟩)) := by
  obtain ⟨i, d, z, h1, h2, h3, h4, h5, h6⟩ := ay ht
  have hz : ti.zero = z.cells.toList.map zcOf := by rw [h4]
  have hkd : kindOf d = .struct fs := by rw [h4] at hk; exact hk
  obtain ⟨fields, rfl, rfl⟩ := gy hkd
  refine .ret64 fun _ _ _ hlen => ?_
  have hlen : aB ti.zero ≤ 64 := by simp only [EffG.of, jX] at hlen; omega
  obtain ⟨σ1, n1, n2⟩ := rel.addNils (aB ti.zero) c (fun j hj => hn j (by omega))
  have hzc : ∀ j, j < (aG ti.zero c).length → VR w (Mut F (ups H (number c (aJ (aB ti.zero)))) σ1) σ1 (Ver (ups H (number c (aJ (aB ti.zero))))) ((aG ti.zero c).getD j .undef) (z.cells.getD j Go.undef) ∧ (z.cells.getD j Go.undef).oneCell' = true := by
    intro j hj
    rw [dw, hz, List.length_map, Array.length_toList] at hj
    have e : z.cells.getD j Go.undef = z.cells.toList.getD j Go.undef := by simp [List.getD_eq_getElem?_getD, Array.getD_eq_getD_getElem?]
    rw [e]
    refine ⟨?_, h5 _ ?_⟩
    · rw [show aG ti.zero c = aG (z.cells.toList.map zcOf) c by rw [hz]]
      refine iD z.cells.toList c (fun j hj => ?_) j (by simpa using hj)
      rw [← hz] at hj
      obtain ⟨e1, e2⟩ := n2 j hj
      exact .own _ 0 0 _ rfl (by rw [Ver, e1]; rfl) (Nat.le_refl _) (fun _ => e2.symm)
    · rw [List.getD_eq_getElem?_getD, List.getElem?_eq_getElem (by simpa using hj)]
      exact List.getElem_mem _
  have hplaces := jI (P := P) (w := w) fields.toList (fun f hf' => by
    have := bf.1 hall (f.offset, f.type) (List.mem_map.2 ⟨f, hf', rfl⟩)
    obtain ⟨ti', ht'⟩ := Option.isSome_iff_exists.1 this
    obtain ⟨i', _, _, k1, _⟩ := ay ht'
    exact ⟨i', k1⟩)
  obtain ⟨vs', g1, g2, g3, g4⟩ := jQ a ρ (fun x => (hρ x).grow n1.2) _ ((fields.map fun f => (f.offset, P.cellsOf f.type))[·]?) (fun i p hp => by
    obtain ⟨q, hq, rfl⟩ := Option.map_eq_some_iff.1 hp
    obtain ⟨off, fi⟩ := q
    obtain ⟨fields', f, k1, k2, k3, k4, k5⟩ := dZ hq
    rw [h2] at k1; injection k1 with k1; injection k1 with k1; subst k1
    obtain ⟨i', d', z', q1, _, _, q4, _⟩ := ay k4
    simp [k2, k3, Program.cellsOf, q1, q4]) parts.toList (aG ti.zero c) z.cells cells (by rw [dw, hz]; simp) hzc hf
  refine .step (H' := ups H (number c (aJ (aB ti.zero)))) (.agg vs') w σ1 rfl (bV (s := Instr.build T (parts.map fun (i, x) => (i, a.eval x))) (by simp [execOp, ho]) ?_) n1 (.agg _ _ g2 fun j hj => (g4 j hj).1)
  have e2 : (parts.map fun (p : Nat × Operand) => (p.1, a.eval p.2)).toList = parts.toList.map fun p => (p.1, a.eval p.2) := by simp
  have hpl : (fields.mapM fun f => do pure (f.offset, ← sizeOf f.type) : Sem (Array (Nat × Nat))).run P w = .ok (fields.map fun f => (f.offset, P.cellsOf f.type)) w := by
    rw [Array.mapM_eq_mapM_toList, Sem.run_map, hplaces]
    simp only [Result.andThen_ok]
    congr 1
    apply Array.ext'
    simp
  unfold Instr.build
  simp only [Sem.run_bind, zeroValue, typeInfo, run_program, h1, Result.andThen_ok, Sem.run_pure, h3, run_underlying h2, hpl]
  have e3 : (parts.map fun x => match x with | (i, x) => (i, a.eval x)).toList = parts.toList.map fun p => (p.1, a.eval p.2) := by simp
  rw [e3, g1]
  rfl
theorem ok_slice {T : TypeId} {x : Operand} {lo hi : Option Operand} {ei : TypeId × TI} {y : AV} {ρ : Operand → AV} (ho : o.op = .slice T x lo hi none) (ht : aO (ttOf P) T = some ei) (rel : RelH F H σ w) (hρ : ∀ x, VR w (Mut F H σ) σ (Ver H) (ρ x) (a.eval x)) (u : List (Nat × Blk)) (hu : ∀ p ∈ u, ∃ b, H p.1 = some b ∧ b.live ∧ p.2 = .dead (b.ver + 1))
    (hx : ∀ M' : Nat → Prop, (∀ g, M' g → Mut F H σ g) → (∀ p ∈ u, ∀ g, aA (σ p.1) = some g → ¬ M' g) → PR w M' y (a.eval x)) (hsz : ∀ sz n f, y = .slc sz n f → n = 0 ∨ sz = ei.2.size) :
    Good P F H σ o a w c (aslice y (lo.map ρ) (hi.map ρ) u) := by
  obtain ⟨e, ei⟩ := ei
  obtain ⟨hut, he, hsz0⟩ := bG ht
  obtain ⟨inf, d, z, h1, h2, h3, h4, _⟩ := ay he
  have hs : ei.size = inf.size := by rw [h4]
  obtain ⟨n1, k1, k2⟩ := rel.kill u hu
  have hp := hx _ k2 k1
  have key : ∀ sz n f l h m, y = .slc sz n f → l ≤ h → h ≤ n →
      (∀ cap, n ≤ cap → (Instr.sliceBounds true n cap (lo.map a.eval) (hi.map a.eval) none).run P w = .ok (l, h, cap) w) → m = h - l →
      dX P F H σ o a w c ⟨.slc sz m fun k => f (k + l), u, []⟩ := by
    intro sz n f l h m hy hlh hhn hbnd hm
    subst hy hm
    obtain ⟨ad, cap, hv, hnc, hcm⟩ := hp.slc_len
    have hrun : (execOp a.eval o).run P w = .ok (.value (.slice (if cap = l then ad else ad.map (·.add (l * ei.size))) (h - l) (cap - l))) w := by
      refine bV (s := Instr.sliceAt T (a.eval x) (lo.map a.eval) (hi.map a.eval) none) (by simp [execOp, ho]) ?_
      rw [hv]
      simp [Instr.sliceAt, Instr.slice, run_underlying hut, hbnd cap hnc, run_sizeOf h1, hs]
    refine .step (H' := ups H u) _ w σ (by simp [number]) hrun n1 (.pure ?_)
    by_cases h0 : h - l = 0
    · rw [h0]
      refine .slc0 sz _ _ ?_
      by_cases hc : cap = l
      · rw [if_pos hc]
        cases ad with
        | none => exact .inl (by rw [hc, Nat.sub_self])
        | some q => exact .inr ⟨q, _, rfl, by omega⟩
      · rw [if_neg hc]
        cases ad with
        | none =>
          left
          simp only [Option.map_none]
          congr 1
          rw [hv] at hp
          generalize hq : (Value.slice none n cap) = q at hp
          cases hp with
          | slc0 _ _ _ hh =>
            rcases hh with rfl | ⟨_, _, rfl, _⟩
            · injection hq with _ _ hq; omega
            · cases hq
          | slc => cases hq
        | some q => exact .inr ⟨_, _, rfl, by omega⟩
    · have hn0 : 0 < n := by omega
      rw [hv] at hp
      dsimp only
      generalize hq : (Value.slice ad n cap) = q at hp
      cases hp with
      | slc0 => omega
      | slc _ _ _ g off cap2 us hn hc hm hl hg hp2 =>
        injection hq with q1 q2 q3
        subst q1 q3
        have hsze : sz = ei.size := (hsz sz n f rfl).resolve_left (by omega)
        rw [if_neg (by omega)]
        simp only [Option.map_some, Addr.add_mid]
        rw [← hsze]
        refine .slc sz (h - l) _ g (off + l * sz) (cap - l) (fun k j => us (k + l) j) (by omega) (by omega) (by omega) (fun k hk => hl _ (by omega)) (fun k j hk hj => ?_) (fun k j hk hj => hp2 _ _ (by omega) hj)
        have := hg (k + l) j (by omega) hj
        rw [Nat.add_mul] at this
        rwa [show off + l * sz + (k * sz + j) = off + (k * sz + l * sz + j) by omega]
  unfold aslice
  cases y with
  | slc sz n f =>
    cases lo with
    | none =>
      cases hi with
      | none =>
        refine .ret fun _ _ _ => ?_
        have := key sz n f 0 n n rfl (Nat.zero_le _) (Nat.le_refl _) (fun cap hc => by simp [Instr.sliceBounds]) (by omega)
        exact this
      | some hi =>
        simp only [Option.map_none, Option.map_some]
        cases hq : ρ hi with
        | int k h =>
          refine .ret fun _ hr _ => ?_
          have hr := of_decide_eq_true hr
          have hv := hρ hi
          rw [hq] at hv
          have := key sz n f 0 h.toNat h.toNat rfl (Nat.zero_le _) (by omega) (fun cap hc => by simp [Instr.sliceBounds, Instr.sliceBound, hv.int_inv, asIntOf, show (0 : Int) ≤ h ∧ h ≤ cap by omega]) (by omega)
          exact this
        | _ => exact .fail
    | some lo =>
      simp only [Option.map_some]
      cases hi with
      | none =>
        simp only [Option.map_none]
        cases hq : ρ lo with
        | int k l =>
          refine .ret fun _ hr _ => ?_
          have hr := of_decide_eq_true hr
          have hv := hρ lo
          rw [hq] at hv
          exact key sz n f l.toNat n _ rfl (by omega) (Nat.le_refl _) (fun cap hc => by simp [Instr.sliceBounds, Instr.sliceBound, hv.int_inv, asIntOf, show (0 : Int) ≤ l ∧ l ≤ n by omega]) rfl
        | _ => exact .fail
      | some hi =>
        simp only [Option.map_some]
        cases hq : ρ lo with
        | int k l =>
          cases hq2 : ρ hi with
          | int k2 h =>
            refine .ret fun _ hr _ => ?_
            have hr := of_decide_eq_true hr
            have hv := hρ lo
            rw [hq] at hv
            have hv2 := hρ hi
            rw [hq2] at hv2
            exact key sz n f l.toNat h.toNat _ rfl (by omega) (by omega) (fun cap hc => by
              simp [Instr.sliceBounds, Instr.sliceBound, hv.int_inv, hv2.int_inv, asIntOf, show (0 : Int) ≤ h ∧ h ≤ cap by omega, show (0 : Int) ≤ l by omega]
              intro hh; omega) rfl
          | _ => exact .fail
        | _ => cases hi <;> exact .fail
  | _ => exact .fail
end
end Go.Proofs.YtimkpfnbkclclaaGreat.Ab
