/- The plain evaluator's meaning: values, blocks and worlds. -/
import Derived.Test.YthkdmemkjojmoaaZB4
import Derived.Laws.AppendOwn
import Derived.Laws.OwnMore
namespace Go.Proofs.Ythkdmemkjojmoaa.Ab
open Go

/-- A plain value: a slice's elements lie in blocks that nobody writes (not in M). -/
inductive PR (w : World) (M : Nat → Prop) : AV → Value → Prop
  | undef (v : Value) : PR w M .undef v
  | bool (b : Bool) : PR w M (.bool b) (.bool b)
  | int (k : IntKind) (n : Int) : PR w M (.int k n) (.int k n)
  | str (s : ByteArray) : PR w M (.str s) (.string s)
  | nilp : PR w M .nilp (.pointer none)
  | raw (v : Value) : PR w M (.raw v) v
  | any1 (v : Value) (h : v.oneCell' = true) : PR w M .any1 v
  | slc0 (sz : Nat) (f : Nat → List AV) (v : Value) (h : v = .slice none 0 0 ∨ ∃ a cap, v = .slice (some a) 0 cap ∧ cap ≤ maxLen) : PR w M (.slc sz 0 f) v
  | slc (sz n : Nat) (f : Nat → List AV) (g off cap : Nat) (us : Nat → Nat → Value) (hn : 0 < n) (hc : n ≤ cap) (hm : cap ≤ maxLen)
      (hl : ∀ k, k < n → (f k).length = sz)
      (hg : ∀ k j, k < n → j < sz → ¬ M g ∧ w.cell? ⟨g, off + (k * sz + j), none⟩ = some (us k j) ∧ (us k j).oneCell' = true)
      (hp : ∀ k j, k < n → j < sz → PR w M ((f k).getD j .undef) (us k j)) : PR w M (.slc sz n f) (.slice (some ⟨g, off, none⟩) n cap)

/-- A value, where σ says what stands behind a number, and V its version. -/
inductive VR (w : World) (M : Nat → Prop) (σ : Nat → Value) (V : Nat → Option Nat) : AV → Value → Prop
  | pure {x : AV} {v : Value} (h : PR w M x v) : VR w M σ V x v
  | void : VR w M σ V .void Go.undef
  | own (id ver m : Nat) (v : Value) (h1 : v.oneCell' = true) (hV : V id = some m) (hm : ver ≤ m) (h : ver = m → v = σ id) : VR w M σ V (.own id ver) v
  | ptr (id off g m : Nat) (hV : V id = some m) (h : σ id = .pointer (some ⟨g, 0, none⟩)) : VR w M σ V (.ptr id off) (.pointer (some ⟨g, off, none⟩))
  | rptr (id ver sz k off m g b : Nat) (hV : V id = some m) (hm : ver ≤ m)
      (h : ver = m → ∃ n cap, σ id = .slice (some ⟨g, 0, none⟩) n cap ∧ k < n ∧ b = k * sz) : VR w M σ V (.rptr id ver sz k off) (.pointer (some ⟨g, b + off, none⟩))
  | pptr (cs : List AV) (off g o : Nat) (us : Nat → Value) (hg : ∀ j, j < cs.length → ¬ M g ∧ w.cell? ⟨g, o + j, none⟩ = some (us j) ∧ (us j).oneCell' = true)
      (hp : ∀ j, j < cs.length → PR w M (cs.getD j .undef) (us j)) : VR w M σ V (.pptr cs off) (.pointer (some ⟨g, o + off, none⟩))
  | lptr (id ver off m g : Nat) (hV : V id = some m) (hm : ver ≤ m) (h : ver = m → ∃ n cap, σ id = .slice (some ⟨g, 0, none⟩) n cap) : VR w M σ V (.lptr id ver off) (.pointer (some ⟨g, off, none⟩))
  | agg (cs : List AV) (vs : Array Value) (hl : vs.size = cs.length) (h : ∀ j, j < cs.length → VR w M σ V (cs.getD j .undef) (vs.getD j Go.undef)) : VR w M σ V (.agg cs) (.agg vs)
  | tup (cs : List AV) (vs : Array Value) (hl : vs.size = cs.length) (h : ∀ j, j < cs.length → VR w M σ V (cs.getD j .undef) (vs.getD j Go.undef)) : VR w M σ V (.tup cs) (.tuple vs)
  | fn (f : FuncId) (cs : List AV) (vs : Array Value) (hl : vs.size = cs.length) (h : ∀ j, j < cs.length → VR w M σ V (cs.getD j .undef) (vs.getD j Go.undef)) : VR w M σ V (.fn f cs) (.func (.func f) #[] vs)

theorem PR.grow {w w' : World} {M M' : Nat → Prop} (hk : ∀ g, ¬ M g → g < w.heap.size → w'.heap[g]? = w.heap[g]?) (hm : ∀ g, g < w.heap.size → M' g → M g)
    {x : AV} {v : Value} (h : PR w M x v) : PR w' M' x v := by
  induction h with
  | slc0 sz f v h => exact .slc0 sz f v h
  | slc sz n f g off cap us hn hc hmx hl hg hp ih =>
    refine .slc sz n f g off cap us hn hc hmx hl (fun k j hk' hj => ?_) ih
    obtain ⟨h1, h2, h3⟩ := hg k j hk' hj
    have hlt := World.block_lt_of_cell? w _ h2
    exact ⟨fun h => h1 (hm g hlt h), by rw [World.cell?_of_block (w := w) (hk g h1 hlt)]; exact h2, h3⟩
  | any1 v h => exact .any1 v h
  | _ => constructor

structure Grow (w : World) (M : Nat → Prop) (σ : Nat → Value) (V : Nat → Option Nat) (w' : World) (M' : Nat → Prop) (σ' : Nat → Value) (V' : Nat → Option Nat) : Prop where
  size : w.heap.size ≤ w'.heap.size
  keep : ∀ g, ¬ M g → g < w.heap.size → w'.heap[g]? = w.heap[g]?
  mutd : ∀ g, g < w.heap.size → M' g → M g
  ver : ∀ id m, V id = some m → ∃ m', V' id = some m' ∧ m ≤ m' ∧ (m' = m → σ' id = σ id)
  var : ∀ id m g, V id = some m → σ id = .pointer (some g) → σ' id = σ id
theorem Grow.refl (w : World) (M : Nat → Prop) (σ : Nat → Value) (V : Nat → Option Nat) : Grow w M σ V w M σ V :=
  ⟨Nat.le_refl _, fun _ _ _ => rfl, fun _ _ h => h, fun _ m h => ⟨m, h, Nat.le_refl _, fun _ => rfl⟩, fun _ _ _ _ _ => rfl⟩
theorem Grow.trans {w w' w'' : World} {M M' M'' : Nat → Prop} {σ σ' σ'' : Nat → Value} {V V' V'' : Nat → Option Nat} (h : Grow w M σ V w' M' σ' V') (k : Grow w' M' σ' V' w'' M'' σ'' V'') :
    Grow w M σ V w'' M'' σ'' V'' := by
  refine ⟨Nat.le_trans h.size k.size, fun g hg hl => ?_, fun g hg hm => h.mutd g hg (k.mutd g (Nat.lt_of_lt_of_le hg h.size) hm), fun id m hV => ?_, fun id m g hV hs => ?_⟩
  · rw [k.keep g (fun hm => hg (h.mutd g hl hm)) (Nat.lt_of_lt_of_le hl h.size), h.keep g hg hl]
  · obtain ⟨m1, a1, b1, c1⟩ := h.ver id m hV
    obtain ⟨m2, a2, b2, c2⟩ := k.ver id m1 a1
    exact ⟨m2, a2, Nat.le_trans b1 b2, fun e => by rw [c2 (by omega), c1 (by omega)]⟩
  · obtain ⟨m1, a1, _, _⟩ := h.ver id m hV
    rw [k.var id m1 g a1 (by rw [h.var id m g hV hs]; exact hs), h.var id m g hV hs]
theorem Grow.draw (w : World) (M : Nat → Prop) (σ : Nat → Value) (V : Nat → Option Nat) (n : Nat) : Grow w M σ V { w with drawn := n } M σ V :=
  ⟨Nat.le_refl _, fun _ _ _ => rfl, fun _ _ h => h, fun _ m h => ⟨m, h, Nat.le_refl _, fun _ => rfl⟩, fun _ _ _ _ _ => rfl⟩
theorem VR.grow {w w' : World} {M M' : Nat → Prop} {σ σ' : Nat → Value} {V V' : Nat → Option Nat} (G : Grow w M σ V w' M' σ' V') {x : AV} {v : Value} (h : VR w M σ V x v) : VR w' M' σ' V' x v := by
  induction h with
  | pure h => exact .pure (h.grow G.keep G.mutd)
  | void => exact .void
  | own id ver m v hone hV hm h =>
    obtain ⟨m', h1, h2, h3⟩ := G.ver id m hV
    exact .own id ver m' v hone h1 (by omega) (fun e => by rw [h3 (by omega)]; exact h (by omega))
  | ptr id off g m hV h =>
    obtain ⟨m', h1, _, _⟩ := G.ver id m hV
    exact .ptr id off g m' h1 (by rw [G.var id m _ hV h]; exact h)
  | rptr id ver sz k off m g b hV hm h =>
    obtain ⟨m', h1, h2, h3⟩ := G.ver id m hV
    exact .rptr id ver sz k off m' g b h1 (by omega) (fun e => by rw [h3 (by omega)]; exact h (by omega))
  | pptr cs off g o us hg hp =>
    refine .pptr cs off g o us (fun j hj => ?_) (fun j hj => (hp j hj).grow G.keep G.mutd)
    obtain ⟨h1, h2, h3⟩ := hg j hj
    have hlt := World.block_lt_of_cell? w _ h2
    exact ⟨fun h => h1 (G.mutd g hlt h), by rw [World.cell?_of_block (w := w) (G.keep g h1 hlt)]; exact h2, h3⟩
  | lptr id ver off m g hV hm h =>
    obtain ⟨m', h1, h2, h3⟩ := G.ver id m hV
    exact .lptr id ver off m' g h1 (by omega) (fun e => by rw [h3 (by omega)]; exact h (by omega))
  | agg cs vs hl _ ih => exact .agg cs vs hl ih
  | tup cs vs hl _ ih => exact .tup cs vs hl ih
  | fn f cs vs hl _ ih => exact .fn f cs vs hl ih

def Blk.live : Blk → Prop
  | .dead _ => False
  | _ => True
def blkOf : Value → Option Nat
  | .pointer (some a) => some a.block
  | .slice (some a) _ _ => some a.block
  | _ => none
/-- What a run starts from: the world, the blocks that it may change, others that it must not. -/
structure Fr where
  w0 : World
  m0 : Nat → Prop
  mx : Nat → Prop
  s0 : Nat → Value
  mm : Nat
  kv : Prop
def Own (H : Nat → Option Blk) (σ : Nat → Value) (g : Nat) : Prop := ∃ id b, H id = some b ∧ b.live ∧ blkOf (σ id) = some g
def Mut (F : Fr) (H : Nat → Option Blk) (σ : Nat → Value) (g : Nat) : Prop := F.mx g ∨ Own H σ g
def Ver (H : Nat → Option Blk) (id : Nat) : Option Nat := (H id).map Blk.ver
def BR (w : World) (M : Nat → Prop) (σ : Nat → Value) (V : Nat → Option Nat) (id : Nat) : Blk → Prop
  | .var cells => ∃ g vs T, σ id = .pointer (some ⟨g, 0, none⟩) ∧ w.heap[g]? = some (.cells vs T (0, 0)) ∧ vs.size = cells.length ∧
      ∀ j, j < cells.length → VR w M σ V (cells.getD j .undef) (vs.getD j Go.undef) ∧ (vs.getD j Go.undef).oneCell' = true
  | .row _ sz n e f => ∃ xs, 0 < sz ∧ w.ownsRow 0 e sz (σ id) n xs ∧ (∀ k, k < n → (f k).length = sz) ∧
      ∀ k j, k < n → j < sz → PR w M ((f k).getD j .undef) (xs.getD (k * sz + j) Go.undef) ∧ (xs.getD (k * sz + j) Go.undef).oneCell' = true
  | .nilrow _ => σ id = .slice none 0 0
  | .lrow _ sz n e cells => ∃ xs, 0 < sz ∧ 0 < n ∧ w.ownsRow 0 e sz (σ id) n xs ∧ cells.length = n * sz ∧
      ∀ j, j < n * sz → VR w M σ V (cells.getD j .undef) (xs.getD j Go.undef) ∧ (xs.getD j Go.undef).oneCell' = true
  | .dead _ => True
structure RelH (F : Fr) (H : Nat → Option Blk) (σ : Nat → Value) (w : World) : Prop where
  os : w.os = F.w0.os
  tape : w.tape = F.w0.tape
  output : w.output = F.w0.output
  size : F.w0.heap.size ≤ w.heap.size
  old : ∀ g, g < F.w0.heap.size → ¬ F.m0 g → w.heap[g]? = F.w0.heap[g]?
  bl : ∀ id b, H id = some b → BR w (Mut F H σ) σ (Ver H) id b
  ds : ∀ id id' b b' g, id ≠ id' → H id = some b → H id' = some b' → b.live → b'.live → blkOf (σ id) = some g → blkOf (σ id') = some g → False
  new : ∀ id b g, H id = some b → b.live → blkOf (σ id) = some g → g < w.heap.size ∧ (F.w0.heap.size ≤ g ∨ F.m0 g) ∧ ¬ F.mx g
  mxl : ∀ g, F.mx g → g < F.w0.heap.size

/-- What a block holds stays, if its own memory does, and the rest goes on. -/
theorem BR.grow {w w' : World} {M M' : Nat → Prop} {σ σ' : Nat → Value} {V V' : Nat → Option Nat} (G : Grow w M σ V w' M' σ' V') {id : Nat} {b : Blk} (hσ : σ' id = σ id)
    (hb : ∀ g, b.live → blkOf (σ id) = some g → g < w.heap.size → w'.heap[g]? = w.heap[g]?) (h : BR w M σ V id b) : BR w' M' σ' V' id b := by
  cases b with
  | var cells =>
    obtain ⟨g, vs, T, h1, h2, h3, h4⟩ := h
    have hlt : g < w.heap.size := (Array.getElem?_eq_some_iff.1 h2).1
    exact ⟨g, vs, T, by rw [hσ]; exact h1, by rw [hb g trivial (by rw [h1]; rfl) hlt]; exact h2, h3, fun j hj => ⟨(h4 j hj).1.grow G, (h4 j hj).2⟩⟩
  | row ver sz n e f =>
    obtain ⟨xs, h0, h1, h2, h3⟩ := h
    refine ⟨xs, h0, ?_, h2, fun k j hk hj => ⟨(h3 k j hk hj).1.grow G.keep G.mutd, (h3 k j hk hj).2⟩⟩
    rw [hσ]
    refine ⟨h1.1, ?_⟩
    rcases h1.2 with h | ⟨g, cap, cur, e1, e2, e3, e4⟩
    · exact .inl h
    · refine .inr ⟨g, cap, cur, e1, e2, ?_, e4⟩
      rw [hb g trivial (by rw [e1]; rfl) (Array.getElem?_eq_some_iff.1 e3).1]
      exact e3
  | nilrow v => exact hσ.trans h
  | lrow ver sz n e cells =>
    obtain ⟨xs, h0, h0', h1, h2, h3⟩ := h
    refine ⟨xs, h0, h0', ?_, h2, fun j hj => ⟨(h3 j hj).1.grow G, (h3 j hj).2⟩⟩
    rw [hσ]
    refine ⟨h1.1, ?_⟩
    rcases h1.2 with h | ⟨g, cap, cur, e1, e2, e3, e4⟩
    · exact .inl h
    · refine .inr ⟨g, cap, cur, e1, e2, ?_, e4⟩
      rw [hb g trivial (by rw [e1]; rfl) (Array.getElem?_eq_some_iff.1 e3).1]
      exact e3
  | dead v => trivial

/-- Some numbers change (those of I), in one step of the world. -/
theorem RelH.chgs {F : Fr} {H H' : Nat → Option Blk} {σ σ' : Nat → Value} {w w' : World} (h : RelH F H σ w) (I : Nat → Prop)
    (offH : ∀ id, ¬ I id → H' id = H id) (offS : ∀ id, ¬ I id → σ' id = σ id)
    (os : w'.os = w.os) (tape : w'.tape = w.tape) (output : w'.output = w.output) (size : w.heap.size ≤ w'.heap.size)
    (hkeep : ∀ g, g < w.heap.size → (∀ id b, I id → H id = some b → b.live → blkOf (σ id) ≠ some g) → w'.heap[g]? = w.heap[g]?)
    (hs : ∀ id b' g, I id → H' id = some b' → b'.live → blkOf (σ' id) = some g → g < w'.heap.size ∧ (w.heap.size ≤ g ∨ ∃ id0 b, I id0 ∧ H id0 = some b ∧ b.live ∧ blkOf (σ id0) = some g))
    (hd : ∀ id id' b b' g, id ≠ id' → I id → I id' → H' id = some b → H' id' = some b' → b.live → b'.live → blkOf (σ' id) = some g → blkOf (σ' id') = some g → False)
    (hv : ∀ id b, I id → H id = some b → ∃ b', H' id = some b' ∧ b.ver ≤ b'.ver ∧ (b'.ver = b.ver → σ' id = σ id) ∧ ∀ g, σ id = .pointer (some g) → σ' id = σ id)
    (hb : Grow w (Mut F H σ) σ (Ver H) w' (Mut F H' σ') σ' (Ver H') → ∀ id b', I id → H' id = some b' → BR w' (Mut F H' σ') σ' (Ver H') id b') :
    RelH F H' σ' w' ∧ Grow w (Mut F H σ) σ (Ver H) w' (Mut F H' σ') σ' (Ver H') := by
  have own' : ∀ id b' g, H' id = some b' → b'.live → blkOf (σ' id) = some g → (¬ I id ∧ H id = some b' ∧ blkOf (σ id) = some g) ∨ (I id ∧ g < w'.heap.size ∧ (w.heap.size ≤ g ∨ ∃ id0 b, I id0 ∧ H id0 = some b ∧ b.live ∧ blkOf (σ id0) = some g)) := by
    intro id b' g h1 h2 h3
    by_cases hi : I id
    · exact .inr ⟨hi, hs id b' g hi h1 h2 h3⟩
    · exact .inl ⟨hi, by rw [← offH id hi]; exact h1, by rw [← offS id hi]; exact h3⟩
  have G : Grow w (Mut F H σ) σ (Ver H) w' (Mut F H' σ') σ' (Ver H') := by
    refine ⟨size, fun g hg hl => hkeep g hl (fun id b _ h1 h2 h3 => hg (.inr ⟨id, b, h1, h2, h3⟩)), fun g hl hm => ?_, fun id m hV => ?_, fun id m g hV hs' => ?_⟩
    · rcases hm with hm | ⟨id, b, h1, h2, h3⟩
      · exact .inl hm
      · rcases own' id b g h1 h2 h3 with ⟨_, h4, h5⟩ | ⟨_, _, h4 | ⟨id0, b0, _, h5, h6, h7⟩⟩
        · exact .inr ⟨id, b, h4, h2, h5⟩
        · omega
        · exact .inr ⟨id0, b0, h5, h6, h7⟩
    · obtain ⟨b, h1, h2⟩ := Option.map_eq_some_iff.1 hV
      by_cases hi : I id
      · obtain ⟨b', e1, e2, e3, _⟩ := hv id b hi h1
        exact ⟨b'.ver, by simp [Ver, e1], by omega, fun e => e3 (by omega)⟩
      · exact ⟨m, by rw [Ver, offH id hi]; exact hV, Nat.le_refl _, fun _ => offS id hi⟩
    · obtain ⟨b, h1, h2⟩ := Option.map_eq_some_iff.1 hV
      by_cases hi : I id
      · obtain ⟨b', e1, e2, e3, e4⟩ := hv id b hi h1
        exact e4 g hs'
      · exact offS id hi
  refine ⟨⟨os.trans h.os, tape.trans h.tape, output.trans h.output, Nat.le_trans h.size size, fun g hg hm => ?_, fun id b hb' => ?_, fun id id' b b' g hne h1 h2 l1 l2 k1 k2 => ?_, fun id b g h1 h2 h3 => ?_, h.mxl⟩, G⟩
  · rw [hkeep g (Nat.lt_of_lt_of_le hg h.size) (fun id b _ h1 h2 h3 => ?_), h.old g hg hm]
    rcases (h.new id b g h1 h2 h3).2.1 with h4 | h4
    · omega
    · exact hm h4
  · by_cases hi : I id
    · exact hb G id b hi hb'
    · have hH : H id = some b := by rw [← offH id hi]; exact hb'
      refine (h.bl id b hH).grow G (offS id hi) fun g hl hg hlt => hkeep g hlt fun id0 b0 hi0 h1 h2 h3 => ?_
      exact h.ds id id0 b b0 g (fun e => hi (e ▸ hi0)) hH h1 hl h2 hg h3
  · rcases own' id b g h1 l1 k1 with ⟨i1, p1, q1⟩ | ⟨i1, p1, q1⟩
    · rcases own' id' b' g h2 l2 k2 with ⟨i2, p2, q2⟩ | ⟨i2, p2, q2⟩
      · exact h.ds id id' b b' g hne p1 p2 l1 l2 q1 q2
      · rcases q2 with q2 | ⟨id0, b0, i0, e1, e2, e3⟩
        · have := (h.new id b g p1 l1 q1).1; omega
        · exact h.ds id id0 b b0 g (fun e => i1 (e ▸ i0)) p1 e1 l1 e2 q1 e3
    · rcases own' id' b' g h2 l2 k2 with ⟨i2, p2, q2⟩ | ⟨i2, p2, q2⟩
      · rcases q1 with q1 | ⟨id0, b0, i0, e1, e2, e3⟩
        · have := (h.new id' b' g p2 l2 q2).1; omega
        · exact h.ds id' id0 b' b0 g (fun e => i2 (e ▸ i0)) p2 e1 l2 e2 q2 e3
      · exact hd id id' b b' g hne i1 i2 h1 h2 l1 l2 k1 k2
  · rcases own' id b g h1 h2 h3 with ⟨_, p1, q1⟩ | ⟨_, p1, q1⟩
    · obtain ⟨a1, a2, a3⟩ := h.new id b g p1 h2 q1
      exact ⟨Nat.lt_of_lt_of_le a1 size, a2, a3⟩
    · rcases q1 with q1 | ⟨id0, b0, i0, e1, e2, e3⟩
      · exact ⟨p1, .inl (Nat.le_trans h.size q1), fun hm => by have := h.mxl g hm; have := h.size; omega⟩
      · obtain ⟨a1, a2, a3⟩ := h.new id0 b0 g e1 e2 e3
        exact ⟨p1, a2, a3⟩

def upd {α : Type} (f : Nat → α) (i : Nat) (x : α) : Nat → α := fun j => if j = i then x else f j
@[simp] theorem upd_same {α : Type} (f : Nat → α) (i : Nat) (x : α) : upd f i x i = x := by simp [upd]
theorem upd_ne {α : Type} (f : Nat → α) {i j : Nat} (x : α) (h : j ≠ i) : upd f i x j = f j := by simp [upd, h]
/-- One number changes. -/
theorem RelH.chg {F : Fr} {H : Nat → Option Blk} {σ : Nat → Value} {w w' : World} (h : RelH F H σ w) (id : Nat) (b' : Blk) (s' : Value)
    (os : w'.os = w.os) (tape : w'.tape = w.tape) (output : w'.output = w.output) (size : w.heap.size ≤ w'.heap.size)
    (hkeep : ∀ g, g < w.heap.size → (∀ b, H id = some b → b.live → blkOf (σ id) ≠ some g) → w'.heap[g]? = w.heap[g]?)
    (hs : ∀ g, b'.live → blkOf s' = some g → g < w'.heap.size ∧ (w.heap.size ≤ g ∨ ∃ b, H id = some b ∧ b.live ∧ blkOf (σ id) = some g))
    (hv : ∀ b, H id = some b → b.ver ≤ b'.ver ∧ (b'.ver = b.ver → s' = σ id) ∧ ∀ g, σ id = .pointer (some g) → s' = σ id)
    (hb : Grow w (Mut F H σ) σ (Ver H) w' (Mut F (upd H id (some b')) (upd σ id s')) (upd σ id s') (Ver (upd H id (some b'))) →
      BR w' (Mut F (upd H id (some b')) (upd σ id s')) (upd σ id s') (Ver (upd H id (some b'))) id b') :
    RelH F (upd H id (some b')) (upd σ id s') w' ∧ Grow w (Mut F H σ) σ (Ver H) w' (Mut F (upd H id (some b')) (upd σ id s')) (upd σ id s') (Ver (upd H id (some b'))) := by
  refine h.chgs (fun i => i = id) (fun i hi => upd_ne _ _ hi) (fun i hi => upd_ne _ _ hi) os tape output size (fun g hg hk => hkeep g hg fun b h1 h2 => hk id b rfl h1 h2) ?_ ?_ ?_ ?_
  · rintro i b g rfl h1 h2 h3
    rw [upd_same] at h1 h3
    obtain rfl := Option.some.inj h1
    obtain ⟨a1, a2⟩ := hs g h2 h3
    exact ⟨a1, a2.imp_right fun ⟨b, e⟩ => ⟨i, b, rfl, e⟩⟩
  · rintro i i' b b' g hne rfl rfl
    exact absurd rfl hne
  · rintro i b rfl h1
    obtain ⟨a1, a2, a3⟩ := hv b h1
    exact ⟨b', upd_same _ _ _, a1, fun e => by rw [upd_same]; exact a2 e, fun g e => by rw [upd_same]; exact a3 g e⟩
  · rintro G i b rfl h1
    rw [upd_same] at h1
    obtain rfl := Option.some.inj h1
    exact hb G
end Go.Proofs.Ythkdmemkjojmoaa.Ab
