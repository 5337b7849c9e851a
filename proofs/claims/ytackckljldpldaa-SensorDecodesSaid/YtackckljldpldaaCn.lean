/- Drawing from plain codes: New, Next, Mod (no Range, no One). -/
import Derived.Test.YtackckljldpldaaRows
import Derived.WalkKit
import Derived.WalkSpells
import Derived.WalkLawsBesides
import Derived.Deep.QuietTactic
import Derived.BigQuiet
import Derived.IntWalk
import Derived.Lib.Hide
namespace Go.Proofs.Ytackckljldpldaa
open Go.RowKit

theorem ret_int {k : IntKind} {a b : Int} (h : a = b) : Ending.returned (.int k a) = .returned (.int k b) := by rw [h]

theorem tmod_emod (k n : Int) (hn : 1 ≤ n) : (0 ≤ k.tmod n ∧ k.tmod n = k % n) ∨ (k.tmod n < 0 ∧ k.tmod n + n = k % n) := by
  rw [Int.tmod_eq_emod]
  have h1 := Int.emod_nonneg k (show n ≠ 0 by omega)
  have h2 := Int.emod_lt_of_pos k (show 0 < n by omega)
  split
  · left; simp; omega
  · rename_i h
    have : (n.natAbs : Int) = n := by omega
    right; omega

set_option maxHeartbeats 400000 in
theorem mod_neg (k n : Int) (w : World) (hn : n < 1) :
    Calls Try.prog 15 #[.int .i64 k, .int .i64 n] w fun e w' => e = .returned (.int .i64 0) ∧ w = w' := by
  go_enter Try.func15, Try.ntmps15
  go_wp2
  go_ret
  exact ⟨rfl, rfl⟩

set_option maxHeartbeats 400000 in
theorem mod_pos (k n : Int) (w : World) (hn : 1 ≤ n) (_ : -9223372036854775808 ≤ k) (_ : k ≤ 9223372036854775807) (_ : n ≤ 9223372036854775807) :
    Calls Try.prog 15 #[.int .i64 k, .int .i64 n] w fun e w' => e = .returned (.int .i64 (k % n)) ∧ w = w' := by
  have ht := Int.tmod_lt_of_pos k (show 0 < n by omega)
  have ht2 := Int.lt_tmod_of_pos k (show 0 < n by omega)
  have hm := tmod_emod k n hn
  have Hm := Lib.hid hm
  clear hm
  go_enter Try.func15, Try.ntmps15
  go_wp2
  all_goals
    go_ret
    exact ⟨ret_int (by have := Hm.out; omega), rfl⟩

/-- Of the world only block b may be another one. -/
structure Only (b : Nat) (w w' : World) : Prop where
  os : w'.os = w.os
  tape : w'.tape = w.tape
  output : w'.output = w.output
  size : w'.heap.size = w.heap.size
  block : ∀ k, k ≠ b → w'.heap[k]? = w.heap[k]?

theorem Only.drewN (b : Nat) (w : World) (k : Nat) : Only b w (w.drewN k) := ⟨rfl, rfl, rfl, rfl, fun _ _ => rfl⟩
theorem Only.set {b : Nat} {w w' : World} (h : Only b w w') (o : Nat) (v : Value) : Only b w (w'.setCell ⟨b, o, none⟩ v) :=
  ⟨h.os, h.tape, h.output, by simp [World.setCell, h.size], fun k hk => by rw [Below.heap_setCell _ _ _ _ hk]; exact h.block k hk⟩
theorem Only.trans {b : Nat} {w w' w'' : World} (h : Only b w w') (k : Only b w' w'') : Only b w w'' :=
  ⟨k.os.trans h.os, k.tape.trans h.tape, k.output.trans h.output, k.size.trans h.size, fun i hi => (k.block i hi).trans (h.block i hi)⟩
theorem Only.cell {b : Nat} {w w' : World} (h : Only b w w') {p : Addr} (hp : p.block ≠ b) : w'.cell? p = w.cell? p := World.cell?_of_block (w := w) (h.block p.block hp)
theorem Only.frozen {b : Nat} {w w' : World} (h : Only b w w') {p : Addr} (hp : p.block ≠ b) : w'.frozen? p = w.frozen? p := World.frozen?_of_block (w := w) (h.block p.block hp)
theorem Only.below {b : Nat} {w w' : World} (h : Only b w w') {B : Nat} (hb : B ≤ b) : Below B w w' :=
  ⟨h.os, h.tape, h.output, by rw [h.size]; exact Nat.le_refl _, fun k hk => h.block k (by omega)⟩

/-- Block b holds the codes l, of which i are used up. -/
def CdAt (w : World) (b : Nat) (l : List Nat) (i : Nat) : Prop :=
  l.length ≤ 300 ∧ i ≤ l.length ∧ (∀ x ∈ l, x < 256) ∧ ∃ a cap, w.heap[b]? = some (.cells #[.slice a l.length cap, .int .i64 i] 78 (0, 0)) ∧
    (l = [] ∨ ∃ g off, a = some ⟨g, off, none⟩ ∧ g < b ∧ ∀ j, j < l.length → w.cell? ⟨g, off + j, none⟩ = some (.int .u8 (l.getD j 0 : Nat)))

theorem CdAt.cells {w : World} {b : Nat} {l : List Nat} {i : Nat} (h : CdAt w b l i) : ∃ a cap, w.cell? ⟨b, 0, none⟩ = some (.slice a l.length cap) ∧ w.cell? ⟨b, 1, none⟩ = some (.int .i64 i) ∧ w.frozen? ⟨b, 1, none⟩ = false ∧
    (l = [] ∨ ∃ g off, a = some ⟨g, off, none⟩ ∧ g ≠ b ∧ ∀ j, j < l.length → w.cell? ⟨g, off + j, none⟩ = some (.int .u8 (l.getD j 0 : Nat))) := by
  obtain ⟨_, _, _, a, cap, hb, hx⟩ := h
  refine ⟨a, cap, by simp [World.cell?, hb], by simp [World.cell?, hb], by simp [World.frozen?, hb], ?_⟩
  rcases hx with hx | ⟨g, off, ha, hg, hc⟩
  · exact .inl hx
  · exact .inr ⟨g, off, ha, Nat.ne_of_lt hg, hc⟩

theorem CdAt.drewN {w : World} {b : Nat} {l : List Nat} {i : Nat} (h : CdAt w b l i) (k : Nat) : CdAt (w.drewN k) b l i := h

theorem CdAt.set {w : World} {b : Nat} {l : List Nat} {i : Nat} (h : CdAt w b l i) {v : Int} (j : Nat) (hv : v = j) (hj : j ≤ l.length) : CdAt (w.setCell ⟨b, 1, none⟩ (.int .i64 v)) b l j := by
  subst hv
  obtain ⟨h1, _, h3, a, cap, hb, hx⟩ := h
  refine ⟨h1, hj, h3, a, cap, ?_, ?_⟩
  · simp [World.setCell, Array.getElem?_modify, hb]
  · rcases hx with hx | ⟨g, off, ha, hg, hc⟩
    · exact .inl hx
    · refine .inr ⟨g, off, ha, hg, fun j hj => ?_⟩
      rw [← hc j hj]
      exact World.cell?_of_block (w := w) (Below.heap_setCell _ _ _ _ (Nat.ne_of_lt hg))

theorem CdAt.of_block {w w' : World} {b : Nat} {l : List Nat} {i : Nat} (h : CdAt w b l i) (hw : ∀ k, k < w.heap.size → w'.heap[k]? = w.heap[k]?) : CdAt w' b l i := by
  obtain ⟨h1, h2, h3, a, cap, hb, hx⟩ := h
  refine ⟨h1, h2, h3, a, cap, ?_, ?_⟩
  · rw [hw b (Array.getElem?_eq_some_iff.1 hb).1]; exact hb
  · rcases hx with hx | ⟨g, off, ha, hg, hc⟩
    · exact .inl hx
    · refine .inr ⟨g, off, ha, hg, fun j hj => ?_⟩
      have h0 := hc j hj
      rw [← h0]
      exact World.cell?_of_block (w := w) (hw g (World.block_lt_of_cell? w _ h0))

/-- What Next returns, and how many codes are used up then. -/
def nx (l : List Nat) (i : Nat) (n : Int) : Int × Nat :=
  if n < 1 ∨ l.length ≤ i then (0, i)
  else if 256 < n ∧ i + 1 < l.length then (((l.getD i 0 : Int) * 256 + (l.getD (i + 1) 0 : Int)) % n, i + 2)
  else ((l.getD i 0 : Int) % n, i + 1)

theorem nx_bd (l : List Nat) (i : Nat) (n : Int) : 0 ≤ (nx l i n).1 ∧ (1 ≤ n → (nx l i n).1 < n) := by
  unfold nx
  split
  · constructor <;> (intros; simp; try omega)
  · rename_i h
    have hn : 0 < n := by omega
    split <;> exact ⟨Int.emod_nonneg _ (by omega), fun _ => Int.emod_lt_of_pos _ hn⟩

theorem nx_le (l : List Nat) (i : Nat) (n : Int) (h : i ≤ l.length) : (nx l i n).2 ≤ l.length := by
  unfold nx; split <;> (try split) <;> simp <;> omega

theorem getD_lt {l : List Nat} (h : ∀ x ∈ l, x < 256) (j : Nat) : l.getD j 0 < 256 := by
  rw [List.getD_eq_getElem?_getD]
  cases e : l[j]? with
  | none => simp
  | some x => exact h x (List.mem_of_getElem? e)

set_option maxHeartbeats 400000 in
theorem next_any (b : Nat) (l : List Nat) (i : Nat) (n : Int) (w : World) (h : CdAt w b l i) (hn : n ≤ 9223372036854775807) :
    Calls Try.prog 23 #[.pointer (some ⟨b, 0, none⟩), .int .i64 n] w fun e w' => e = .returned (.int .i64 (nx l i n).1) ∧ CdAt w' b l (nx l i n).2 ∧ Only b w w' := by
  by_cases h1 : n < 1
  · have e : nx l i n = (0, i) := by simp [nx, h1]
    rw [e]
    have H := Lib.hid h
    clear h e
    go_enter Try.func23, Try.ntmps23
    go_wp2
    go_quiet (fail)
    go_wp2
    go_ret
    exact ⟨rfl, H.out.drewN _, Only.drewN _ _ _⟩
  obtain ⟨a, cap, c0, c1, cf, hx⟩ := h.cells
  have hl3 := h.1
  have hi := h.2.1
  by_cases h2 : l.length ≤ i
  · have e : nx l i n = (0, i) := by simp [nx, h2]
    rw [e]
    have H := Lib.hid h
    clear h e hx
    have hd : decide (n < 1) = false := by simpa using h1
    have h2' : (l.length : Int) ≤ (i : Int) := by omega
    go_enter Try.func23, Try.ntmps23
    go_wp2
    go_quiet (fail)
    go_wp2
    go_ret
    exact ⟨rfl, H.out.drewN _, Only.drewN _ _ _⟩
  rcases hx with rfl | ⟨g, off, rfl, hg, hc⟩
  · simp at h2
  have x0 := hc i (by omega)
  have y0 := getD_lt h.2.2.1 i
  have hd : decide (n < 1) = false := by simpa using h1
  have h2' : (i : Int) < (l.length : Int) := by omega
  have hh := h.2.2.1
  have H := Lib.hid h
  clear h
  by_cases h3 : 256 < n
  · by_cases h4 : i + 1 < l.length
    · have e : nx l i n = (((l.getD i 0 : Int) * 256 + (l.getD (i + 1) 0 : Int)) % n, i + 2) := by
        unfold nx; rw [if_neg (by omega), if_pos ⟨h3, h4⟩]
      rw [e]
      have x1 := hc (i + 1) h4
      have y1 := getD_lt hh (i + 1)
      generalize l.getD i 0 = x at x0 y0
      generalize l.getD (i + 1) 0 = y at x1 y1
      have h4' : (i : Int) + 1 < (l.length : Int) := by omega
      clear e hc h4 h2
      go_enter Try.func23, Try.ntmps23
      go_wp2
      go_quiet (fail)
      go_wp2
      go_quiet (fail)
      go_wp2
      go_quiet (fail)
      go_wp2
      go_quiet (fail)
      go_wp2
      go_ret
      exact ⟨rfl, (((H.out.drewN _).set (i + 1) (by omega) (by omega)).drewN _).set (i + 2) (by omega) (by omega), (((Only.drewN _ _ _).set _ _).trans (Only.drewN _ _ _)).set _ _⟩
    · have e : nx l i n = ((l.getD i 0 : Int) % n, i + 1) := by
        unfold nx; rw [if_neg (by omega), if_neg (by omega)]
      rw [e]
      generalize l.getD i 0 = x at x0 y0
      have h4' : (l.length : Int) ≤ (i : Int) + 1 := by omega
      clear e hc h4 h2
      go_enter Try.func23, Try.ntmps23
      go_wp2
      go_quiet (fail)
      go_wp2
      go_quiet (fail)
      go_wp2
      go_quiet (fail)
      go_wp2
      go_ret
      exact ⟨rfl, ((H.out.drewN _).set (i + 1) (by omega) (by omega)).drewN _, ((Only.drewN _ _ _).set _ _).trans (Only.drewN _ _ _)⟩
  · have e : nx l i n = ((l.getD i 0 : Int) % n, i + 1) := by
      unfold nx; rw [if_neg (by omega), if_neg (by omega)]
    rw [e]
    generalize l.getD i 0 = x at x0 y0
    have h4' : decide (256 < n) = false := by simpa using h3
    clear e hc h2
    go_enter Try.func23, Try.ntmps23
    go_wp2
    go_quiet (fail)
    go_wp2
    go_quiet (fail)
    go_wp2
    go_quiet (fail)
    go_wp2
    go_ret
    exact ⟨rfl, ((H.out.drewN _).set (i + 1) (by omega) (by omega)).drewN _, ((Only.drewN _ _ _).set _ _).trans (Only.drewN _ _ _)⟩


theorem CdAt.fresh (w : World) (a : Option Addr) (n cap : Nat) (l : List Nat) (hn : n = (l.take 300).length) (hb : ∀ x ∈ l, x < 256)
    (hx : l = [] ∨ ∃ g off, a = some ⟨g, off, none⟩ ∧ ∀ j, j < l.length → w.cell? ⟨g, off + j, none⟩ = some (.int .u8 (l.getD j 0 : Nat))) :
    CdAt (w.alloc (.cells #[.slice a n cap, .int .i64 0] 78 (0, 0))) w.heap.size (l.take 300) 0 := by
  subst hn
  refine ⟨by rw [List.length_take]; omega, Nat.zero_le _, fun x hx => hb x (List.mem_of_mem_take hx), a, cap, ?_, ?_⟩
  · exact heap_alloc_new w _
  · rcases hx with rfl | ⟨g, off, ha, hc⟩
    · exact .inl rfl
    · by_cases hl : l = []
      · subst hl; exact .inl rfl
      right
      have h0 := hc 0 (List.length_pos_iff.2 hl)
      have hg := World.block_lt_of_cell? w _ h0
      refine ⟨g, off, ha, by simp at hg; omega, fun j hj => ?_⟩
      rw [List.length_take] at hj
      have e : (l.take 300).getD j 0 = l.getD j 0 := by
        rw [List.getD_eq_getElem?_getD, List.getElem?_take, if_pos (by omega), List.getD_eq_getElem?_getD]
      rw [e, ← hc j (by omega)]
      exact World.cell?_of_block (w := w) (Below.heap_alloc w _ g hg)

/-- New: a block more, which holds the first 300 codes. -/
theorem new_any (a : Option Addr) (len cap : Nat) (l : List Nat) (w : World) (hlen : l.length = len) (hcap : len ≤ cap) (hb : ∀ x ∈ l, x < 256)
    (hx : l = [] ∨ ∃ g off, a = some ⟨g, off, none⟩ ∧ ∀ j, j < l.length → w.cell? ⟨g, off + j, none⟩ = some (.int .u8 (l.getD j 0 : Nat))) :
    Calls Try.prog 20 #[.slice a len cap] w fun e w' => e = .returned (.pointer (some ⟨w.heap.size, 0, none⟩)) ∧ CdAt w' w.heap.size (l.take 300) 0 ∧ w'.heap.size = w.heap.size + 1 ∧ Below w.heap.size w w' := by
  have H := Lib.hid (CdAt.fresh w a (min len 300) cap l (by rw [List.length_take]; omega) hb hx)
  have Hl := Lib.hid hlen
  clear hx hlen
  go_enter Try.func20, Try.ntmps20
  go_wp2
  all_goals
    go_ret
    refine ⟨rfl, ?_, by simp, (Below.refl _ _).alloc (Nat.le_refl _) _⟩
    first
    | (have h := H.out; rw [show min len 300 = len by omega] at h; exact h)
    | (have h := H.out; rw [show min len 300 = 300 by omega] at h; exact h)
end Go.Proofs.Ytackckljldpldaa
