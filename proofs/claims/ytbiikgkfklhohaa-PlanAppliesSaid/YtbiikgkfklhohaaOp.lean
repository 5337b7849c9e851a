/- A mine that comes in, opened: its two lists. -/
import Derived.Test.YtbiikgkfklhohaaAw
import Derived.Deep.Slices
import Derived.Lib.SmallJoins
import Derived.ProofKit
import Derived.OpenShut
import Derived.ShutString
import Derived.ChangeOld
import Derived.Below
namespace Go.Proofs.Ytbiikgkfklhohaa
open Go.ChangeShapes Go.WideShapes Go.ChangeAt Go.RowKit Go.Deep Go.Joins
open Go.ChangeMaps (open_string shut_string)

theorem Try.cells3 : Try.prog.cellsOf 3 = 1 := by kernel_rfl
theorem Try.cells4 : Try.prog.cellsOf 4 = 1 := by kernel_rfl
theorem Try.cells39 : Try.prog.cellsOf 39 = 2 := by kernel_rfl
theorem Try.cells37 : Try.prog.cellsOf 37 = 2 := by kernel_rfl
theorem Try.cells41 : Try.prog.cellsOf 41 = 10 := by kernel_rfl
theorem Try.cells26 : Try.prog.cellsOf 26 = 2 := by kernel_rfl

theorem list2 {α : Type} {l : List α} (h : l.length = 2) : ∃ a b, l = [a, b] := by
  match l, h with
  | [a, b], _ => exact ⟨a, b, rfl⟩
theorem list10 {α : Type} {l : List α} (h : l.length = 10) : ∃ a b c d e f g i j k, l = [a, b, c, d, e, f, g, i, j, k] := by
  match l, h with
  | [a, b, c, d, e, f, g, i, j, k], _ => exact ⟨a, b, c, d, e, f, g, i, j, k, rfl⟩

section
variable {H : Type} {enc : TypeId × Value → H} {w : World} {base : Nat} {spare : Nat → Bool} {held : Bool}
theorem trod_sp {n : Nat} {cs : List Value} {x : DataW H × List MemPlace} (h : DataW.trod enc Try.prog w base spare held n 39 cs = some x) : ∃ s : Sp, cs = s.cells := by
  obtain ⟨xs, n, _, _, hl, hxl, hf⟩ := DataW.trod_struct Try.underlying39 h
  rw [Try.cells39] at hl
  obtain ⟨c0, c1, rfl⟩ := list2 hl
  obtain ⟨x0, x1, rfl⟩ := list2 (show xs.length = 2 from hxl)
  have h0 : DataW.trod enc Try.prog w base spare held n 3 (([c0, c1].drop 0).take (Try.prog.cellsOf 3)) = some x0 := hf 0 _ rfl
  have h1 : DataW.trod enc Try.prog w base spare held n 3 (([c0, c1].drop 1).take (Try.prog.cellsOf 3)) = some x1 := hf 1 _ rfl
  rw [Try.cells3] at h0 h1
  obtain ⟨a, e0, _⟩ := DataW.trod_int Try.underlying3 h0
  obtain ⟨b, e1, _⟩ := DataW.trod_int Try.underlying3 h1
  simp at e0 e1
  subst e0
  subst e1
  exact ⟨⟨a, b⟩, rfl⟩
theorem trod_pl {n : Nat} {cs : List Value} {x : DataW H × List MemPlace} (h : DataW.trod enc Try.prog w base spare held n 37 cs = some x) : ∃ s : Pl, cs = s.cells := by
  obtain ⟨xs, n, _, _, hl, hxl, hf⟩ := DataW.trod_struct Try.underlying37 h
  rw [Try.cells37] at hl
  obtain ⟨c0, c1, rfl⟩ := list2 hl
  obtain ⟨x0, x1, rfl⟩ := list2 (show xs.length = 2 from hxl)
  have h0 : DataW.trod enc Try.prog w base spare held n 3 (([c0, c1].drop 0).take (Try.prog.cellsOf 3)) = some x0 := hf 0 _ rfl
  have h1 : DataW.trod enc Try.prog w base spare held n 4 (([c0, c1].drop 1).take (Try.prog.cellsOf 4)) = some x1 := hf 1 _ rfl
  rw [Try.cells3] at h0
  rw [Try.cells4] at h1
  obtain ⟨a, e0, _⟩ := DataW.trod_int Try.underlying3 h0
  obtain ⟨b, e1, _⟩ := DataW.trod_bool Try.underlying4 h1
  simp at e0 e1
  subst e0
  subst e1
  exact ⟨⟨a, b⟩, rfl⟩
theorem trod_rd {n : Nat} {cs : List Value} {x : DataW H × List MemPlace} (h : DataW.trod enc Try.prog w base spare held n 41 cs = some x) : ∃ s : Rd, cs = s.cells := by
  obtain ⟨xs, n, _, _, hl, hxl, hf⟩ := DataW.trod_struct Try.underlying41 h
  rw [Try.cells41] at hl
  obtain ⟨c0, c1, c2, c3, c4, c5, c6, c7, c8, c9, rfl⟩ := list10 hl
  have some_at : ∀ i, i < 8 → ∃ y, xs[i]? = some y := fun i hi => ⟨_, List.getElem?_eq_getElem (by rw [show xs.length = 8 from hxl]; exact hi)⟩
  obtain ⟨y0, q0⟩ := some_at 0 (by omega)
  obtain ⟨y1, q1⟩ := some_at 1 (by omega)
  obtain ⟨y2, q2⟩ := some_at 2 (by omega)
  obtain ⟨y3, q3⟩ := some_at 3 (by omega)
  obtain ⟨y4, q4⟩ := some_at 4 (by omega)
  obtain ⟨y5, q5⟩ := some_at 5 (by omega)
  obtain ⟨y6, q6⟩ := some_at 6 (by omega)
  obtain ⟨y7, q7⟩ := some_at 7 (by omega)
  have h0 : DataW.trod enc Try.prog w base spare held n 3 (([c0, c1, c2, c3, c4, c5, c6, c7, c8, c9].drop 0).take (Try.prog.cellsOf 3)) = some y0 := (hf 0 _ rfl).trans q0
  have h1 : DataW.trod enc Try.prog w base spare held n 3 (([c0, c1, c2, c3, c4, c5, c6, c7, c8, c9].drop 1).take (Try.prog.cellsOf 3)) = some y1 := (hf 1 _ rfl).trans q1
  have h2 : DataW.trod enc Try.prog w base spare held n 3 (([c0, c1, c2, c3, c4, c5, c6, c7, c8, c9].drop 2).take (Try.prog.cellsOf 3)) = some y2 := (hf 2 _ rfl).trans q2
  have h3 : DataW.trod enc Try.prog w base spare held n 3 (([c0, c1, c2, c3, c4, c5, c6, c7, c8, c9].drop 3).take (Try.prog.cellsOf 3)) = some y3 := (hf 3 _ rfl).trans q3
  have h4 : DataW.trod enc Try.prog w base spare held n 4 (([c0, c1, c2, c3, c4, c5, c6, c7, c8, c9].drop 4).take (Try.prog.cellsOf 4)) = some y4 := (hf 4 _ rfl).trans q4
  have h5 : DataW.trod enc Try.prog w base spare held n 4 (([c0, c1, c2, c3, c4, c5, c6, c7, c8, c9].drop 5).take (Try.prog.cellsOf 4)) = some y5 := (hf 5 _ rfl).trans q5
  have h6 : DataW.trod enc Try.prog w base spare held n 39 (([c0, c1, c2, c3, c4, c5, c6, c7, c8, c9].drop 6).take (Try.prog.cellsOf 39)) = some y6 := (hf 6 _ rfl).trans q6
  have h7 : DataW.trod enc Try.prog w base spare held n 39 (([c0, c1, c2, c3, c4, c5, c6, c7, c8, c9].drop 8).take (Try.prog.cellsOf 39)) = some y7 := (hf 7 _ rfl).trans q7
  rw [Try.cells3] at h0 h1 h2 h3
  rw [Try.cells4] at h4 h5
  rw [Try.cells39] at h6 h7
  obtain ⟨a0, e0, _⟩ := DataW.trod_int Try.underlying3 h0
  obtain ⟨a1, e1, _⟩ := DataW.trod_int Try.underlying3 h1
  obtain ⟨a2, e2, _⟩ := DataW.trod_int Try.underlying3 h2
  obtain ⟨a3, e3, _⟩ := DataW.trod_int Try.underlying3 h3
  obtain ⟨a4, e4, _⟩ := DataW.trod_bool Try.underlying4 h4
  obtain ⟨a5, e5, _⟩ := DataW.trod_bool Try.underlying4 h5
  obtain ⟨a6, e6⟩ := trod_sp h6
  obtain ⟨a7, e7⟩ := trod_sp h7
  simp [Sp.cells] at e0 e1 e2 e3 e4 e5 e6 e7
  obtain ⟨rfl, rfl⟩ := e6
  obtain ⟨rfl, rfl⟩ := e7
  subst e0
  subst e1
  subst e2
  subst e3
  subst e4
  subst e5
  exact ⟨⟨a0, a1, a2, a3, a4, a5, a6, a7⟩, rfl⟩

/-- A slice that comes in, of elements that are read as cells. -/
theorem open_sl {α : Type} (cells : α → List Value) {t e : TypeId} {sz n : Nat} {cs : List Value} {x : DataW H × List MemPlace} (ht : Try.prog.underlying t = some (.slice e)) (hC : Try.prog.cellsOf e = sz) (hsz : 0 < sz) (hs : ∀ a, (cells a).length = sz)
    (hel : ∀ {n : Nat} {cs : List Value} {x : DataW H × List MemPlace}, DataW.trod enc Try.prog w base spare held n e cs = some x → ∃ a, cs = cells a)
    (h : DataW.trod enc Try.prog w base spare held n t cs = some x) : ∃ (v : Value) (l : List α), cs = [v] ∧ Sl w v sz l.length (l.flatMap cells) := by
  rcases open_slice ht h with ⟨rfl, _⟩ | ⟨a, len, cap, m, n, D, Pl, rfl, _, hl, hm, hmm, _, hx⟩
  · exact ⟨_, [], rfl, by simp, .inl ⟨rfl, .inl rfl⟩⟩
  · have hlm : len ≤ m := by rw [hmm]; split <;> omega
    have hch : ∀ k, k ≤ len → ∃ l : List α, l.length = k ∧ ∀ i, i < k → ∀ j, j < sz → w.cell? (a.add (i * sz + j)) = some ((l.flatMap cells).getD (i * sz + j) undef) := by
      intro k
      induction k with
      | zero => exact fun _ => ⟨[], rfl, fun i hi => by omega⟩
      | succ k ih =>
        intro hk
        obtain ⟨l, hll, hc⟩ := ih (by omega)
        obtain ⟨cs', h1, h2⟩ := hx k (by omega)
        rw [hC] at h1
        obtain ⟨_, hcl, hat⟩ := World.cells?_some h1
        obtain ⟨y, rfl⟩ := hel h2
        have hfl : (l.flatMap cells).length = k * sz := by
          rw [List.length_flatMap, show (fun a => (cells a).length) = fun _ => sz from funext hs, List.map_const', List.sum_replicate_nat, hll]
        refine ⟨l ++ [y], by simp [hll], fun i hi j hj => ?_⟩
        rw [List.flatMap_append, List.getD_eq_getElem?_getD]
        by_cases hik : i < k
        · have hlt : i * sz + j < (l.flatMap cells).length := by
            have h2 : (i + 1) * sz ≤ k * sz := Nat.mul_le_mul_right _ hik
            rw [Nat.add_mul, Nat.one_mul] at h2
            omega
          rw [List.getElem?_append_left hlt, hc i hik j hj, List.getD_eq_getElem?_getD]
        · have : i = k := by omega
          subst this
          rw [List.getElem?_append_right (by omega), show i * sz + j - (l.flatMap cells).length = j by omega]
          have e := hat j hj
          rw [Go.Deep.add_add] at e
          rw [e]
          have hjl : j < (cells y).length := by rw [hs]; exact hj
          simp [List.getElem?_eq_getElem hjl]
    obtain ⟨l, hll, hc⟩ := hch len (Nat.le_refl _)
    refine ⟨_, l, rfl, ?_, ?_⟩
    · rw [List.length_flatMap, show (fun a => (cells a).length) = fun _ => sz from funext hs, List.map_const', List.sum_replicate_nat]
    · by_cases h0 : l.length = 0
      · have hl0 : len = 0 := by omega
        subst hl0
        exact .inl ⟨h0, .inr ⟨a, cap, rfl, hm⟩⟩
      · have e0 := hc 0 (by omega) 0 hsz
        have hsp := World.cell?_spot e0
        obtain ⟨b, off, spot⟩ := a
        have hspot : spot = none := by simpa [Addr.add] using hsp
        subst hspot
        refine .inr ⟨b, off, cap, by rw [hll], by omega, hm, fun j hj => ?_⟩
        have hd : j = j / sz * sz + j % sz := by rw [Nat.mul_comm]; exact (Nat.div_add_mod j sz).symm
        have h1 : j / sz < len := by rw [← hll]; exact (Nat.div_lt_iff_lt_mul hsz).2 hj
        have h2 := hc (j / sz) h1 (j % sz) (Nat.mod_lt _ hsz)
        rw [← hd, add_off] at h2
        exact h2
end
end Go.Proofs.Ytbiikgkfklhohaa
