/- Lists of bytes, telegrams and readers that come in, opened. -/
import Derived.Test.YtolkjklejcealaaSa
import Derived.Deep.Slices
import Derived.Lib.SmallJoins
import Derived.ProofKit
import Derived.OpenShut
import Derived.ShutString
import Derived.ChangeOld
import Derived.Below
namespace Go.Proofs.Ytolkjklejcealaa
open Go.ChangeShapes Go.WideShapes Go.ChangeAt Go.RowKit Go.Deep Go.Joins
open Go.ChangeMaps (open_string shut_string)

theorem own : ownKnob Try.prog.godebug = none := by kernel_rfl
theorem laidOut : laidOutB Try.prog = true := by kernel_rfl
theorem Try.cells3 : Try.prog.cellsOf 3 = 1 := by kernel_rfl
theorem Try.cells22 : Try.prog.cellsOf 22 = 1 := by kernel_rfl
theorem Try.cells24 : Try.prog.cellsOf 24 = 3 := by kernel_rfl
theorem Try.cells36 : Try.prog.cellsOf 36 = 2 := by kernel_rfl
theorem list2 {α : Type} {l : List α} (h : l.length = 2) : ∃ a b, l = [a, b] := by
  match l, h with
  | [a, b], _ => exact ⟨a, b, rfl⟩
theorem list3 {α : Type} {l : List α} (h : l.length = 3) : ∃ a b c, l = [a, b, c] := by
  match l, h with
  | [a, b, c], _ => exact ⟨a, b, c, rfl⟩

section
variable {H : Type} {enc : TypeId × Value → H} {w : World} {base : Nat} {spare : Nat → Bool} {held : Bool}
/-- A list of bytes that comes in. -/
theorem trod_bs {n : Nat} {cs : List Value} {x : DataW H × List MemPlace} (h : DataW.trod enc Try.prog w base spare held n 22 cs = some x) : ∃ (v : Value) (l : List Nat), cs = [v] ∧ Sl w v 1 l.length (bytes l) ∧ ∀ x ∈ l, x < 256 := by
  rcases open_ints Try.underlying22 Try.underlying5 (by kernel_rfl) h with ⟨hcs, _⟩ | ⟨x, len, cap, zs, hcs, _, hl, hm, hz, _, hcell, hwz⟩
  · exact ⟨_, [], hcs, ⟨rfl, .inl ⟨rfl, .inl rfl⟩⟩, by simp⟩
  · have hzl : len ≤ zs.length := by rw [hz]; split <;> omega
    have hb : ∀ n ∈ zs, 0 ≤ n ∧ n < 256 := fun n hn => by
      have := Go.bounds_u8 (hwz n hn)
      omega
    have hlen : ((zs.take len).map Int.toNat).length = len := by simp; omega
    refine ⟨_, (zs.take len).map Int.toNat, hcs, ⟨bytes_len _, ?_⟩, fun x hx => ?_⟩
    · rw [hlen]
      by_cases h0 : len = 0
      · subst h0
        exact .inl ⟨rfl, .inr ⟨_, _, rfl, hm⟩⟩
      · right
        have hc0 := hcell 0 (by omega)
        obtain ⟨b, off, spot⟩ := x
        have hspot : spot = none := by simpa [Addr.add] using World.cell?_spot hc0
        subst hspot
        refine ⟨b, off, cap, rfl, hl, hm, fun j hj => ?_⟩
        have hjl : j < len := by omega
        have hcj := hcell j (by omega)
        rw [add_off] at hcj
        rw [hcj]
        have hzj := hb (zs.getD j 0) (by rw [List.getD_eq_getElem?_getD, List.getElem?_eq_getElem (by omega)]; exact List.getElem_mem _)
        simp [bytes, List.getD_eq_getElem?_getD, List.getElem?_map, hjl, List.getElem?_eq_getElem (show j < zs.length by omega)] at hzj ⊢
        omega
    · obtain ⟨z, hz1, rfl⟩ := List.mem_map.1 hx
      have := hb z (List.mem_of_mem_take hz1)
      omega
theorem open_bs {v : Value} {d : DataW H} {p : List MemPlace} {a : Option Addr} {len cap : Nat} (hv : v = .slice a len cap) (h : DataW.Trod enc Try.prog w base spare held 22 v d p) : ∃ l : List Nat, Sl w v 1 l.length (bytes l) ∧ ∀ x ∈ l, x < 256 := by
  obtain ⟨fuel, hf⟩ := h
  obtain ⟨v', l, hcs, hs, hb⟩ := trod_bs hf
  subst hv
  simp [Value.cells] at hcs
  subst hcs
  exact ⟨l, hs, hb⟩
theorem open_frame {r : Reach} {b0 : Nat} {v : Value} {d : DataW H} {p : List MemPlace} (hv : Value.okWide Try.prog w r b0 24 v) (h : DataW.Trod enc Try.prog w base spare held 24 v d p) :
    ∃ (f : Fr) (dv : Value), v = .agg #[.int .i64 f.addr, .int .i64 f.kind, dv] ∧ Sl w dv 1 f.data.length (bytes f.data) ∧ ∀ x ∈ f.data, x < 256 := by
  obtain ⟨cs, rfl, hsz⟩ := okWide_struct Try.underlying24 hv
  obtain ⟨fuel, hf⟩ := h
  obtain ⟨xs, n, _, _, hl, hxl, hf⟩ := DataW.trod_struct Try.underlying24 hf
  rw [Try.cells24] at hl
  obtain ⟨c0, c1, c2, hc⟩ := list3 hl
  obtain ⟨y0, y1, y2, rfl⟩ := list3 (show xs.length = 3 from hxl)
  rw [hc] at hf
  have h0 : DataW.trod enc Try.prog w base spare held n 3 (([c0, c1, c2].drop 0).take (Try.prog.cellsOf 3)) = some y0 := hf 0 _ rfl
  have h1 : DataW.trod enc Try.prog w base spare held n 3 (([c0, c1, c2].drop 1).take (Try.prog.cellsOf 3)) = some y1 := hf 1 _ rfl
  have h2 : DataW.trod enc Try.prog w base spare held n 22 (([c0, c1, c2].drop 2).take (Try.prog.cellsOf 22)) = some y2 := hf 2 _ rfl
  rw [Try.cells3] at h0 h1
  rw [Try.cells22] at h2
  obtain ⟨a0, e0, _⟩ := DataW.trod_int Try.underlying3 h0
  obtain ⟨a1, e1, _⟩ := DataW.trod_int Try.underlying3 h1
  obtain ⟨dv, l, e2, hs, hb⟩ := trod_bs h2
  simp at e0 e1 e2
  subst e0 e1 e2
  refine ⟨⟨a0, a1, l⟩, _, ?_, hs, hb⟩
  congr 1
  simp [Value.cells] at hc
  exact Array.ext' hc
theorem open_reader {r : Reach} {b0 : Nat} {v : Value} {d : DataW H} {p : List MemPlace} (hv : Value.okWide Try.prog w r b0 36 v) (h : DataW.Trod enc Try.prog w base spare held 36 v d p) :
    ∃ (l : List Nat) (hv : Value) (z : Int), v = .agg #[hv, .int .i64 z] ∧ Sl w hv 1 l.length (bytes l) ∧ (∀ x ∈ l, x < 256) ∧ -9223372036854775808 ≤ z ∧ z ≤ 9223372036854775807 := by
  obtain ⟨cs, rfl, hsz⟩ := okWide_struct Try.underlying36 hv
  obtain ⟨fuel, hf⟩ := h
  obtain ⟨xs, n, _, _, hl, hxl, hf⟩ := DataW.trod_struct Try.underlying36 hf
  rw [Try.cells36] at hl
  obtain ⟨c0, c1, hc⟩ := list2 hl
  obtain ⟨y0, y1, rfl⟩ := list2 (show xs.length = 2 from hxl)
  rw [hc] at hf
  have h0 : DataW.trod enc Try.prog w base spare held n 22 (([c0, c1].drop 0).take (Try.prog.cellsOf 22)) = some y0 := hf 0 _ rfl
  have h1 : DataW.trod enc Try.prog w base spare held n 3 (([c0, c1].drop 1).take (Try.prog.cellsOf 3)) = some y1 := hf 1 _ rfl
  rw [Try.cells22] at h0
  rw [Try.cells3] at h1
  obtain ⟨a1, e1, _, w1⟩ := DataW.trod_int Try.underlying3 h1
  obtain ⟨dv, l, e0, hs, hb⟩ := trod_bs h0
  have b1 := Go.bounds_i64 w1
  simp at e0 e1
  subst e0 e1
  refine ⟨l, _, a1, ?_, hs, hb, b1.1, b1.2⟩
  congr 1
  simp [Value.cells] at hc
  exact Array.ext' hc
end
end Go.Proofs.Ytolkjklejcealaa
