/- Lists of bytes, telegrams, sensors and lists of them that come in, opened. -/
import Derived.Test.YtackckljldpldaaWd
import Derived.Deep.Slices
import Derived.Lib.SmallJoins
import Derived.ProofKit
import Derived.OpenShut
import Derived.ShutString
import Derived.ChangeOld
import Derived.Below
namespace Go.Proofs.Ytackckljldpldaa
open Go.ChangeShapes Go.WideShapes Go.ChangeAt Go.RowKit Go.Deep Go.Joins
open Go.ChangeMaps (open_string shut_string)

theorem own : ownKnob Try.prog.godebug = none := by kernel_rfl
theorem laidOut : laidOutB Try.prog = true := by kernel_rfl
theorem Try.cells3 : Try.prog.cellsOf 3 = 1 := by kernel_rfl
theorem Try.cells22 : Try.prog.cellsOf 22 = 1 := by kernel_rfl
theorem Try.cells34 : Try.prog.cellsOf 34 = 3 := by kernel_rfl
theorem Try.cells24 : Try.prog.cellsOf 24 = 8 := by kernel_rfl
theorem list8 {α : Type} {l : List α} (h : l.length = 8) : ∃ a b c d e f g i, l = [a, b, c, d, e, f, g, i] := by
  match l, h with
  | [a, b, c, d, e, f, g, i], _ => exact ⟨a, b, c, d, e, f, g, i, rfl⟩
theorem list2 {α : Type} {l : List α} (h : l.length = 2) : ∃ a b, l = [a, b] := by
  match l, h with
  | [a, b], _ => exact ⟨a, b, rfl⟩
theorem list3 {α : Type} {l : List α} (h : l.length = 3) : ∃ a b c, l = [a, b, c] := by
  match l, h with
  | [a, b, c], _ => exact ⟨a, b, c, rfl⟩

section
variable {H : Type} {enc : TypeId × Value → H} {w : World} {base : Nat} {spare : Nat → Bool} {held : Bool}
/-- A list of bytes that comes in. -/
theorem trod_bs {n : Nat} {cs : List Value} {x : DataW H × List MemPlace} (h : DataW.trod enc Try.prog w base spare held n 22 cs = some x) : ∃ (v : Value) (l : List Nat), cs = [v] ∧ Sl w v 1 l.length (bytes l) ∧ ∀ x ∈ l, x < 256 := by
  rcases open_ints Try.underlying22 Try.underlying5 (by kernel_rfl) h with ⟨hcs, _⟩ | ⟨x, len, cap, zs, hcs, _, hl, hm, hz, _, hcell, hwz⟩
  · exact ⟨_, [], hcs, ⟨rfl, .inl ⟨rfl, .inl rfl⟩⟩, by simp⟩
  · have hzl : len ≤ zs.length := by rw [hz]; split <;> omega
    have hb : ∀ n ∈ zs, 0 ≤ n ∧ n < 256 := fun n hn => by
      have := Go.bounds_u8 (hwz n hn)
      omega
    have hlen : ((zs.take len).map Int.toNat).length = len := by simp; omega
    refine ⟨_, (zs.take len).map Int.toNat, hcs, ⟨bytes_len _, ?_⟩, fun x hx => ?_⟩
    · rw [hlen]
      by_cases h0 : len = 0
      · subst h0
        exact .inl ⟨rfl, .inr ⟨_, _, rfl, hm⟩⟩
      · right
        have hc0 := hcell 0 (by omega)
        obtain ⟨b, off, spot⟩ := x
        have hspot : spot = none := by simpa [Addr.add] using World.cell?_spot hc0
        subst hspot
        refine ⟨b, off, cap, rfl, hl, hm, fun j hj => ?_⟩
        have hjl : j < len := by omega
        have hcj := hcell j (by omega)
        rw [add_off] at hcj
        rw [hcj]
        have hzj := hb (zs.getD j 0) (by rw [List.getD_eq_getElem?_getD, List.getElem?_eq_getElem (by omega)]; exact List.getElem_mem _)
        simp [bytes, List.getD_eq_getElem?_getD, List.getElem?_map, hjl, List.getElem?_eq_getElem (show j < zs.length by omega)] at hzj ⊢
        omega
    · obtain ⟨z, hz1, rfl⟩ := List.mem_map.1 hx
      have := hb z (List.mem_of_mem_take hz1)
      omega
theorem open_bs {v : Value} {d : DataW H} {p : List MemPlace} {a : Option Addr} {len cap : Nat} (hv : v = .slice a len cap) (h : DataW.Trod enc Try.prog w base spare held 22 v d p) : ∃ l : List Nat, Sl w v 1 l.length (bytes l) ∧ ∀ x ∈ l, x < 256 := by
  obtain ⟨fuel, hf⟩ := h
  obtain ⟨v', l, hcs, hs, hb⟩ := trod_bs hf
  subst hv
  simp [Value.cells] at hcs
  subst hcs
  exact ⟨l, hs, hb⟩
theorem open_frame {r : Reach} {b0 : Nat} {v : Value} {d : DataW H} {p : List MemPlace} (hv : Value.okWide Try.prog w r b0 34 v) (h : DataW.Trod enc Try.prog w base spare held 34 v d p) :
    ∃ (f : Fr) (dv : Value), v = .agg #[.int .i64 f.addr, .int .i64 f.kind, dv] ∧ Sl w dv 1 f.data.length (bytes f.data) ∧ ∀ x ∈ f.data, x < 256 := by
  obtain ⟨cs, rfl, hsz⟩ := okWide_struct Try.underlying34 hv
  obtain ⟨fuel, hf⟩ := h
  obtain ⟨xs, n, _, _, hl, hxl, hf⟩ := DataW.trod_struct Try.underlying34 hf
  rw [Try.cells34] at hl
  obtain ⟨c0, c1, c2, hc⟩ := list3 hl
  obtain ⟨y0, y1, y2, rfl⟩ := list3 (show xs.length = 3 from hxl)
  rw [hc] at hf
  have h0 : DataW.trod enc Try.prog w base spare held n 3 (([c0, c1, c2].drop 0).take (Try.prog.cellsOf 3)) = some y0 := hf 0 _ rfl
  have h1 : DataW.trod enc Try.prog w base spare held n 3 (([c0, c1, c2].drop 1).take (Try.prog.cellsOf 3)) = some y1 := hf 1 _ rfl
  have h2 : DataW.trod enc Try.prog w base spare held n 22 (([c0, c1, c2].drop 2).take (Try.prog.cellsOf 22)) = some y2 := hf 2 _ rfl
  rw [Try.cells3] at h0 h1
  rw [Try.cells22] at h2
  obtain ⟨a0, e0, _⟩ := DataW.trod_int Try.underlying3 h0
  obtain ⟨a1, e1, _⟩ := DataW.trod_int Try.underlying3 h1
  obtain ⟨dv, l, e2, hs, hb⟩ := trod_bs h2
  simp at e0 e1 e2
  subst e0 e1 e2
  refine ⟨⟨a0, a1, l⟩, _, ?_, hs, hb⟩
  congr 1
  simp [Value.cells] at hc
  exact Array.ext' hc
/-- A slice that comes in, of elements that are read as cells. -/
theorem open_sl {α : Type} (cells : α → List Value) {t e : TypeId} {sz n : Nat} {cs : List Value} {x : DataW H × List MemPlace} (ht : Try.prog.underlying t = some (.slice e)) (hC : Try.prog.cellsOf e = sz) (hsz : 0 < sz) (hs : ∀ a, (cells a).length = sz)
    (hel : ∀ {n : Nat} {cs : List Value} {x : DataW H × List MemPlace}, DataW.trod enc Try.prog w base spare held n e cs = some x → ∃ a, cs = cells a)
    (h : DataW.trod enc Try.prog w base spare held n t cs = some x) : ∃ (v : Value) (l : List α), cs = [v] ∧ Sl w v sz l.length (l.flatMap cells) := by
  rcases open_slice ht h with ⟨rfl, _⟩ | ⟨a, len, cap, m, n, D, Pl, rfl, _, hl, hm, hmm, _, hx⟩
  · exact ⟨_, [], rfl, by simp, .inl ⟨rfl, .inl rfl⟩⟩
  · have hlm : len ≤ m := by rw [hmm]; split <;> omega
    have hch : ∀ k, k ≤ len → ∃ l : List α, l.length = k ∧ ∀ i, i < k → ∀ j, j < sz → w.cell? (a.add (i * sz + j)) = some ((l.flatMap cells).getD (i * sz + j) undef) := by
      intro k
      induction k with
      | zero => exact fun _ => ⟨[], rfl, fun i hi => by omega⟩
      | succ k ih =>
        intro hk
        obtain ⟨l, hll, hc⟩ := ih (by omega)
        obtain ⟨cs', h1, h2⟩ := hx k (by omega)
        rw [hC] at h1
        obtain ⟨_, hcl, hat⟩ := World.cells?_some h1
        obtain ⟨y, rfl⟩ := hel h2
        have hfl : (l.flatMap cells).length = k * sz := by
          rw [List.length_flatMap, show (fun a => (cells a).length) = fun _ => sz from funext hs, List.map_const', List.sum_replicate_nat, hll]
        refine ⟨l ++ [y], by simp [hll], fun i hi j hj => ?_⟩
        rw [List.flatMap_append, List.getD_eq_getElem?_getD]
        by_cases hik : i < k
        · have hlt : i * sz + j < (l.flatMap cells).length := by
            have h2 : (i + 1) * sz ≤ k * sz := Nat.mul_le_mul_right _ hik
            rw [Nat.add_mul, Nat.one_mul] at h2
            omega
          rw [List.getElem?_append_left hlt, hc i hik j hj, List.getD_eq_getElem?_getD]
        · have : i = k := by omega
          subst this
          rw [List.getElem?_append_right (by omega), show i * sz + j - (l.flatMap cells).length = j by omega]
          have e := hat j hj
          rw [Go.Deep.add_add] at e
          rw [e]
          have hjl : j < (cells y).length := by rw [hs]; exact hj
          simp [List.getElem?_eq_getElem hjl]
    obtain ⟨l, hll, hc⟩ := hch len (Nat.le_refl _)
    refine ⟨_, l, rfl, ?_, ?_⟩
    · rw [List.length_flatMap, show (fun a => (cells a).length) = fun _ => sz from funext hs, List.map_const', List.sum_replicate_nat]
    · by_cases h0 : l.length = 0
      · have hl0 : len = 0 := by omega
        subst hl0
        exact .inl ⟨h0, .inr ⟨a, cap, rfl, hm⟩⟩
      · have e0 := hc 0 (by omega) 0 hsz
        have hsp := World.cell?_spot e0
        obtain ⟨b, off, spot⟩ := a
        have hspot : spot = none := by simpa [Addr.add] using hsp
        subst hspot
        refine .inr ⟨b, off, cap, by rw [hll], by omega, hm, fun j hj => ?_⟩
        have hd : j = j / sz * sz + j % sz := by rw [Nat.mul_comm]; exact (Nat.div_add_mod j sz).symm
        have h1 : j / sz < len := by rw [← hll]; exact (Nat.div_lt_iff_lt_mul hsz).2 hj
        have h2 := hc (j / sz) h1 (j % sz) (Nat.mod_lt _ hsz)
        rw [← hd, add_off] at h2
        exact h2
theorem trod_sn {n : Nat} {cs : List Value} {x : DataW H × List MemPlace} (h : DataW.trod enc Try.prog w base spare held n 24 cs = some x) : ∃ s : Sn, cs = senL s := by
  obtain ⟨xs, n, _, _, hl, hxl, hf⟩ := DataW.trod_struct Try.underlying24 h
  rw [Try.cells24] at hl
  obtain ⟨c0, c1, c2, c3, c4, c5, c6, c7, rfl⟩ := list8 hl
  obtain ⟨y0, y1, y2, y3, y4, y5, y6, y7, rfl⟩ := list8 (show xs.length = 8 from hxl)
  have h0 : DataW.trod enc Try.prog w base spare held n 3 (([c0, c1, c2, c3, c4, c5, c6, c7].drop 0).take (Try.prog.cellsOf 3)) = some y0 := hf 0 _ rfl
  have h1 : DataW.trod enc Try.prog w base spare held n 3 (([c0, c1, c2, c3, c4, c5, c6, c7].drop 1).take (Try.prog.cellsOf 3)) = some y1 := hf 1 _ rfl
  have h2 : DataW.trod enc Try.prog w base spare held n 3 (([c0, c1, c2, c3, c4, c5, c6, c7].drop 2).take (Try.prog.cellsOf 3)) = some y2 := hf 2 _ rfl
  have h3 : DataW.trod enc Try.prog w base spare held n 3 (([c0, c1, c2, c3, c4, c5, c6, c7].drop 3).take (Try.prog.cellsOf 3)) = some y3 := hf 3 _ rfl
  have h4 : DataW.trod enc Try.prog w base spare held n 3 (([c0, c1, c2, c3, c4, c5, c6, c7].drop 4).take (Try.prog.cellsOf 3)) = some y4 := hf 4 _ rfl
  have h5 : DataW.trod enc Try.prog w base spare held n 3 (([c0, c1, c2, c3, c4, c5, c6, c7].drop 5).take (Try.prog.cellsOf 3)) = some y5 := hf 5 _ rfl
  have h6 : DataW.trod enc Try.prog w base spare held n 3 (([c0, c1, c2, c3, c4, c5, c6, c7].drop 6).take (Try.prog.cellsOf 3)) = some y6 := hf 6 _ rfl
  have h7 : DataW.trod enc Try.prog w base spare held n 3 (([c0, c1, c2, c3, c4, c5, c6, c7].drop 7).take (Try.prog.cellsOf 3)) = some y7 := hf 7 _ rfl
  rw [Try.cells3] at h0 h1 h2 h3 h4 h5 h6 h7
  obtain ⟨a0, e0, _⟩ := DataW.trod_int Try.underlying3 h0
  obtain ⟨a1, e1, _⟩ := DataW.trod_int Try.underlying3 h1
  obtain ⟨a2, e2, _⟩ := DataW.trod_int Try.underlying3 h2
  obtain ⟨a3, e3, _⟩ := DataW.trod_int Try.underlying3 h3
  obtain ⟨a4, e4, _⟩ := DataW.trod_int Try.underlying3 h4
  obtain ⟨a5, e5, _⟩ := DataW.trod_int Try.underlying3 h5
  obtain ⟨a6, e6, _⟩ := DataW.trod_int Try.underlying3 h6
  obtain ⟨a7, e7, _⟩ := DataW.trod_int Try.underlying3 h7
  simp at e0 e1 e2 e3 e4 e5 e6 e7
  subst e0 e1 e2 e3 e4 e5 e6 e7
  exact ⟨⟨a0, a1, a2, a3, a4, a5, a6, a7⟩, rfl⟩
theorem open_sensor {r : Reach} {b0 : Nat} {v : Value} {d : DataW H} {p : List MemPlace} (hv : Value.okWide Try.prog w r b0 24 v) (h : DataW.Trod enc Try.prog w base spare held 24 v d p) :
    ∃ s : Sn, v = .agg (senL s).toArray := by
  obtain ⟨cs, rfl, hsz⟩ := okWide_struct Try.underlying24 hv
  obtain ⟨fuel, hf⟩ := h
  obtain ⟨s, hs⟩ := trod_sn hf
  refine ⟨s, ?_⟩
  congr 1
  simp only [Value.cells] at hs
  exact Array.ext' hs
theorem open_sensors {v : Value} {d : DataW H} {p : List MemPlace} {a : Option Addr} {len cap : Nat} (hv : v = .slice a len cap) (h : DataW.Trod enc Try.prog w base spare held 27 v d p) : ∃ l : List Sn, Sl w v 8 l.length (l.flatMap senL) := by
  obtain ⟨fuel, hf⟩ := h
  obtain ⟨v', l, hcs, hs⟩ := open_sl senL (sz := 8) Try.underlying27 Try.cells24 (by omega) (fun _ => rfl) trod_sn hf
  subst hv
  simp [Value.cells] at hcs
  subst hcs
  exact ⟨l, hs⟩
end
end Go.Proofs.Ytackckljldpldaa
