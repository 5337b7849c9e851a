/- Lists of spans that come in, opened. -/
import Derived.Test.YtackckljldpldaaO6
namespace Go.Proofs.Ytackckljldpldaa
open Go.ChangeShapes Go.WideShapes Go.ChangeAt Go.RowKit Go.Deep Go.Joins
open Go.ChangeMaps (open_string shut_string)

section
variable {H : Type} {enc : TypeId × Value → H} {w : World} {base : Nat} {spare : Nat → Bool} {held : Bool}
theorem open_spans {v : Value} {d : DataW H} {p : List MemPlace} {a : Option Addr} {len cap : Nat} (hv : v = .slice a len cap) (h : DataW.Trod enc Try.prog w base spare held 63 v d p) : ∃ l : List (Int × Int), Sl w v 2 l.length (l.flatMap spL) ∧ ∀ q ∈ l, SpOk q := by
  obtain ⟨fuel, hf⟩ := h
  obtain ⟨v', l, hcs, hs⟩ := open_sl (fun q : {p : Int × Int // SpOk p} => spL q.1) (sz := 2) Try.underlying63 Try.cells29 (by omega) (fun _ => rfl) trod_sp hf
  subst hv
  simp [Value.cells] at hcs
  subst hcs
  refine ⟨l.map (·.1), ?_, fun q hq => ?_⟩
  · rw [List.length_map, List.flatMap_map]
    exact hs
  · obtain ⟨x, _, rfl⟩ := List.mem_map.1 hq
    exact x.2
end
end Go.Proofs.Ytackckljldpldaa
