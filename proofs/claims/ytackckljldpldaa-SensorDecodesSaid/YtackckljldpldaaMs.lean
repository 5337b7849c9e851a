/- Stage 5, a made sensor out of a slice. -/
import Derived.Test.YtackckljldpldaaWd
namespace Go.Proofs.Ytackckljldpldaa
open Go.RowKit
attribute [local go_sem ↓] Go.wp_at_zero Go.wp_at_succ loadAt_s

theorem refCk_v (s : Sn) (w : World) : Calls Try.prog 49 #[snV s] w fun e w' => e = .returned (.int .i64 (ckSn s)) ∧ w.grownBy w' none := refCk_any s w

theorem made_sl (cv : Value) (l : List Nat) (by_ : Int) (w : World) (h : Sl w cv 1 l.length (bytes l)) (hb : ∀ x ∈ l, x < 256) :
    Calls Try.prog 16 #[cv, .int .i64 by_] w fun e w' => ∃ s : Sn, e = .returned (.agg (senL s).toArray) ∧ w.grownBy w' none := by
  obtain ⟨a, cap, rfl, hn, hm, hx⟩ := h.shape
  refine made_any a l.length cap l by_ w rfl hn hb ?_
  rcases hx with h0 | ⟨g, off, e, hc⟩
  · exact .inl (List.eq_nil_of_length_eq_zero h0)
  · refine .inr ⟨g, off, e, fun j hj => ?_⟩
    rw [hc j (by omega)]
    simp [bytes, List.getD_eq_getElem?_getD, hj]
end Go.Proofs.Ytackckljldpldaa
