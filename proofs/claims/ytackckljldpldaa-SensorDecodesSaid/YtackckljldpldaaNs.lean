/- Stage 5: codes out of a slice; a drawn sensor is right. -/
import Derived.Test.YtackckljldpldaaMs
namespace Go.Proofs.Ytackckljldpldaa
open Go.RowKit
attribute [local go_sem ↓] Go.wp_at_zero Go.wp_at_succ loadAt_s

theorem new_sl (cv : Value) (l : List Nat) (w : World) (h : Sl w cv 1 l.length (bytes l)) (hb : ∀ x ∈ l, x < 256) :
    Calls Try.prog 20 #[cv] w fun e w' => e = .returned (.pointer (some ⟨w.heap.size, 0, none⟩)) ∧ (∃ l3, CdAt w' w.heap.size l3 0) ∧ w.grownBy w' none := by
  obtain ⟨a, cap, rfl, hn, hm, hx⟩ := h.shape
  refine (new_any a l.length cap l w rfl hn hb ?_).mono ?_
  · rcases hx with h0 | ⟨g, off, e, hc⟩
    · exact .inl (List.eq_nil_of_length_eq_zero h0)
    · refine .inr ⟨g, off, e, fun j hj => ?_⟩
      rw [hc j (by omega)]
      simp [bytes, List.getD_eq_getElem?_getD, hj]
  · rintro e w' ⟨rfl, hc, _, hbl⟩
    exact ⟨rfl, ⟨_, hc⟩, gb_b hbl⟩
theorem ck_of {s : Sn} (h1 : 1 ≤ s.kind ∧ s.kind ≤ 6) (h2 : snOk s) : ckSn s = 0 := by
  unfold ckSn
  rw [if_neg (by omega), if_neg (by simpa using h2)]
theorem ck_drawn {s : Sn} {kind addr target : Int} (hk : s.kind = kind ∧ s.addr = addr ∧ s.target = target) (hl : 1 ≤ s.life ∧ s.life ≤ 200)
    (hx : (4 ≤ kind ∧ s.offset = 0 ∧ s.scale = 1000 ∧ s.error = 0 ∧ s.drift = 0) ∨ (kind < 4 ∧ (-50 ≤ s.offset ∧ s.offset ≤ 20) ∧ (300 ≤ s.scale ∧ s.scale ≤ 2000) ∧ (0 ≤ s.error ∧ s.error ≤ 5) ∧ (0 ≤ s.drift ∧ s.drift ≤ 699)))
    (h1 : 1 ≤ kind ∧ kind ≤ 6) (h2 : 0 ≤ addr ∧ addr ≤ 255) (h3 : 0 ≤ target) : ckSn s = 0 := by
  refine ck_of (by omega) ?_
  unfold snOk
  omega
theorem sc_flow {s : Sn} (h : ckSn s = 0) (hk : s.kind = 3) {r : Int} (hr : 0 ≤ r ∧ r ≤ 65535) : valSn s r = (s.offset + (s.scale * r) / 1000 - s.error, s.offset + -((-(s.scale * r)) / 1000) + s.error) := by
  rw [valSn_sc h (by unfold grk; rw [hk]; simpa using hr) (by omega)]
  unfold scSn
  rw [if_neg (by omega)]
end Go.Proofs.Ytackckljldpldaa
