/- The document's Same of two lists of telegrams. -/
import Derived.Test.YtolkjklejcealaaFm
import Derived.Laws.BytesString
import Derived.Deep.QuietTactic
namespace Go.Proofs.Ytolkjklejcealaa
open Go.RowKit
attribute [local go_sem ↓] Go.wp_at_zero Go.wp_at_succ

def strB (l : List Nat) : ByteArray := l.foldl (fun r n => r.push (UInt8.ofNat n)) ByteArray.empty
/-- The string of a slice of bytes. -/
theorem conv_any {W : World} {v : Value} {l : List Nat} (h : Sl W v 1 l.length (bytes l)) : (convert 22 9 v).run Try.prog W = .ok (.string (strB l)) W := by
  obtain ⟨a, cap, rfl, hn, hm, hc⟩ := h.shape
  rw [run_convert_bytes_string W _ _ 5 a l.length cap Try.underlying22 Try.underlying5 Try.underlying9]
  rcases h.2 with ⟨h0, hv | ⟨a', c', hv, _⟩⟩ | ⟨g, off, c', hv, _, _, hcell⟩
  · injection hv with hv1 hv2 hv3
    subst hv1
    have hl : l = [] := List.eq_nil_of_length_eq_zero h0
    subst hl
    subst hv3
    rfl
  · injection hv with hv1 hv2 hv3
    subst hv1
    have hl : l = [] := List.eq_nil_of_length_eq_zero h0
    subst hl
    exact run_bytesToString W a' 0 cap [] rfl
  · injection hv with hv1 _ hv3
    subst hv1
    have e := run_bytesToString (P := Try.prog) W ⟨g, off, none⟩ l.length cap (l.map Int.ofNat) (by
      have h2 := run_loadCells_list (P := Try.prog) W ⟨g, off, none⟩ (bytes l) (fun j v hv => by
        rw [add_off]
        have hj : j < (bytes l).length := (List.getElem?_eq_some_iff.1 hv).1
        rw [hcell j (by rw [bytes_len] at hj; exact hj), List.getD_eq_getElem?_getD, hv]; rfl)
      rw [bytes_len, Nat.mul_one] at h2
      rw [h2]
      simp [bytes, List.map_map, Function.comp_def])
    rw [e, strB]
    congr 2
    rw [List.foldl_map]
    rfl

def fr0 : Fr := ⟨0, 0, []⟩
/-- A list of telegrams in memory. -/
def FrsV (W : World) (v : Value) (l : List Fr) : Prop := ∃ a cap, v = .slice a l.length cap ∧ l.length ≤ cap ∧ cap ≤ maxLen ∧ (l.length = 0 ∨ ∃ g off, a = some ⟨g, off, none⟩ ∧ ∀ k, k < l.length →
  W.cell? ⟨g, off + k * 3, none⟩ = some (.int .i64 (l.getD k fr0).addr) ∧ W.cell? ⟨g, off + k * 3 + 1, none⟩ = some (.int .i64 (l.getD k fr0).kind) ∧
  ∃ dv, W.cell? ⟨g, off + k * 3 + 2, none⟩ = some dv ∧ Sl W dv 1 (l.getD k fr0).data.length (bytes (l.getD k fr0).data))
theorem FrsV.by_ {W W' : World} {v : Value} {l : List Fr} (h : FrsV W v l) (o : W.grownBy W' none) : FrsV W' v l := by
  obtain ⟨a, cap, hv, h1, h2, h3⟩ := h
  refine ⟨a, cap, hv, h1, h2, ?_⟩
  rcases h3 with h3 | ⟨g, off, ha, hc⟩
  · exact .inl h3
  · have k : ∀ {x : Nat} {v : Value}, W.cell? ⟨g, x, none⟩ = some v → W'.cell? ⟨g, x, none⟩ = some v := fun {x v} e => by
      rw [← e]; exact gb_cell o (World.block_lt_of_cell? _ _ e) (by simp) _
    refine .inr ⟨g, off, ha, fun j hj => ?_⟩
    obtain ⟨e0, e1, dv, e2, hd⟩ := hc j hj
    exact ⟨k e0, k e1, dv, k e2, hd.by_ o⟩

set_option maxRecDepth 100000 in
set_option maxHeartbeats 4000000 in
theorem same_any (v v' : Value) (l : List Fr) (w : World) (h : FrsV w v l) (h' : FrsV w v' l) :
    Calls Try.prog 20 #[v, v'] w fun e w' => e = .returned (.bool true) ∧ w.grownBy w' none := by
  have HV := Lib.hid h
  have HV' := Lib.hid h'
  obtain ⟨a, c, rfl, hn, hm, _⟩ := h
  obtain ⟨a', c', rfl, hn', hm', _⟩ := h'
  unfold maxLen at hm hm'
  go_enter Try.func20, Try.ntmps20
  go_wp2_with fail
  go_loopw [5] (fun i wr => ∃ k : Nat, k ≤ l.length ∧ i = .int .i64 k ∧ w.grownBy wr none) (fun i _ => l.length - (intOf i).toNat)
  case atStart => exact ⟨0, Nat.zero_le _, rfl, gb_refl _ _⟩
  case round =>
    obtain ⟨k, hk, rfl, hg⟩ := hrel
    by_cases hlt : k < l.length
    · obtain ⟨_, _, hv, _, _, h3⟩ := HV.out.by_ hg
      obtain ⟨_, _, hv', _, _, h3'⟩ := HV'.out.by_ hg
      injection hv with x1 _ x2
      injection hv' with y1 _ y2
      subst x1 x2 y1 y2
      rcases h3 with h3 | ⟨g, off, rfl, hc⟩
      · omega
      rcases h3' with h3' | ⟨g', off', rfl, hc'⟩
      · omega
      obtain ⟨e0, e1, dv, e2, hd⟩ := hc k hlt
      obtain ⟨f0, f1, dv', f2, hd'⟩ := hc' k hlt
      have cv : ∀ q, (convert 22 9 dv).run Try.prog (wr.drewN q) = .ok (.string (strB (l.getD k fr0).data)) (wr.drewN q) := fun q => conv_any (hd.by_ (gb_drewN (gb_refl _ _) q))
      have cv' : ∀ q, (convert 22 9 dv').run Try.prog (wr.drewN q) = .ok (.string (strB (l.getD k fr0).data)) (wr.drewN q) := fun q => conv_any (hd'.by_ (gb_drewN (gb_refl _ _) q))
      obtain ⟨da, dc, rfl, _⟩ := hd.shape
      obtain ⟨da', dc', rfl, _⟩ := hd'.shape
      clear hc hc' hd hd'
      generalize l.getD k fr0 = f at *
      obtain ⟨addr, kind, data⟩ := f
      dsimp only at *
      have HG := Lib.hid hg
      have i0 : (0 : Int) ≤ (k : Int) := by omega
      have i1 : (k : Int) < (l.length : Int) := by omega
      clear hg
      go_wp2_with fail
      go_quiet (fail)
      go_wp2_with fail
      go_roundw
      case rel => exact ⟨k + 1, by omega, by go_num, gb_drewN HG.out _⟩
      case measure => simp [intOf]; omega
    · have HG := Lib.hid hg
      clear hg
      go_wp2_with fail
      go_ret
      exact ⟨rfl, HG.out⟩
end Go.Proofs.Ytolkjklejcealaa
