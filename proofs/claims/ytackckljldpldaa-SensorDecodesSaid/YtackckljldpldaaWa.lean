/- Stage 5, a sensor of a list as one step; the program's search for an address. -/
import Derived.Test.YtackckljldpldaaW9
import Derived.Deep.MidRow
namespace Go.Proofs.Ytackckljldpldaa
open Go.RowKit
attribute [local go_sem ↓] Go.wp_at_zero Go.wp_at_succ

def sn0 : Sn := ⟨0, 0, 0, 0, 0, 0, 0, 0⟩
/-- A sensor as a value. -/
def snV (s : Sn) : Value := .agg (senL s).toArray
theorem snV_eq (s : Sn) : Value.agg (senL s).toArray = snV s := rfl
/-- The cells of a sensor. -/
def SnAt (W : World) (g o : Nat) (s : Sn) : Prop := W.cell? ⟨g, o, none⟩ = some (.int .i64 s.addr) ∧ W.cell? ⟨g, o + 1, none⟩ = some (.int .i64 s.kind) ∧ W.cell? ⟨g, o + 2, none⟩ = some (.int .i64 s.target) ∧ W.cell? ⟨g, o + 3, none⟩ = some (.int .i64 s.offset) ∧ W.cell? ⟨g, o + 4, none⟩ = some (.int .i64 s.scale) ∧ W.cell? ⟨g, o + 5, none⟩ = some (.int .i64 s.error) ∧ W.cell? ⟨g, o + 6, none⟩ = some (.int .i64 s.drift) ∧ W.cell? ⟨g, o + 7, none⟩ = some (.int .i64 s.life)
theorem SnAt.by_ {W W' : World} {g o : Nat} {s : Sn} (h : SnAt W g o s) (q : W.grownBy W' none) : SnAt W' g o s := by
  have k : ∀ {x : Nat} {v : Value}, W.cell? ⟨g, x, none⟩ = some v → W'.cell? ⟨g, x, none⟩ = some v := fun {x v} e => by
    rw [← e]; exact gb_cell q (World.block_lt_of_cell? _ _ e) (by simp) _
  obtain ⟨h0, h1, h2, h3, h4, h5, h6, h7⟩ := h
  exact ⟨k h0, k h1, k h2, k h3, k h4, k h5, k h6, k h7⟩
theorem SnAt.cells {W : World} {g o : Nat} {s : Sn} (h : SnAt W g o s) (j : Nat) (v : Value) (hv : (senL s)[j]? = some v) : W.cell? ⟨g, o + j, none⟩ = some v := by
  obtain ⟨h0, h1, h2, h3, h4, h5, h6, h7⟩ := h
  match j with
  | 0 => cases hv; exact h0
  | 1 => cases hv; exact h1
  | 2 => cases hv; exact h2
  | 3 => cases hv; exact h3
  | 4 => cases hv; exact h4
  | 5 => cases hv; exact h5
  | 6 => cases hv; exact h6
  | 7 => cases hv; exact h7
  | n + 8 => cases hv
theorem Sl.snAt {w : World} {lv : Value} {l : List Sn} (h : Sl w lv 8 l.length (l.flatMap senL)) {k : Nat} (hk : k < l.length) : ∃ g off cap, lv = .slice (some ⟨g, off, none⟩) l.length cap ∧ cap ≤ maxLen ∧ SnAt w g (off + k * 8) (l.getD k sn0) := by
  obtain ⟨a, cap, rfl, hn, hm, h0⟩ := h.shape
  rcases h0 with h0 | ⟨g, off, rfl, hc⟩
  · omega
  have e := fun j hj => Sl.elem (enc := senL) (sz := 8) (fun _ => rfl) sn0 hc k j hk hj
  exact ⟨g, off, cap, rfl, hm, e 0 (by omega), e 1 (by omega), e 2 (by omega), e 3 (by omega), e 4 (by omega), e 5 (by omega), e 6 (by omega), e 7 (by omega)⟩
theorem Bk.snAt {W : World} {g : Nat} {s : Sn} (k : Bk W g (senL s).toArray 24) : SnAt W g 0 s := ⟨k.cell 0, k.cell 1, k.cell 2, k.cell 3, k.cell 4, k.cell 5, k.cell 6, k.cell 7⟩

/-- The load of a sensor as one step. -/
noncomputable def loadS (x : Value) : Sem Value := Instr.loadAt 24 x
theorem loadAt_s (x : Value) : Instr.loadAt 24 x = loadS x := rfl
theorem run_loadS {W : World} {g o : Nat} {s : Sn} (k : SnAt W g o s) : (loadS (.pointer (some ⟨g, o, none⟩))).run Try.prog W = .ok (snV s) W :=
  (run_loadAt_mid W g o 24 (senL s) _ (fun j v hv => k.cells j v hv) Try.underlying24 rfl (by kernel_rfl)).trans rfl

/-- The first place, from k on, of a sensor with an address; or -1. -/
def fIdx (a : Int) : Nat → List Sn → Int
  | _, [] => -1
  | k, s :: l => if s.addr = a then (k : Int) else fIdx a (k + 1) l

theorem eq_any (n1 : Nat) (ad : Int) (s : Sn) (w : World) (h : w.cell? ⟨n1, 0, none⟩ = some (.int .i64 ad)) :
    Calls Try.prog 55 #[snV s, .pointer (some ⟨n1, 0, none⟩)] w fun e w' => e = .returned (.bool (s.addr == ad)) ∧ w.grownBy w' none := by
  have k1 := (Bk.new w (senL s).toArray 24).cell 0
  have h1 : (w.alloc (.cells (senL s).toArray 24)).cell? ⟨n1, 0, none⟩ = some (.int .i64 ad) := by
    rw [← h]; exact gb_cell (gb_alloc (gb_refl w none) _) (World.block_lt_of_cell? _ _ h) (by simp) _
  have HG := Lib.hid (gb_alloc (gb_refl w none) (.cells (senL s).toArray 24))
  unfold snV
  unfold senL at *
  go_enter Try.func55, Try.ntmps55
  go_upto_region 1 with fail
  generalize w.alloc _ = W at *
  go_wp2_with fail
  go_ret
  exact ⟨rfl, HG.out⟩

attribute [local go_sem ↓] loadAt_s
set_option maxHeartbeats 2000000 in
theorem idx_any (v : Value) (l : List Sn) (n1 : Nat) (ad : Int) (w : World) (h : Sl w v 8 l.length (l.flatMap senL)) (hc : w.cell? ⟨n1, 0, none⟩ = some (.int .i64 ad)) :
    Calls Try.prog 54 #[v, .func (.func 55) #[] #[.pointer (some ⟨n1, 0, none⟩)]] w fun e w' => e = .returned (.int .i64 (fIdx ad 0 l)) ∧ w.grownBy w' none := by
  obtain ⟨a, cap, rfl, hn, hm, _⟩ := h.shape
  unfold maxLen at hm
  have HS := Lib.hid h
  clear h
  go_enter Try.func54, Try.ntmps54
  go_wp2_with fail
  go_loopw [8] (fun i wr => ∃ (k : Nat), k ≤ l.length ∧ i = .int .i64 k ∧ fIdx ad 0 l = fIdx ad k (l.drop k) ∧ w.grownBy wr none) (fun i _ => l.length - (intOf i).toNat)
  case atStart => exact ⟨0, Nat.zero_le _, rfl, rfl, gb_refl _ _⟩
  case round =>
    obtain ⟨k, hk, rfl, he, hg⟩ := hrel
    have HE := Lib.hid he
    clear he
    by_cases hlt : k < l.length
    · obtain ⟨g, off, cap', hv, _, hs⟩ := (HS.out.by_ hg).snAt hlt
      injection hv with hv1 _ hv3
      subst hv1 hv3
      have L0 := run_loadS hs
      have hd : l.drop k = l.getD k sn0 :: l.drop (k + 1) := by
        rw [List.drop_eq_getElem_cons hlt]
        simp [List.getD_eq_getElem?_getD, List.getElem?_eq_getElem hlt]
      generalize l.getD k sn0 = s at *
      have hcr : wr.cell? ⟨n1, 0, none⟩ = some (.int .i64 ad) := by
        rw [← hc]; exact gb_cell hg (World.block_lt_of_cell? _ _ hc) (by simp) _
      have HD := Lib.hid hd
      clear hd hs
      have i0 : (0 : Int) ≤ (k : Int) := by omega
      have i1 : (k : Int) < (l.length : Int) := by omega
      by_cases hq : s.addr = ad
      · have HR := Lib.hid (show fIdx ad 0 l = (k : Int) by rw [HE.out, HD.out, fIdx, if_pos hq])
        have hqb : (s.addr == ad) = true := by simpa using hq
        go_wp2_with (go_at_call 55; refine (eq_any n1 ad s _ hcr).mono ?_; rintro e w3 ⟨rfl, hg3⟩; rw [hqb])
        go_ret
        exact ⟨by rw [HR.out]; rfl, gb_none hg hg3⟩
      · have HR := Lib.hid (show fIdx ad 0 l = fIdx ad (k + 1) (l.drop (k + 1)) by rw [HE.out, HD.out, fIdx, if_neg hq])
        have hqb : (s.addr == ad) = false := by simpa using hq
        go_wp2_with (go_at_call 55; refine (eq_any n1 ad s _ hcr).mono ?_; rintro e w3 ⟨rfl, hg3⟩; rw [hqb])
        exact ⟨⟨k + 1, by omega, by go_num, HR.out, gb_none hg hg3⟩, by simp [intOf]; omega⟩
    · have hkl : k = l.length := by omega
      subst hkl
      have HR := Lib.hid (show fIdx ad 0 l = -1 by rw [HE.out, List.drop_length]; rfl)
      go_wp2_with fail
      go_ret
      exact ⟨by rw [HR.out]; rfl, hg⟩
end Go.Proofs.Ytackckljldpldaa
