/- Check. -/
import Derived.Test.YtbiikgkfklhohaaPl
namespace Go.Proofs.Ytbiikgkfklhohaa
open Go.RowKit

theorem alloc_cell (w : World) (cs : Array Value) (T : TypeId) (j : Nat) : (w.alloc (.cells cs T (0, 0))).cell? ⟨w.heap.size, j, none⟩ = cs[j]? := by
  unfold World.cell?
  rw [heap_alloc_new w]
  simp

theorem flat_getD {α : Type} (enc : α → List Value) (sz : Nat) (hs : ∀ x, (enc x).length = sz) (l : List α) (d : α) (k j : Nat) (hk : k < l.length) (hj : j < sz) :
    (l.flatMap enc).getD (k * sz + j) undef = (enc (l.getD k d)).getD j undef := by
  induction l generalizing k with
  | nil => simp at hk
  | cons x l ih =>
    cases k with
    | zero =>
      have := hs x
      simp only [List.flatMap_cons, List.getD_eq_getElem?_getD, Nat.zero_mul, Nat.zero_add]
      rw [List.getElem?_append_left (by omega)]
      simp
    | succ k =>
      have h1 := ih k (by simpa using hk)
      have := hs x
      simp only [List.flatMap_cons, List.getD_eq_getElem?_getD] at h1 ⊢
      rw [List.getElem?_append_right (by rw [this, Nat.add_mul]; omega)]
      rw [show (k + 1) * sz + j - (enc x).length = k * sz + j by rw [this, Nat.add_mul]; omega]
      simpa using h1

/-- The cells of one element of a slice. -/
theorem Sl.elem {α : Type} {enc : α → List Value} {sz : Nat} (hs : ∀ x, (enc x).length = sz) {w : World} {g off : Nat} {l : List α} (d : α)
    (h : ∀ j, j < l.length * sz → w.cell? ⟨g, off + j, none⟩ = some ((l.flatMap enc).getD j undef)) (k j : Nat) (hk : k < l.length) (hj : j < sz) :
    w.cell? ⟨g, off + (k * sz + j), none⟩ = some ((enc (l.getD k d)).getD j undef) := by
  rw [← flat_getD enc sz hs l d k j hk hj]
  refine h _ ?_
  have h2 : (k + 1) * sz ≤ l.length * sz := Nat.mul_le_mul_right _ hk
  rw [Nat.add_mul, Nat.one_mul] at h2
  omega

theorem cellv {w w' : World} (hb : Below w.heap.size w w') {p : Addr} {v : Value} (h : w.cell? p = some v) : w'.cell? p = some v := by
  rw [hb.cell (World.block_lt_of_cell? w _ h)]; exact h

theorem pl_cells {w : World} {g off : Nat} {l : List Pl} (h : ∀ j, j < l.length * 2 → w.cell? ⟨g, off + j, none⟩ = some ((l.flatMap Pl.cells).getD j undef)) (k : Nat) (hk : k < l.length) :
    w.cell? ⟨g, off + k * 2, none⟩ = some (.int .i64 (l.getD k ⟨0, false⟩).h) ∧ w.cell? ⟨g, off + k * 2 + 1, none⟩ = some (.bool (l.getD k ⟨0, false⟩).s) := by
  have e := fun j hj => Sl.elem (enc := Pl.cells) (sz := 2) (fun _ => rfl) ⟨0, false⟩ h k j hk hj
  exact ⟨e 0 (by omega), e 1 (by omega)⟩

def rd0 : Rd := ⟨0, 0, 0, 0, false, false, ⟨0, 0⟩, ⟨0, 0⟩⟩

theorem rd_cells {w : World} {g off : Nat} {l : List Rd} (h : ∀ j, j < l.length * 10 → w.cell? ⟨g, off + j, none⟩ = some ((l.flatMap Rd.cells).getD j undef)) (k : Nat) (hk : k < l.length) :
    w.cell? ⟨g, off + k * 10, none⟩ = some (.int .i64 (l.getD k rd0).f) ∧ w.cell? ⟨g, off + k * 10 + 1, none⟩ = some (.int .i64 (l.getD k rd0).t) ∧
    w.cell? ⟨g, off + k * 10 + 2, none⟩ = some (.int .i64 (l.getD k rd0).len) ∧ w.cell? ⟨g, off + k * 10 + 3, none⟩ = some (.int .i64 (l.getD k rd0).area) ∧
    w.cell? ⟨g, off + k * 10 + 4, none⟩ = some (.bool (l.getD k rd0).walk) ∧ w.cell? ⟨g, off + k * 10 + 5, none⟩ = some (.bool (l.getD k rd0).closed) ∧
    w.cell? ⟨g, off + k * 10 + 6, none⟩ = some (.int .i64 (l.getD k rd0).rest.lo) ∧ w.cell? ⟨g, off + k * 10 + 7, none⟩ = some (.int .i64 (l.getD k rd0).rest.hi) ∧
    w.cell? ⟨g, off + k * 10 + 8, none⟩ = some (.int .i64 (l.getD k rd0).lift.lo) ∧ w.cell? ⟨g, off + k * 10 + 9, none⟩ = some (.int .i64 (l.getD k rd0).lift.hi) := by
  have e := fun j hj => Sl.elem (enc := Rd.cells) (sz := 10) (fun _ => rfl) rd0 h k j hk hj
  exact ⟨e 0 (by omega), e 1 (by omega), e 2 (by omega), e 3 (by omega), e 4 (by omega), e 5 (by omega), e 6 (by omega), e 7 (by omega), e 8 (by omega), e 9 (by omega)⟩

theorem ckRds_drop (n : Int) (l : List Rd) (k : Nat) (hk : k < l.length) : ckRds n (l.drop k) = if ckRd (l.getD k rd0) n = 0 then ckRds n (l.drop (k + 1)) else ckRd (l.getD k rd0) n := by
  rw [List.drop_eq_getElem_cons hk]
  simp [ckRds, List.getD_eq_getElem?_getD, List.getElem?_eq_getElem hk]

theorem ckPls_take (l : List Pl) (k : Nat) (hk : k < l.length) : ckPls (l.take (k + 1)) = (ckPls (l.take k) && wi (l.getD k ⟨0, false⟩).h (-10000) 10000) := by
  unfold ckPls
  rw [List.take_succ_eq_append_getElem hk, List.all_append]
  simp [List.getD_eq_getElem?_getD, List.getElem?_eq_getElem hk]

theorem ckPls_false (l : List Pl) (k : Nat) (hk : k < l.length) (h : wi (l.getD k ⟨0, false⟩).h (-10000) 10000 = false) : ckPls l = false := by
  unfold ckPls
  rw [List.all_eq_false]
  refine ⟨l[k], List.getElem_mem hk, ?_⟩
  simpa [List.getD_eq_getElem?_getD, List.getElem?_eq_getElem hk] using h

set_option maxHeartbeats 400000 in
theorem check_any (v : Value) (m : Mn) (w : World) (h : MnV w v m) :
    Calls Try.prog 12 #[v] w fun e w' => e = .returned (.int .i64 (ck m)) ∧ Below w.heap.size w w' := by
  obtain ⟨a, b, rfl, hp, hr⟩ := h
  obtain ⟨pa, pc, rfl, pc1, pc2, hpc⟩ := hp.shape
  obtain ⟨ra, rc, rfl, rc1, rc2, hrc⟩ := hr.shape
  have hB := Lib.hid ((Below.refl w.heap.size w).alloc (Nat.le_refl _) (.cells #[.slice pa m.ps.length pc, .slice ra m.rs.length rc] 26))
  have k0 := alloc_cell w #[.slice pa m.ps.length pc, .slice ra m.rs.length rc] 26 0
  have k1 := alloc_cell w #[.slice pa m.ps.length pc, .slice ra m.rs.length rc] 26 1
  unfold maxLen at pc2 rc2
  by_cases h1 : 64 < m.ps.length ∨ 128 < m.rs.length
  · have E := Lib.hid (show (2 : Int) = ck m by unfold ck; rw [if_pos h1])
    clear k0 k1 hpc hrc hp hr
    by_cases h2 : 64 < m.ps.length
    · go_enter Try.func12, Try.ntmps12
      go_wp2
      go_ret
      exact ⟨ret_int E.out, hB.out⟩
    · have hd : decide ((64 : Int) < (m.ps.length : Int)) = false := by simp; omega
      have hd2 : 128 < m.rs.length := by omega
      go_enter Try.func12, Try.ntmps12
      go_wp2
      go_ret
      exact ⟨ret_int E.out, hB.out⟩
  · have E := Lib.hid (show (if !ckPls m.ps then 1 else ckRds m.ps.length m.rs) = ck m by unfold ck; rw [if_neg h1])
    obtain ⟨h1a, h1b⟩ : m.ps.length ≤ 64 ∧ m.rs.length ≤ 128 := ⟨by omega, by omega⟩
    have hd : decide ((64 : Int) < (m.ps.length : Int)) = false := by simp; omega
    have hd2 : decide ((128 : Int) < (m.rs.length : Int)) = false := by simp; omega
    have HP := Lib.hid hpc
    have HR := Lib.hid hrc
    clear h1 hp hr hpc hrc
    have K0 := Lib.hid k0
    have K1 := Lib.hid k1
    clear k0 k1
    go_enter Try.func12, Try.ntmps12
    go_wp2
    generalize hW : w.alloc (.cells #[.slice pa m.ps.length pc, .slice ra m.rs.length rc] 26) = W1 at K0 K1 hB
    have hz : W1.heap.size = w.heap.size + 1 := by rw [← hW]; simp
    clear hW
    go_loopw [21] (fun i wr => ∃ k : Nat, k ≤ m.ps.length ∧ i = .int .i64 k ∧ ckPls (m.ps.take k) = true ∧ Below W1.heap.size W1 wr) (fun i _ => m.ps.length - (intOf i).toNat)
    case atStart => exact ⟨0, Nat.zero_le _, rfl, rfl, Below.refl _ _⟩
    case round =>
      obtain ⟨k, hk, rfl, hck, hb⟩ := hrel
      by_cases hlt : k < m.ps.length
      · obtain ⟨g, off, rfl, hc⟩ : ∃ g off, pa = some ⟨g, off, none⟩ ∧ ∀ j, j < m.ps.length * 2 → w.cell? ⟨g, off + j, none⟩ = some ((m.ps.flatMap Pl.cells).getD j undef) := by
          rcases HP.out with h | h
          · omega
          · exact h
        obtain ⟨e0, e1⟩ := pl_cells hc k hlt
        have hbw : Below w.heap.size w wr := hB.out.trans (hb.mono (by omega))
        have e0 := cellv hbw e0
        have e1 := cellv hbw e1
        clear hc
        have hs := ckPls_take m.ps k hlt
        have hf := ckPls_false m.ps k hlt
        generalize m.ps.getD k ⟨0, false⟩ = p at *
        obtain ⟨ph, pb⟩ := p
        have hb2 := Lib.hid hb
        have hbw2 := Lib.hid hbw
        clear hb hbw
        rcases g1 : wi ph (-10000) 10000 with _ | _
        · have HF := Lib.hid (hf g1)
          clear hs hf
          go_wp2_with (go_at_call 40; refine (within_any _ _ _ _).mono ?_; rintro e w' ⟨rfl, rfl⟩)
          go_ret
          have h2 := E.out
          rw [HF.out] at h2
          exact ⟨ret_int h2, bl_alloc hbw2.out _⟩
        · have HS := Lib.hid (show ckPls (m.ps.take (k + 1)) = true by rw [hs, hck]; simpa using g1)
          clear hs hf
          go_wp2_with (go_at_call 40; refine (within_any _ _ _ _).mono ?_; rintro e w' ⟨rfl, rfl⟩)
          go_roundw
          case rel => exact ⟨k + 1, by omega, by go_num, HS.out, bl_alloc hb2.out _⟩
          case measure => simp [intOf]; omega
      · have hkk : k = m.ps.length := by omega
        have HC := Lib.hid (show ckPls m.ps = true by rw [← hck, hkk, List.take_length])
        have c0 := hb.cell (p := ⟨w.heap.size, 0, none⟩) (show w.heap.size < _ by omega)
        have c1 := hb.cell (p := ⟨w.heap.size, 1, none⟩) (show w.heap.size < _ by omega)
        rw [K0.out] at c0
        rw [K1.out] at c1
        have hbw : Hid (Below w.heap.size w wr) := Lib.hid (hB.out.trans (hb.mono (by omega)))
        have hwz := hbw.out.size
        simp at c0 c1
        have hz2 : w.heap.size + 1 ≤ wr.heap.size := by have := hb.size; omega
        clear hb hck hkk
        have C0 := Lib.hid c0
        clear c0
        go_wp2
        clear c1
        obtain ⟨wo, rfl⟩ : ∃ wo : World, wo = wr := ⟨_, rfl⟩
        go_loopw [33] (fun i w2 => ∃ k : Nat, k ≤ m.rs.length ∧ i = .int .i64 k ∧ ckRds m.ps.length m.rs = ckRds m.ps.length (m.rs.drop k) ∧ Below wo.heap.size wo w2) (fun i _ => m.rs.length - (intOf i).toNat)
        case atStart => exact ⟨0, Nat.zero_le _, rfl, rfl, Below.refl _ _⟩
        case round =>
          obtain ⟨k, hk, rfl, hck, hb⟩ := hrel
          have hbw2 : Hid (Below w.heap.size w wr) := Lib.hid (hbw.out.trans (hb.mono hbw.out.size))
          by_cases hlt : k < m.rs.length
          · obtain ⟨g, off, rfl, hc⟩ : ∃ g off, ra = some ⟨g, off, none⟩ ∧ ∀ j, j < m.rs.length * 10 → w.cell? ⟨g, off + j, none⟩ = some ((m.rs.flatMap Rd.cells).getD j undef) := by
              rcases HR.out with h | h
              · omega
              · exact h
            obtain ⟨e0, e1, e2, e3, e4, e5, e6, e7, e8, e9⟩ := rd_cells hc k hlt
            have e0 := cellv hbw2.out e0
            have e1 := cellv hbw2.out e1
            have e2 := cellv hbw2.out e2
            have e3 := cellv hbw2.out e3
            have e4 := cellv hbw2.out e4
            have e5 := cellv hbw2.out e5
            have e6 := cellv hbw2.out e6
            have e7 := cellv hbw2.out e7
            have e8 := cellv hbw2.out e8
            have e9 := cellv hbw2.out e9
            have c0 := cellv (w := wo) hb C0.out
            clear hc
            have hs := ckRds_drop m.ps.length m.rs k hlt
            generalize m.rs.getD k rd0 = r at *
            have hlw : w.heap.size < wr.heap.size := by have := hb.size; omega
            have hb2 := Lib.hid hb
            clear hb
            by_cases g1 : ckRd r m.ps.length = 0
            · have HS := Lib.hid (show ckRds m.ps.length m.rs = ckRds m.ps.length (m.rs.drop (k + 1)) by rw [hck, hs, if_pos g1])
              have G1 := Lib.hid g1
              clear hs hck g1
              go_wp2_with (go_at_call 41; refine (checkRoad_any r _ _ (by omega) (by omega)).mono ?_; rintro e w' ⟨rfl, hb1⟩; obtain ⟨hc, hf⟩ := bcell hb1; rw [G1.out])
              go_roundw
              case rel => exact ⟨k + 1, by omega, by go_num, HS.out, bl_call (bl_alloc hb2.out _) hb1⟩
              case measure => simp [intOf]; omega
            · have HS := Lib.hid (show ckRds m.ps.length m.rs = ckRd r m.ps.length by rw [hck, hs, if_neg g1])
              have g2 : (ckRd r m.ps.length == 0) = false := by simpa using g1
              have g3 : (ckRd r m.ps.length != 0) = true := by simpa using g1
              clear hs hck g1
              go_wp2_with (go_at_call 41; refine (checkRoad_any r _ _ (by omega) (by omega)).mono ?_; rintro e w' ⟨rfl, hb1⟩; obtain ⟨hc, hf⟩ := bcell hb1)
              go_ret
              have h2 := E.out
              rw [HC.out, HS.out] at h2
              exact ⟨ret_int h2, bl_call (bl_alloc hbw2.out _) hb1⟩
          · have hkk : k = m.rs.length := by omega
            have HS := Lib.hid (show ckRds m.ps.length m.rs = 0 by rw [hck, hkk, List.drop_length]; rfl)
            clear hb hck hkk
            go_wp2
            go_ret
            have h2 := E.out
            rw [HC.out, HS.out] at h2
            exact ⟨ret_int h2, hbw2.out⟩
end Go.Proofs.Ytbiikgkfklhohaa
