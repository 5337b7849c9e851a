/- The reference's Check, Valid, Span. -/
import Derived.Test.YtbiikgkfklhohaaMi
namespace Go.Proofs.Ytbiikgkfklhohaa
open Go.RowKit

set_option maxHeartbeats 400000 in
theorem refSpan_any (s : Sp) (lo hi : Int) (w : World) :
    Calls Try.prog 42 #[s.v, .int .i64 lo, .int .i64 hi] w fun e w' => e = .returned (.bool (spn s lo hi)) ∧ Below w.heap.size w w' := by
  obtain ⟨l, h⟩ := s
  unfold Sp.v
  have hB := Lib.hid ((Below.refl w.heap.size w).alloc (Nat.le_refl _) (.cells #[.int .i64 l, .int .i64 h] 39))
  by_cases h1 : lo ≤ l
  · by_cases h2 : l ≤ h
    · have E := Lib.hid (show decide (h ≤ hi) = spn ⟨l, h⟩ lo hi by simp [spn, h1, h2])
      go_enter Try.func42, Try.ntmps42
      go_wp2
      go_ret
      exact ⟨ret_bool E.out, hB.out⟩
    · have E := Lib.hid (show false = spn ⟨l, h⟩ lo hi by simp [spn, h1, h2])
      have hd : decide (l ≤ h) = false := by simpa using h2
      go_enter Try.func42, Try.ntmps42
      go_wp2
      go_ret
      exact ⟨ret_bool E.out, hB.out⟩
  · have E := Lib.hid (show false = spn ⟨l, h⟩ lo hi by simp [spn, h1])
    have hd : decide (lo ≤ l) = false := by simpa using h1
    go_enter Try.func42, Try.ntmps42
    go_wp2
    go_ret
    exact ⟨ret_bool E.out, hB.out⟩

set_option maxHeartbeats 400000 in
theorem valid_any (v : Value) (m : Mn) (w : World) (h : MnV w v m) :
    Calls Try.prog 14 #[v] w fun e w' => e = .returned (.bool (decide (ck m = 0))) ∧ Below w.heap.size w w' := by
  obtain ⟨a, b, rfl, hp, hr⟩ := h
  obtain ⟨pa, pc, rfl, pc1, pc2, hpc⟩ := hp.shape
  obtain ⟨ra, rc, rfl, rc1, rc2, hrc⟩ := hr.shape
  have hB := Lib.hid ((Below.refl w.heap.size w).alloc (Nat.le_refl _) (.cells #[.slice pa m.ps.length pc, .slice ra m.rs.length rc] 26))
  have hM : MnV (w.alloc (.cells #[.slice pa m.ps.length pc, .slice ra m.rs.length rc] 26)) (.agg #[.slice pa m.ps.length pc, .slice ra m.rs.length rc]) m := MnV.below ⟨_, _, rfl, hp, hr⟩ hB.out
  have HM := Lib.hid hM
  clear hM hpc hrc hp hr
  go_enter Try.func14, Try.ntmps14
  go_wp2_with (go_at_call 12; refine (check_any _ m _ HM.out).mono ?_; rintro e w' ⟨rfl, hb⟩)
  go_ret
  exact ⟨rfl, hB.out.trans (hb.mono (by simp))⟩

theorem ckPls_head {m : List Pl} {k : Nat} (h : ckPls (m.take k) = true) (hk : k < m.length) (h2 : wi (m.getD k ⟨0, false⟩).h (-10000) 10000 = true) : ckPls (m.take (k + 1)) = true := by
  rw [ckPls_take m k hk, h, h2]; rfl

theorem ckRd_4 {r : Rd} {n : Int} (h : r.f < 0 ∨ n ≤ r.f ∨ r.t < 0 ∨ n ≤ r.t ∨ r.f = r.t) : ckRd r n = 4 := by
  unfold ckRd
  rw [if_pos]
  simp [wi]
  omega
theorem ckRd_1 {r : Rd} {n : Int} (h : r.len < 1 ∨ 100000 < r.len ∨ r.area < 1 ∨ 1000 < r.area ∨ spn r.rest 1 262144 = false ∨ spn r.lift (-2199023255552) 2199023255552 = false)
    (h2 : ¬ r.f < 0 ∧ ¬ n ≤ r.f ∧ ¬ r.t < 0 ∧ ¬ n ≤ r.t ∧ ¬ r.f = r.t) : ckRd r n = 1 := by
  unfold ckRd
  rw [if_neg]
  · by_cases g : r.len < 1 ∨ 100000 < r.len ∨ r.area < 1 ∨ 1000 < r.area
    · rw [if_pos]; simp [wi]; omega
    · rw [if_neg, if_pos]
      · simp; rcases h with h | h | h | h | h | h
        · omega
        · omega
        · omega
        · omega
        · exact .inl h
        · exact .inr h
      · simp [wi]; omega
  · simp [wi]; omega
theorem ckRd_0 {r : Rd} {n : Int} (h2 : ¬ r.f < 0 ∧ ¬ n ≤ r.f ∧ ¬ r.t < 0 ∧ ¬ n ≤ r.t ∧ ¬ r.f = r.t) (h : ¬ r.len < 1 ∧ ¬ 100000 < r.len ∧ ¬ r.area < 1 ∧ ¬ 1000 < r.area)
    (h3 : spn r.rest 1 262144 = true) (h4 : spn r.lift (-2199023255552) 2199023255552 = true) : ckRd r n = 0 := by
  unfold ckRd
  rw [if_neg, if_neg, if_neg]
  · simp [h3, h4]
  · simp [wi]; omega
  · simp [wi]; omega

set_option maxRecDepth 100000 in
set_option maxHeartbeats 4000000 in
theorem refCheck_any (v : Value) (m : Mn) (w : World) (h : MnV w v m) :
    Calls Try.prog 13 #[v] w fun e w' => e = .returned (.int .i64 (ck m)) ∧ Below w.heap.size w w' := by
  obtain ⟨a, b, rfl, hp, hr⟩ := h
  obtain ⟨pa, pc, rfl, pc1, pc2, hpc⟩ := hp.shape
  obtain ⟨ra, rc, rfl, rc1, rc2, hrc⟩ := hr.shape
  have hB := Lib.hid ((Below.refl w.heap.size w).alloc (Nat.le_refl _) (.cells #[.slice pa m.ps.length pc, .slice ra m.rs.length rc] 26))
  have k0 := alloc_cell w #[.slice pa m.ps.length pc, .slice ra m.rs.length rc] 26 0
  have k1 := alloc_cell w #[.slice pa m.ps.length pc, .slice ra m.rs.length rc] 26 1
  unfold maxLen at pc2 rc2
  by_cases h1 : 64 < m.ps.length ∨ 128 < m.rs.length
  · have E := Lib.hid (show (2 : Int) = ck m by unfold ck; rw [if_pos h1])
    clear k0 k1 hpc hrc hp hr
    by_cases h2 : 64 < m.ps.length
    · go_enter Try.func13, Try.ntmps13
      go_wp2
      go_ret
      exact ⟨ret_int E.out, hB.out⟩
    · have hd : decide ((64 : Int) < (m.ps.length : Int)) = false := by simp; omega
      have hd2 : 128 < m.rs.length := by omega
      go_enter Try.func13, Try.ntmps13
      go_wp2
      go_ret
      exact ⟨ret_int E.out, hB.out⟩
  · have E := Lib.hid (show (if !ckPls m.ps then 1 else ckRds m.ps.length m.rs) = ck m by unfold ck; rw [if_neg h1])
    obtain ⟨h1a, h1b⟩ : m.ps.length ≤ 64 ∧ m.rs.length ≤ 128 := ⟨by omega, by omega⟩
    have hd : decide ((64 : Int) < (m.ps.length : Int)) = false := by simp; omega
    have hd2 : decide ((128 : Int) < (m.rs.length : Int)) = false := by simp; omega
    have HP := Lib.hid hpc
    have HR := Lib.hid hrc
    clear h1 hp hr hpc hrc
    have K0 := Lib.hid k0
    have K1 := Lib.hid k1
    clear k0 k1
    go_enter Try.func13, Try.ntmps13
    go_wp2
    generalize hW : w.alloc (.cells #[.slice pa m.ps.length pc, .slice ra m.rs.length rc] 26) = W1 at K0 K1 hB ⊢
    have hz : w.heap.size < W1.heap.size := by rw [← hW]; simp
    clear hW
    have c0 : W1.cell? ⟨w.heap.size, 0, none⟩ = some (.slice pa m.ps.length pc) := K0.out
    have c1 : W1.cell? ⟨w.heap.size, 1, none⟩ = some (.slice ra m.rs.length rc) := K1.out
    go_loop [3] (fun i => ∃ k : Nat, k ≤ m.ps.length ∧ i = .int .i64 k ∧ ckPls (m.ps.take k) = true) (fun i => m.ps.length - (intOf i).toNat)
    case atStart => exact ⟨0, Nat.zero_le _, rfl, rfl⟩
    case round =>
      obtain ⟨k, hk, rfl, hck⟩ := hrel
      have HK := Lib.hid hck
      clear hck
      by_cases hlt : k < m.ps.length
      · obtain ⟨g, off, rfl, hc⟩ : ∃ g off, pa = some ⟨g, off, none⟩ ∧ ∀ j, j < m.ps.length * 2 → w.cell? ⟨g, off + j, none⟩ = some ((m.ps.flatMap Pl.cells).getD j undef) := by
          rcases HP.out with h | h
          · omega
          · exact h
        obtain ⟨e0, e1⟩ := pl_cells hc k hlt
        have e0 := cellv hB.out e0
        clear hc e1
        have hs := ckPls_take m.ps k hlt
        have hf := ckPls_false m.ps k hlt
        generalize m.ps.getD k ⟨0, false⟩ = p at *
        obtain ⟨ph, pb⟩ := p
        dsimp only at *
        by_cases g1 : ph < -10000
        · have HF := Lib.hid (hf (by simp [wi]; omega))
          clear hs hf
          go_wp2
          go_ret
          have h2 := E.out
          rw [HF.out] at h2
          exact ⟨ret_int h2, hB.out⟩
        · by_cases g2 : 10000 < ph
          · have HF := Lib.hid (hf (by simp [wi]; omega))
            clear hs hf
            go_wp2
            go_ret
            have h2 := E.out
            rw [HF.out] at h2
            exact ⟨ret_int h2, hB.out⟩
          · have HS := Lib.hid (show ckPls (m.ps.take (k + 1)) = true by rw [hs, HK.out]; simp [wi]; omega)
            clear hs hf
            have g2 : decide (10000 < ph) = false := by simpa using g2
            have g1 : decide (ph < -10000) = false := by simpa using g1
            go_wp2
            go_round
            case rel => exact ⟨k + 1, by omega, by go_num, HS.out⟩
            case measure => simp [intOf]; omega
      · have hkk : k = m.ps.length := by omega
        have HC := Lib.hid (show ckPls m.ps = true by rw [← HK.out, hkk, List.take_length])
        clear HK hkk
        go_wp2
        clear hlt
        go_loopw [5] (fun i w2 => ∃ k : Nat, k ≤ m.rs.length ∧ i = .int .i64 k ∧ ckRds m.ps.length m.rs = ckRds m.ps.length (m.rs.drop k) ∧ Below W1.heap.size W1 w2) (fun i _ => m.rs.length - (intOf i).toNat)
        case atStart => exact ⟨0, Nat.zero_le _, rfl, rfl, Below.refl _ _⟩
        case round =>
          obtain ⟨k, hk, rfl, hck, hb⟩ := hrel
          have hbw2 : Hid (Below w.heap.size w wr) := Lib.hid (hB.out.trans (hb.mono (by omega)))
          have c0 := cellv hb c0
          have c1 := cellv hb c1
          by_cases hlt : k < m.rs.length
          · obtain ⟨g, off, rfl, hc⟩ : ∃ g off, ra = some ⟨g, off, none⟩ ∧ ∀ j, j < m.rs.length * 10 → w.cell? ⟨g, off + j, none⟩ = some ((m.rs.flatMap Rd.cells).getD j undef) := by
              rcases HR.out with h | h
              · omega
              · exact h
            obtain ⟨e0, e1, e2, e3, e4, e5, e6, e7, e8, e9⟩ := rd_cells hc k hlt
            have e0 := cellv hbw2.out e0
            have e1 := cellv hbw2.out e1
            have e2 := cellv hbw2.out e2
            have e3 := cellv hbw2.out e3
            have e4 := cellv hbw2.out e4
            have e5 := cellv hbw2.out e5
            have e6 := cellv hbw2.out e6
            have e7 := cellv hbw2.out e7
            have e8 := cellv hbw2.out e8
            have e9 := cellv hbw2.out e9
            clear hc
            have hs := ckRds_drop m.ps.length m.rs k hlt
            generalize m.rs.getD k rd0 = r at *
            have hlw : w.heap.size < wr.heap.size := by have := hb.size; omega
            obtain ⟨rf, rt, rlen, rarea, rwalk, rclosed, ⟨r1, r2⟩, ⟨r3, r4⟩⟩ := r
            dsimp only at *
            have hb3 := Lib.hid (bl_alloc hb (.cells #[.int .i64 rf, .int .i64 rt, .int .i64 rlen, .int .i64 rarea, .bool rwalk, .bool rclosed, .int .i64 r1, .int .i64 r2, .int .i64 r3, .int .i64 r4] 41))
            have hbw3 := Lib.hid (bl_alloc hbw2.out (.cells #[.int .i64 rf, .int .i64 rt, .int .i64 rlen, .int .i64 rarea, .bool rwalk, .bool rclosed, .int .i64 r1, .int .i64 r2, .int .i64 r3, .int .i64 r4] 41))
            clear hb
            by_cases q0 : rf < 0
            · have hv : ckRd ⟨rf, rt, rlen, rarea, rwalk, rclosed, ⟨r1, r2⟩, ⟨r3, r4⟩⟩ m.ps.length = 4 := ckRd_4 (by simp; omega)
              have HS := Lib.hid (show ckRds m.ps.length m.rs = 4 by rw [hck, hs, hv]; rfl)
              clear hs hck hv
              go_wp2_with (go_at_call 42; refine (refSpan_any ⟨_, _⟩ _ _ _).mono ?_; rintro e w' ⟨rfl, hb1⟩; obtain ⟨hc, hf⟩ := bcell hb1; have hbw3 := Lib.hid (bl_call hbw3.out hb1))
              go_ret
              have h2 := E.out
              rw [HC.out, HS.out] at h2
              exact ⟨ret_int h2, hbw3.out⟩
            have d0 : decide (rf < 0) = false := by simpa using q0
            by_cases q1 : (m.ps.length : Int) ≤ rf
            · have hv : ckRd ⟨rf, rt, rlen, rarea, rwalk, rclosed, ⟨r1, r2⟩, ⟨r3, r4⟩⟩ m.ps.length = 4 := ckRd_4 (by simp; omega)
              have HS := Lib.hid (show ckRds m.ps.length m.rs = 4 by rw [hck, hs, hv]; rfl)
              clear hs hck hv
              go_wp2_with (go_at_call 42; refine (refSpan_any ⟨_, _⟩ _ _ _).mono ?_; rintro e w' ⟨rfl, hb1⟩; obtain ⟨hc, hf⟩ := bcell hb1; have hbw3 := Lib.hid (bl_call hbw3.out hb1))
              go_ret
              have h2 := E.out
              rw [HC.out, HS.out] at h2
              exact ⟨ret_int h2, hbw3.out⟩
            have d1 : decide ((m.ps.length : Int) ≤ rf) = false := by simpa using q1
            by_cases q2 : rt < 0
            · have hv : ckRd ⟨rf, rt, rlen, rarea, rwalk, rclosed, ⟨r1, r2⟩, ⟨r3, r4⟩⟩ m.ps.length = 4 := ckRd_4 (by simp; omega)
              have HS := Lib.hid (show ckRds m.ps.length m.rs = 4 by rw [hck, hs, hv]; rfl)
              clear hs hck hv
              go_wp2_with (go_at_call 42; refine (refSpan_any ⟨_, _⟩ _ _ _).mono ?_; rintro e w' ⟨rfl, hb1⟩; obtain ⟨hc, hf⟩ := bcell hb1; have hbw3 := Lib.hid (bl_call hbw3.out hb1))
              go_ret
              have h2 := E.out
              rw [HC.out, HS.out] at h2
              exact ⟨ret_int h2, hbw3.out⟩
            have d2 : decide (rt < 0) = false := by simpa using q2
            by_cases q3 : (m.ps.length : Int) ≤ rt
            · have hv : ckRd ⟨rf, rt, rlen, rarea, rwalk, rclosed, ⟨r1, r2⟩, ⟨r3, r4⟩⟩ m.ps.length = 4 := ckRd_4 (by simp; omega)
              have HS := Lib.hid (show ckRds m.ps.length m.rs = 4 by rw [hck, hs, hv]; rfl)
              clear hs hck hv
              go_wp2_with (go_at_call 42; refine (refSpan_any ⟨_, _⟩ _ _ _).mono ?_; rintro e w' ⟨rfl, hb1⟩; obtain ⟨hc, hf⟩ := bcell hb1; have hbw3 := Lib.hid (bl_call hbw3.out hb1))
              go_ret
              have h2 := E.out
              rw [HC.out, HS.out] at h2
              exact ⟨ret_int h2, hbw3.out⟩
            have d3 : decide ((m.ps.length : Int) ≤ rt) = false := by simpa using q3
            by_cases q4 : rf = rt
            · have hv : ckRd ⟨rf, rt, rlen, rarea, rwalk, rclosed, ⟨r1, r2⟩, ⟨r3, r4⟩⟩ m.ps.length = 4 := ckRd_4 (by simp; omega)
              have HS := Lib.hid (show ckRds m.ps.length m.rs = 4 by rw [hck, hs, hv]; rfl)
              clear hs hck hv
              have d4t : (rf == rt) = true := by simpa using q4
              clear q4
              go_wp2_with (go_at_call 42; refine (refSpan_any ⟨_, _⟩ _ _ _).mono ?_; rintro e w' ⟨rfl, hb1⟩; obtain ⟨hc, hf⟩ := bcell hb1; have hbw3 := Lib.hid (bl_call hbw3.out hb1))
              go_ret
              have h2 := E.out
              rw [HC.out, HS.out] at h2
              exact ⟨ret_int h2, hbw3.out⟩
            have d4 : (rf == rt) = false := by simpa using q4
            by_cases q5 : rlen < 1
            · have hv : ckRd ⟨rf, rt, rlen, rarea, rwalk, rclosed, ⟨r1, r2⟩, ⟨r3, r4⟩⟩ m.ps.length = 1 := ckRd_1 (by dsimp only; omega) (by dsimp only; omega)
              have HS := Lib.hid (show ckRds m.ps.length m.rs = 1 by rw [hck, hs, hv]; rfl)
              clear hs hck hv
              go_wp2_with (go_at_call 42; refine (refSpan_any ⟨_, _⟩ _ _ _).mono ?_; rintro e w' ⟨rfl, hb1⟩; obtain ⟨hc, hf⟩ := bcell hb1; have hbw3 := Lib.hid (bl_call hbw3.out hb1))
              go_ret
              have h2 := E.out
              rw [HC.out, HS.out] at h2
              exact ⟨ret_int h2, hbw3.out⟩
            have d5 : decide (rlen < 1) = false := by simpa using q5
            by_cases q6 : 100000 < rlen
            · have hv : ckRd ⟨rf, rt, rlen, rarea, rwalk, rclosed, ⟨r1, r2⟩, ⟨r3, r4⟩⟩ m.ps.length = 1 := ckRd_1 (by dsimp only; omega) (by dsimp only; omega)
              have HS := Lib.hid (show ckRds m.ps.length m.rs = 1 by rw [hck, hs, hv]; rfl)
              clear hs hck hv
              go_wp2_with (go_at_call 42; refine (refSpan_any ⟨_, _⟩ _ _ _).mono ?_; rintro e w' ⟨rfl, hb1⟩; obtain ⟨hc, hf⟩ := bcell hb1; have hbw3 := Lib.hid (bl_call hbw3.out hb1))
              go_ret
              have h2 := E.out
              rw [HC.out, HS.out] at h2
              exact ⟨ret_int h2, hbw3.out⟩
            have d6 : decide (100000 < rlen) = false := by simpa using q6
            by_cases q7 : rarea < 1
            · have hv : ckRd ⟨rf, rt, rlen, rarea, rwalk, rclosed, ⟨r1, r2⟩, ⟨r3, r4⟩⟩ m.ps.length = 1 := ckRd_1 (by dsimp only; omega) (by dsimp only; omega)
              have HS := Lib.hid (show ckRds m.ps.length m.rs = 1 by rw [hck, hs, hv]; rfl)
              clear hs hck hv
              go_wp2_with (go_at_call 42; refine (refSpan_any ⟨_, _⟩ _ _ _).mono ?_; rintro e w' ⟨rfl, hb1⟩; obtain ⟨hc, hf⟩ := bcell hb1; have hbw3 := Lib.hid (bl_call hbw3.out hb1))
              go_ret
              have h2 := E.out
              rw [HC.out, HS.out] at h2
              exact ⟨ret_int h2, hbw3.out⟩
            have d7 : decide (rarea < 1) = false := by simpa using q7
            by_cases q8 : 1000 < rarea
            · have hv : ckRd ⟨rf, rt, rlen, rarea, rwalk, rclosed, ⟨r1, r2⟩, ⟨r3, r4⟩⟩ m.ps.length = 1 := ckRd_1 (by dsimp only; omega) (by dsimp only; omega)
              have HS := Lib.hid (show ckRds m.ps.length m.rs = 1 by rw [hck, hs, hv]; rfl)
              clear hs hck hv
              go_wp2_with (go_at_call 42; refine (refSpan_any ⟨_, _⟩ _ _ _).mono ?_; rintro e w' ⟨rfl, hb1⟩; obtain ⟨hc, hf⟩ := bcell hb1; have hbw3 := Lib.hid (bl_call hbw3.out hb1))
              go_ret
              have h2 := E.out
              rw [HC.out, HS.out] at h2
              exact ⟨ret_int h2, hbw3.out⟩
            have d8 : decide (1000 < rarea) = false := by simpa using q8
            rcases q9 : spn ⟨r1, r2⟩ 1 262144 with _ | _
            · have hv : ckRd ⟨rf, rt, rlen, rarea, rwalk, rclosed, ⟨r1, r2⟩, ⟨r3, r4⟩⟩ m.ps.length = 1 := ckRd_1 (by simp [q9]) (by dsimp only; omega)
              have HS := Lib.hid (show ckRds m.ps.length m.rs = 1 by rw [hck, hs, hv]; rfl)
              clear hs hck hv
              go_wp2_with (go_at_call 42; refine (refSpan_any ⟨_, _⟩ _ _ _).mono ?_; rw [q9]; rintro e w' ⟨rfl, hb1⟩; obtain ⟨hc, hf⟩ := bcell hb1; have hbw3 := Lib.hid (bl_call hbw3.out hb1))
              go_ret
              have h2 := E.out
              rw [HC.out, HS.out] at h2
              exact ⟨ret_int h2, hbw3.out⟩
            rcases q10 : spn ⟨r3, r4⟩ (-2199023255552) 2199023255552 with _ | _
            · have hv : ckRd ⟨rf, rt, rlen, rarea, rwalk, rclosed, ⟨r1, r2⟩, ⟨r3, r4⟩⟩ m.ps.length = 1 := ckRd_1 (by simp [q10]) (by dsimp only; omega)
              have Q9 := Lib.hid q9
              have Q10 := Lib.hid q10
              clear q9 q10
              have HS := Lib.hid (show ckRds m.ps.length m.rs = 1 by rw [hck, hs, hv]; rfl)
              clear hs hck hv
              go_wp2_with (go_at_call 42; refine (refSpan_any ⟨_, _⟩ _ _ _).mono ?_; (first | rw [Q9.out] | rw [Q10.out]); rintro e w' ⟨rfl, hb1⟩; obtain ⟨hc, hf⟩ := bcell hb1; have hbw3 := Lib.hid (bl_call hbw3.out hb1))
              go_ret
              have h2 := E.out
              rw [HC.out, HS.out] at h2
              exact ⟨ret_int h2, hbw3.out⟩
            have HS := Lib.hid (show ckRds m.ps.length m.rs = ckRds m.ps.length (m.rs.drop (k + 1)) by rw [hck, hs, if_pos (ckRd_0 (by dsimp only; omega) (by dsimp only; omega) q9 q10)])
            clear hs hck
            have Q9 := Lib.hid q9
            have Q10 := Lib.hid q10
            clear q9 q10
            go_wp2_with (go_at_call 42; refine (refSpan_any ⟨_, _⟩ _ _ _).mono ?_; (first | rw [Q9.out] | rw [Q10.out]); rintro e w' ⟨rfl, hb1⟩; obtain ⟨hc, hf⟩ := bcell hb1; have hb3 := Lib.hid (bl_call hb3.out hb1))
            go_roundw
            case rel => exact ⟨k + 1, by omega, by go_num, HS.out, hb3.out⟩
            case measure => simp [intOf]; omega
          · have hkk : k = m.rs.length := by omega
            have HS := Lib.hid (show ckRds m.ps.length m.rs = 0 by rw [hck, hkk, List.drop_length]; rfl)
            clear hb hck hkk
            go_wp2
            go_ret
            have h2 := E.out
            rw [HC.out, HS.out] at h2
            exact ⟨ret_int h2, hbw2.out⟩
end Go.Proofs.Ytbiikgkfklhohaa
