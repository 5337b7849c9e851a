/- The statement TelegramCounts: the walk. -/
import Derived.Test.YtolkjklejcealaaBy
import Derived.Test.YtolkjklejcealaaLw
namespace Go.Proofs.Ytolkjklejcealaa
open Go.RowKit
attribute [local go_sem ↓] Go.wp_at_zero Go.wp_at_succ

/-- How many bytes telegrams have. -/
def cntF : List Fr → Nat
  | [] => 0
  | f :: l => 6 + f.data.length + cntF l
theorem cntF_app (a b : List Fr) : cntF (a ++ b) = cntF a + cntF b := by
  induction a with
  | nil => simp [cntF]
  | cons f a ih => simp only [List.cons_append, cntF, ih]; omega
theorem cntF_take (l : List Fr) (k : Nat) (h : k < l.length) : cntF (l.take (k + 1)) = cntF (l.take k) + (6 + (l.getD k fr0).data.length) := by
  rw [List.take_add_one, List.getElem?_eq_getElem h, cntF_app]
  simp [cntF, List.getD_eq_getElem?_getD, List.getElem?_eq_getElem h]
theorem cntF_le (l : List Fr) (k : Nat) : cntF (l.take k) ≤ cntF l := by
  have h := cntF_app (l.take k) (l.drop k)
  rw [List.take_append_drop] at h
  omega
theorem cntF_len (l : List Fr) : l.length ≤ cntF l := by
  induction l with
  | nil => simp [cntF]
  | cons f l ih => simp only [List.length_cons, cntF]; omega
/-- No byte is lost. -/
theorem feed_cnt : ∀ (k : Nat) (l : List Nat), l.length ≤ k → (feed l).2.1 + (feed l).2.2.length + cntF (feed l).1 = l.length := by
  intro k
  induction k with
  | zero =>
    intro l hl
    obtain rfl : l = [] := List.eq_nil_of_length_eq_zero (by omega)
    rfl
  | succ k ih =>
    intro l hl
    cases h : act4 l with
    | stop => rw [feed_stop h]; simp [cntF]
    | drop =>
      rw [feed_drop h]
      have h0 : l ≠ [] := by rintro rfl; rw [act4_nil] at h; cases h
      have hp := List.length_pos_iff.2 h0
      have := ih (l.drop 1) (by rw [List.length_drop]; omega)
      rw [List.length_drop] at this
      simp only
      omega
    | take f n =>
      rw [feed_take h]
      obtain ⟨hn, hle, _, _, hf, _⟩ := act4_take h
      have := ih (l.drop n) (by rw [List.length_drop]; omega)
      rw [List.length_drop] at this
      have hd : f.data.length = l.getD 1 0 := by
        rw [hf]
        exact sub_len l 4 _ (by omega)
      simp only [cntF]
      omega

/-- What is known in the loop over two lists. -/
structure CtS (w : World) (nb : Nat) (v1 v2 : Value) (l1 l2 : List Nat) (W : World) : Prop where
  kb : Bk W nb #[v1, v2] 22
  s1 : Sl W v1 1 l1.length (bytes l1)
  s2 : Sl W v2 1 l2.length (bytes l2)
  g : w.grownBy W none
theorem CtS.by_ {w : World} {nb : Nat} {v1 v2 : Value} {l1 l2 : List Nat} {W W' : World} (h : CtS w nb v1 v2 l1 l2 W) (o : W.grownBy W' none) : CtS w nb v1 v2 l1 l2 W' :=
  ⟨h.kb.of o (by simp), h.s1.by_ o, h.s2.by_ o, gb_none h.g o⟩
theorem CtS.at_ {w : World} {nb : Nat} {v1 v2 : Value} {l1 l2 : List Nat} {W : World} (h : CtS w nb v1 v2 l1 l2 W) {k : Nat} (hk : k < 2) (b1 : ∀ x ∈ l1, x < 256) (b2 : ∀ x ∈ l2, x < 256) (n1 : l1.length ≤ 300) (n2 : l2.length ≤ 300) :
    ∃ (a : Option Addr) (c : Nat) (l : List Nat), W.cell? ⟨nb, k, none⟩ = some (.slice a l.length c) ∧ Sl W (.slice a l.length c) 1 l.length (bytes l) ∧ (∀ x ∈ l, x < 256) ∧ l.length ≤ 300 := by
  obtain rfl | rfl : k = 0 ∨ k = 1 := by omega
  · obtain ⟨a, c, hv, _⟩ := h.s1.shape
    exact ⟨a, c, l1, by rw [← hv]; exact h.kb.cell 0, by rw [← hv]; exact h.s1, b1, n1⟩
  · obtain ⟨a, c, hv, _⟩ := h.s2.shape
    exact ⟨a, c, l2, by rw [← hv]; exact h.kb.cell 1, by rw [← hv]; exact h.s2, b2, n2⟩
theorem sl_nil (W : World) : Sl W (.slice none 0 0) 1 ([] : List Nat).length (bytes []) := ⟨rfl, .inl ⟨rfl, .inl rfl⟩⟩

set_option maxRecDepth 100000 in
set_option maxHeartbeats 8000000 in
theorem counts_walk (cv rv : Value) (lc lr : List Nat) (w : World) (hc : Sl w cv 1 lc.length (bytes lc)) (hr : Sl w rv 1 lr.length (bytes lr)) (bc : ∀ x ∈ lc, x < 256) (br : ∀ x ∈ lr, x < 256) :
    Calls Try.prog 8 #[cv, rv] w fun e w' => e = .returned (.bool true) ∧ w.grownBy w' none := by
  obtain ⟨ra, rc, rfl, n1, m1, _⟩ := hr.shape
  obtain ⟨ca, cc, rfl, n3, m3, hcx⟩ := hc.shape
  unfold maxLen at m1 m3
  have HR := Lib.hid hr
  have HC := Lib.hid hc
  have HBR := Lib.hid br
  have HBC := Lib.hid bc
  clear hr hc br bc hcx
  go_enter Try.func8, Try.ntmps8
  by_cases h1 : 300 < lr.length
  · have h1' : (300 : Int) < (lr.length : Int) := by omega
    go_wp2_with fail
    refine (awake_any _).mono ?_
    rintro e w2 ⟨rfl, hg⟩
    go_wp2_with fail
    go_ret
    exact ⟨rfl, hg⟩
  have h1' : decide ((300 : Int) < (lr.length : Int)) = false := by simp; omega
  go_wp2_with fail
  refine (new_sl _ _ _ _ HC.out HBC.out).mono ?_
  rintro e w2 ⟨rfl, hcd, hg⟩
  have HG2 := Lib.hid hg
  have HR2 := Lib.hid (HR.out.by_ hg)
  have HCD := Lib.hid hcd
  clear hg hcd HC
  go_wp2_with fail
  refine (bytes_any _ 6 _ _ _ HCD.out (by omega)).mono ?_
  rintro e w3 ⟨v3, lb, rfl, ho, hb, hlb, _, hg⟩
  obtain ⟨ba, bcp, hv3⟩ := own_slc ho
  subst hv3
  have hg3 := gb_new HG2.out hg (Nat.le_refl _)
  have hgA := gb_alloc (gb_refl w3 none) (.cells #[.slice ba lb.length bcp, .slice ra lr.length rc] 22)
  have S0 : CtS w w3.heap.size (.slice ba lb.length bcp) (.slice ra lr.length rc) lb lr (w3.alloc (.cells #[.slice ba lb.length bcp, .slice ra lr.length rc] 22)) :=
    ⟨Bk.new _ _ _, (own_sl ho).by_ hgA, (HR.out.by_ hg3).by_ hgA, gb_none hg3 hgA⟩
  have HS0 := Lib.hid S0
  have HBB := Lib.hid hb
  have hlb6 : lb.length ≤ 300 := by omega
  have hlr3 : lr.length ≤ 300 := by omega
  clear S0 hgA ho hb hlb hg hg3 HG2 HR2 HCD HR
  go_wp2_with fail
  generalize w3.alloc _ = W4 at *
  generalize w3.heap.size = nb at *
  go_loopw [21] (fun i wr => ∃ k : Nat, k ≤ 2 ∧ i = .int .i64 k ∧ CtS w nb (.slice ba lb.length bcp) (.slice ra lr.length rc) lb lr wr) (fun i _ => 2 - (intOf i).toNat)
  case atStart => exact ⟨0, by omega, rfl, HS0.out⟩
  case round =>
    clear HS0
    obtain ⟨k, hk, rfl, S⟩ := hrel
    by_cases hk2 : k < 2
    · obtain ⟨xa, xc, l, hcell, hsl, hbl, hll⟩ := S.at_ hk2 HBB.out HBR.out hlb6 hlr3
      have HS := Lib.hid S
      have HSL := Lib.hid hsl
      have HBL := Lib.hid hbl
      have i1 : (k : Int) < 2 := by omega
      clear S hsl hbl
      go_wp2_with fail
      have hf := feed_any (.slice none 0 0) (.slice xa l.length xc) [] l 0 _ (sl_nil _) HSL.out (by simp) HBL.out (by simp; omega) (by decide) (by decide)
      rw [List.nil_append] at hf
      have hcn := feed_cnt l.length l (Nat.le_refl _)
      obtain ⟨fs, dr, he, hfe⟩ : ∃ fs dr he, feed l = (fs, dr, he) := ⟨_, _, _, rfl⟩
      rw [hfe] at hf hcn
      dsimp only at hf hcn
      have hfl : fs.length ≤ 300 := by have := cntF_len fs; omega
      refine hf.mono ?_
      clear hf hfe
      rintro e w5 ⟨hv, lv, rfl, ho5, hf5, hg5⟩
      obtain ⟨ha, hc, hve⟩ := own_slc ho5
      subst hve
      have hfv := hf5.v
      obtain ⟨la, lc', hle, _⟩ := hf5.v
      subst hle
      have g6 := gb_alloc (gb_refl w5 none) (.cells #[.slice ha he.length hc, .int .i64 dr] 36)
      have k6 := Bk.new w5 #[.slice ha he.length hc, .int .i64 dr] 36
      have HS6 := Lib.hid ((HS.out.by_ hg5).by_ g6)
      have HF6 := Lib.hid (hfv.by_ g6)
      have hd0 : (0 : Int) + (dr : Int) = (dr : Int) := by omega
      clear hcell HS HSL ho5 hf5 hg5 hfv g6
      go_upto_region 7 with fail
      generalize w5.alloc _ = w6 at *
      generalize w5.heap.size = n6 at *
      have k6c := k6.cell
      clear k6
      go_wp2_with fail
      clear k6c
      go_loopw [9, 39] (fun n i wx => ∃ j c : Nat, j ≤ fs.length ∧ i = .int .i64 j ∧ n = .int .i64 c ∧ c = dr + he.length + cntF (fs.take j) ∧ w6 = wx) (fun _ i _ => fs.length - (intOf i).toNat)
      case atStart => exact ⟨0, dr + he.length, Nat.zero_le _, rfl, by simp, by simp [cntF], rfl⟩
      case round =>
        obtain ⟨j, c, hj, rfl, rfl, hc9, rfl⟩ := hrel
        by_cases hlt : j < fs.length
        · have hct := cntF_take fs j hlt
          have hcle := cntF_le fs (j + 1)
          have hl3 : la = la ∧ lc' = lc' := ⟨rfl, rfl⟩
          obtain ⟨la2, lc2, hv2, _, _, hx⟩ := HF6.out
          injection hv2 with e1 _ e2
          subst e1 e2
          rcases hx with hx | ⟨g, off, rfl, hcx⟩
          · omega
          obtain ⟨_, _, dv, e2, hd⟩ := hcx j hlt
          obtain ⟨da, dc, rfl, _⟩ := hd.shape
          clear hcx hd
          generalize (fs.getD j fr0).data.length = m at *
          have HC9 := Lib.hid (show c + (6 + m) = dr + he.length + cntF (fs.take (j + 1)) by omega)
          have hb9 : c + (6 + m) ≤ 300 := by omega
          have j0 : (0 : Int) ≤ (j : Int) := by omega
          have j1 : (j : Int) < (fs.length : Int) := by omega
          clear hct hcle hc9 hcn
          go_wp2_with fail
          exact ⟨⟨j + 1, c + (6 + m), by omega, by go_num, by go_num, HC9.out, trivial⟩, by simp [intOf]; omega⟩
        · obtain rfl : j = fs.length := by omega
          rw [List.take_length] at hc9
          obtain rfl : c = l.length := by omega
          clear hc9 hcn
          go_wp2_with fail
          exact ⟨⟨k + 1, by omega, by go_num, HS6.out⟩, by simp [intOf]; omega⟩
    · obtain rfl : k = 2 := by omega
      have HS := Lib.hid S
      clear S
      go_wp2_with fail
      refine (awake_any _).mono ?_
      rintro e w7 ⟨rfl, hg7⟩
      go_wp2_with fail
      go_ret
      exact ⟨rfl, gb_none HS.out.g hg7⟩
end Go.Proofs.Ytolkjklejcealaa
