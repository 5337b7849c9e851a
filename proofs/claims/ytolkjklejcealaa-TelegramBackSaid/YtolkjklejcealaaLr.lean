/- The statement TelegramReads: the walk. -/
import Derived.Test.YtolkjklejcealaaP6
import Derived.Test.YtolkjklejcealaaLn
import Derived.StillTailTactics
namespace Go.Proofs.Ytolkjklejcealaa
open Go.RowKit
attribute [local go_sem ↓] Go.wp_at_zero Go.wp_at_succ

theorem feed_lt : ∀ (k : Nat) (l : List Nat), l.length ≤ k → (∀ x ∈ l, x < 256) → (∀ x ∈ (feed l).2.2, x < 256) := by
  intro k
  induction k with
  | zero =>
    intro l hl
    obtain rfl : l = [] := List.eq_nil_of_length_eq_zero (by omega)
    intro _ x hx
    exact absurd hx (by simp [feed, feedN])
  | succ k ih =>
    intro l hl hb
    cases h : act4 l with
    | stop => rw [feed_stop h]; exact hb
    | drop =>
      rw [feed_drop h]
      have h0 : l ≠ [] := by rintro rfl; rw [act4_nil] at h; cases h
      have hp := List.length_pos_iff.2 h0
      exact ih (l.drop 1) (by rw [List.length_drop]; omega) (fun x hx => hb x (List.mem_of_mem_drop hx))
    | take f n =>
      rw [feed_take h]
      obtain ⟨hn, hle, _⟩ := act4_take h
      exact ih (l.drop n) (by rw [List.length_drop]; omega) (fun x hx => hb x (List.mem_of_mem_drop hx))

/-- What is known in the loop. -/
structure RdS (w : World) (nb : Nat) (v1 v2 : Value) (l1 l2 : List Nat) (hv : Value) (held : List Nat) (z : Int) (W : World) : Prop where
  ct : CtS w nb v1 v2 l1 l2 W
  k5 : Bk W w.heap.size #[hv, .int .i64 z] 36
  sh : Sl W hv 1 held.length (bytes held)
theorem RdS.by_ {w : World} {nb : Nat} {v1 v2 : Value} {l1 l2 : List Nat} {hv : Value} {held : List Nat} {z : Int} {W W' : World} (h : RdS w nb v1 v2 l1 l2 hv held z W) (o : W.grownBy W' none) : RdS w nb v1 v2 l1 l2 hv held z W' :=
  ⟨h.ct.by_ o, h.k5.of o (by simp), h.sh.by_ o⟩
/-- The beginning of a slice. -/
theorem sl_pre {W : World} {a : Option Addr} {n c k : Nat} {l : List Nat} (h : Sl W (.slice a n c) 1 n (bytes l)) (hl : l.length = n) (hk : k ≤ n) : Sl W (.slice a k c) 1 (l.take k).length (bytes (l.take k)) := by
  subst hl
  have hlen : (l.take k).length = k := by rw [List.length_take]; omega
  refine ⟨bytes_len _, ?_⟩
  rw [hlen]
  rcases h.2 with ⟨h0, hv⟩ | ⟨g, off, c', hv, hn, hm, hc⟩
  · obtain rfl : k = 0 := by omega
    rcases hv with hv | ⟨a', c', hv, hm⟩
    · rw [h0] at hv
      exact .inl ⟨rfl, .inl hv⟩
    · rw [h0] at hv
      exact .inl ⟨rfl, .inr ⟨a', c', hv, hm⟩⟩
  · injection hv with e1 _ e3
    subst e1 e3
    by_cases h0 : k = 0
    · subst h0
      exact .inl ⟨rfl, .inr ⟨_, _, rfl, hm⟩⟩
    · refine .inr ⟨g, off, c, rfl, by omega, hm, fun j hj => ?_⟩
      rw [hc j (by omega)]
      simp [bytes, List.getD_eq_getElem?_getD, show j < k by omega]

/-- A reader that is stored leaves lists of bytes and of telegrams as they are. -/
theorem sl_rd {W W' : World} {v a : Value} {b n : Nat} {l : List Nat} {d : Int} (h : Sl W v 1 n (bytes l)) (k : Bk W b #[a, .int .i64 d] 36) (ha : ∃ x y z, a = .slice x y z) (o : W.grownBy W' (some b)) : Sl W' v 1 n (bytes l) := by
  refine h.draw o fun off hc => ?_
  by_cases h0 : n = 0
  · exact h0
  exfalso
  obtain ⟨x, y, z, rfl⟩ := ha
  have h1 := hc 0 (by omega)
  have hl := h.1
  rw [bytes_len] at hl
  have h2 : (bytes l).getD 0 undef = .int .u8 (l.getD 0 0 : Nat) := by
    simp [bytes, List.getD_eq_getElem?_getD, List.getElem?_eq_getElem (show 0 < l.length by omega)]
  rw [h2, Nat.add_zero, k.cell] at h1
  match off, h1 with
  | 0, h1 => simp at h1
  | 1, h1 => simp at h1
  | n + 2, h1 => simp at h1
theorem FrsV.rd {W W' : World} {v a : Value} {b : Nat} {l : List Fr} {d : Int} (h : FrsV W v l) (k : Bk W b #[a, .int .i64 d] 36) (ha : ∃ x y z, a = .slice x y z) (o : W.grownBy W' (some b)) : FrsV W' v l := by
  obtain ⟨pa, cap, hv, h1, h2, h3⟩ := h
  refine ⟨pa, cap, hv, h1, h2, ?_⟩
  rcases h3 with h3 | ⟨g, off, hg, hc⟩
  · exact .inl h3
  · refine .inr ⟨g, off, hg, fun j hj => ?_⟩
    obtain ⟨e0, e1, dv, e2, hd⟩ := hc j hj
    have hgb : g ≠ b := by
      rintro rfl
      obtain ⟨x, y, z, rfl⟩ := ha
      rw [k.cell] at e0 e1
      generalize off + j * 3 = i at e0 e1
      match i, e0, e1 with
      | 0, e0, _ => simp at e0
      | 1, _, e1 => simp at e1
      | n + 2, e0, _ => simp at e0
    have q : ∀ {i : Nat} {v : Value}, W.cell? ⟨g, i, none⟩ = some v → W'.cell? ⟨g, i, none⟩ = some v := fun {i v} e => by
      rw [← e]; exact gb_cell o (World.block_lt_of_cell? _ _ e) (by simpa using Ne.symm hgb) _
    exact ⟨q e0, q e1, dv, q e2, sl_rd hd k ha o⟩
theorem RdS.rd {w : World} {nb : Nat} {v1 v2 : Value} {l1 l2 : List Nat} {hv : Value} {held : List Nat} {z : Int} {W W' : World} {a : Value} {b : Nat} {d : Int} (h : RdS w nb v1 v2 l1 l2 hv held z W) (k : Bk W b #[a, .int .i64 d] 36) (ha : ∃ x y z, a = .slice x y z) (o : W.grownBy W' (some b)) (hb : w.heap.size < b) : RdS w nb v1 v2 l1 l2 hv held z W' := by
  have hnb := h.ct.kb.ne k (by decide)
  exact ⟨⟨h.ct.kb.of o (by simpa using Ne.symm hnb), sl_rd h.ct.s1 k ha o, sl_rd h.ct.s2 k ha o, gb_new h.ct.g o (by omega)⟩, h.k5.of o (by simp; omega), sl_rd h.sh k ha o⟩

theorem store_rd {W : World} {base n : Nat} {a b hv lv : Value} {he : List Nat} {fs : List Fr} {d : Int} (k : Bk W n #[a, b] 36) (ho : W.ownsRow base 5 1 hv he.length (bytes he)) (hf : FrsO W base lv fs) :
    Bk (setC W n 0 [hv, .int .i64 d]) n #[hv, .int .i64 d] 36 ∧ Sl (setC W n 0 [hv, .int .i64 d]) hv 1 he.length (bytes he) ∧ FrsV (setC W n 0 [hv, .int .i64 d]) lv fs ∧ W.grownBy (setC W n 0 [hv, .int .i64 d]) (some n) := by
  have o := setC_gb n [hv, .int .i64 d] W 0
  obtain ⟨ps, hps, hp⟩ := hf
  exact ⟨k.all [hv, .int .i64 d] rfl, own_sl (ho.kept o (.inr (own_ne ho k (by decide)))), FrsO.v ⟨ps, hps, hp.set k (by decide) (by decide) o⟩, o⟩

set_option maxRecDepth 100000 in
set_option maxHeartbeats 8000000 in
theorem reads_walk (cv hv rv : Value) (lc held lr : List Nat) (z zk : Int) (w : World) (hc : Sl w cv 1 lc.length (bytes lc)) (hh : Sl w hv 1 held.length (bytes held)) (hr : Sl w rv 1 lr.length (bytes lr))
    (bc : ∀ x ∈ lc, x < 256) (bh : ∀ x ∈ held, x < 256) (br : ∀ x ∈ lr, x < 256) (z1 : -9223372036854775808 ≤ z) (z2 : z ≤ 9223372036854775807) (zk1 : -9223372036854775808 ≤ zk) (zk2 : zk ≤ 9223372036854775807) :
    Calls Try.prog 4 #[cv, .agg #[hv, .int .i64 z], rv, .int .i64 zk] w fun e w' => e = .returned (.bool true) ∧ w.grownBy w' none := by
  obtain ⟨ra, rc, rfl, n1, m1, _⟩ := hr.shape
  obtain ⟨ha, hcp, rfl, n2, m2, _⟩ := hh.shape
  obtain ⟨ca, cc, rfl, n3, m3, hcx⟩ := hc.shape
  unfold maxLen at m1 m2 m3
  have g1 := gb_alloc (gb_refl w none) (.cells #[.slice ha held.length hcp, .int .i64 z] 36)
  have k1 := Bk.new w #[.slice ha held.length hcp, .int .i64 z] 36
  have HR := Lib.hid (hr.by_ g1)
  have HH := Lib.hid (hh.by_ g1)
  have HC := Lib.hid (hc.by_ g1)
  have G1 := Lib.hid g1
  have K1 := Lib.hid k1
  have HBR := Lib.hid br
  have HBH := Lib.hid bh
  have HBC := Lib.hid bc
  clear hr hh hc g1 br bh bc hcx
  go_enter Try.func4, Try.ntmps4
  go_upto_region 1 with fail
  generalize w.alloc _ = W1 at *
  have k1c := k1.cell
  clear k1
  by_cases h1 : 200 < held.length
  · have h1' : (200 : Int) < (held.length : Int) := by omega
    go_wp2_with fail
    refine (awake_any _).mono ?_
    rintro e w2 ⟨rfl, hg⟩
    go_wp2_with fail
    go_ret
    exact ⟨rfl, gb_none G1.out hg⟩
  have h1' : decide ((200 : Int) < (held.length : Int)) = false := by simp; omega
  by_cases h2 : 300 < lr.length
  · have h2' : (300 : Int) < (lr.length : Int) := by omega
    go_wp2_with fail
    refine (awake_any _).mono ?_
    rintro e w2 ⟨rfl, hg⟩
    go_wp2_with fail
    go_ret
    exact ⟨rfl, gb_none G1.out hg⟩
  have h2' : decide ((300 : Int) < (lr.length : Int)) = false := by simp; omega
  by_cases h3 : 1099511627776 < z
  · have h3' : decide (1099511627776 < z) = true := by simpa using h3
    go_wp2_with fail
    refine (awake_any _).mono ?_
    rintro e w2 ⟨rfl, hg⟩
    go_wp2_with fail
    go_ret
    exact ⟨rfl, gb_none G1.out hg⟩
  have h3' : decide (1099511627776 < z) = false := by simpa using h3
  go_wp2_with fail
  refine (new_sl _ _ _ _ HC.out HBC.out).mono ?_
  rintro e w2 ⟨rfl, hcd, hg⟩
  have HG2 := Lib.hid hg
  have HCD := Lib.hid hcd
  clear hg hcd HC k1c
  go_wp2_with fail
  refine (bytes_any _ 5 _ _ _ HCD.out (by omega)).mono ?_
  rintro e w3 ⟨v3, lb, rfl, ho, hb, hlb, _, hg⟩
  obtain ⟨ba, bcp, hv3⟩ := own_slc ho
  subst hv3
  have hg3 := gb_new HG2.out hg (Nat.le_refl _)
  have hgA := gb_alloc (gb_refl w3 none) (.cells #[.slice ba lb.length bcp, .slice ra lr.length rc] 22)
  have S0 : RdS w w3.heap.size (.slice ba lb.length bcp) (.slice ra lr.length rc) lb lr (.slice ha held.length hcp) held z (w3.alloc (.cells #[.slice ba lb.length bcp, .slice ra lr.length rc] 22)) :=
    ⟨⟨Bk.new _ _ _, (own_sl ho).by_ hgA, (HR.out.by_ hg3).by_ hgA, gb_none (gb_none G1.out hg3) hgA⟩, (K1.out.of hg3 (by simp)).of hgA (by simp), (HH.out.by_ hg3).by_ hgA⟩
  have HS0 := Lib.hid S0
  have HBB := Lib.hid hb
  have hlb6 : lb.length ≤ 300 := by omega
  have hlr3 : lr.length ≤ 300 := by omega
  have hle2 : held.length ≤ 200 := by omega
  have hz3 : z ≤ 1099511627776 := by omega
  clear S0 hgA ho hb hlb hg hg3 HG2 HCD HR HH K1 G1
  go_wp2_with fail
  generalize w3.alloc _ = W4 at *
  generalize w3.heap.size = nb at *
  go_loopw [37] (fun i wr => ∃ k : Nat, k ≤ 2 ∧ i = .int .i64 k ∧ RdS w nb (.slice ba lb.length bcp) (.slice ra lr.length rc) lb lr (.slice ha held.length hcp) held z wr) (fun i _ => 2 - (intOf i).toNat)
  case atStart => exact ⟨0, by omega, rfl, HS0.out⟩
  case round =>
    clear HS0
    obtain ⟨k, hk, rfl, S⟩ := hrel
    by_cases hk2 : k < 2
    · obtain ⟨xa, xc, l, hcell, hsl, hbl, hll⟩ := S.ct.at_ hk2 HBB.out HBR.out hlb6 hlr3
      have HS := Lib.hid S
      have HSL := Lib.hid hsl
      have HBL := Lib.hid hbl
      have i1 : (k : Int) < 2 := by omega
      clear S hbl
      go_wp2_with fail
      refine (mod_pos zk ((l.length : Int) + 1) _ (by omega) zk1 zk2 (by omega)).mono ?_
      rintro e w4 ⟨rfl, rfl⟩
      obtain ⟨kk, hkk, hkl⟩ : ∃ kk : Nat, zk % ((l.length : Int) + 1) = kk ∧ kk ≤ l.length := by
        have h1 := Int.emod_nonneg zk (show ((l.length : Int) + 1) ≠ 0 by omega)
        have h2 := Int.emod_lt_of_pos zk (show 0 < ((l.length : Int) + 1) by omega)
        exact ⟨(zk % ((l.length : Int) + 1)).toNat, by omega, by omega⟩
      rw [hkk]
      clear hkk hcell
      have hpre := sl_pre hsl rfl hkl
      have hkl2 : (l.take kk).length = kk := by rw [List.length_take]; omega
      have HKL := Lib.hid hkl2
      have HPRE := Lib.hid hpre
      have HBP := Lib.hid (show ∀ x ∈ l.take kk, x < 256 from fun x hx => HBL.out x (List.mem_of_mem_take hx))
      have hxc : l.length ≤ xc := by obtain ⟨_, _, hv, h5, _⟩ := hsl.shape; injection hv with _ _ e3; subst e3; exact h5
      have hxm : xc ≤ 2 ^ 63 - 1 := by obtain ⟨_, _, hv, _, h5, _⟩ := hsl.shape; injection hv with _ _ e3; subst e3; exact h5
      have hki : (kk : Int) ≤ (xc : Int) := by omega
      clear hsl hpre hkl2
      go_upto_region 7 with fail
      -- REGIONS
      obtain ⟨fs, dr, he, hfe⟩ : ∃ fs dr he, feed (held ++ l.take kk) = (fs, dr, he) := ⟨_, _, _, rfl⟩
      have HFE := Lib.hid hfe
      clear hfe
      go_cut [12, 13] from 46 to 53 (fun p lv wx => ∃ (n12 : Nat) (xa5 : Option Addr) (xc5 : Nat) (la5 : Option Addr) (lc5 : Nat), p = .pointer (some ⟨n12, 0, none⟩) ∧ lv = .slice la5 fs.length lc5 ∧ wr.heap.size ≤ n12 ∧ wr.grownBy wx none ∧ Bk wx n12 #[.slice xa5 he.length xc5, .int .i64 (z + (dr : Int))] 36 ∧ Sl wx (.slice xa5 he.length xc5) 1 he.length (bytes he) ∧ FrsV wx (.slice la5 fs.length lc5) fs)
      case first =>
        have gA := gb_alloc (gb_refl wr none) (.cells #[.slice none 0 0, .int .i64 0] 36)
        have gD := gb_drew gA
        have gB := gb_drew (gb_refl wr none)
        have SD := Lib.hid (HS.out.by_ gD)
        have SB := Lib.hid (HS.out.by_ gB)
        have KZ := Lib.hid ((Bk.new wr #[.slice none 0 0, .int .i64 0] 36).of (gb_drew (gb_refl _ none)) (by simp))
        have e0 : wr.drew.cell? ⟨w.heap.size, 0, none⟩ = some (.slice ha held.length hcp) := SB.out.k5.cell 0
        have e1 : wr.drew.cell? ⟨w.heap.size, 1, none⟩ = some (.int .i64 z) := SB.out.k5.cell 1
        have c0 : (wr.alloc (.cells #[.slice none 0 0, .int .i64 0] 36)).drew.cell? ⟨w.heap.size, 0, none⟩ = some (.slice ha held.length hcp) := SD.out.k5.cell 0
        have c1 : (wr.alloc (.cells #[.slice none 0 0, .int .i64 0] 36)).drew.cell? ⟨w.heap.size, 1, none⟩ = some (.int .i64 z) := SD.out.k5.cell 1
        have hlt := HS.out.k5.lt
        have hfA := feed_any (.slice ha held.length hcp) (.slice xa kk xc) held (l.take kk) z (wr.alloc (.cells #[.slice none 0 0, .int .i64 0] 36)).drew SD.out.sh (HPRE.out.by_ gD) HBH.out HBP.out (by rw [HKL.out]; omega) z1 (by omega)
        have hfB := feed_any (.slice ha held.length hcp) (.slice xa kk xc) held (l.take kk) z wr.drew SB.out.sh (HPRE.out.by_ gB) HBH.out HBP.out (by rw [HKL.out]; omega) z1 (by omega)
        rw [HFE.out] at hfA hfB
        dsimp only at hfA hfB
        have HFA := Lib.hid hfA
        have HFB := Lib.hid hfB
        have GD := Lib.hid gD
        have GB := Lib.hid gB
        clear gA gD gB hfA hfB
        go_region_held3 (fun w' => w'.cell? ⟨w.heap.size, 0, none⟩ = some (.slice ha held.length hcp) ∧ w'.cell? ⟨w.heap.size, 1, none⟩ = some (.int .i64 z))
          (first | (with_reducible exact ⟨e0, e1⟩) | (with_reducible exact ⟨c0, c1⟩) | (with_reducible exact ⟨f0, f1⟩) | (with_reducible exact ⟨g0, g1⟩) | (with_reducible exact ⟨d0, d1⟩) | fail)
          ((first
            | (go_at_call 18; refine HFA.out.mono ?_; rintro e w5 ⟨hv5, lv5, rfl, ho5, hf5, hg5⟩; obtain ⟨xa5, xc5, hve⟩ := own_slc ho5; subst hve; obtain ⟨la5, lc5, hle, _⟩ := hf5.v; subst hle; have S5 := Lib.hid (SD.out.by_ hg5); have f0 : w5.cell? ⟨w.heap.size, 0, none⟩ = some (.slice ha held.length hcp) := S5.out.k5.cell 0; have f1 : w5.cell? ⟨w.heap.size, 1, none⟩ = some (.int .i64 z) := S5.out.k5.cell 1; have K5 := Lib.hid (KZ.out.of hg5 (by simp)); have z50 := K5.out.cell 0; have z51 := K5.out.cell 1; have z5f := K5.out.frozen; have X5 := store_rd (d := z + (dr : Int)) K5.out ho5 hf5; simp only [setC] at X5; have K5b := S5.out.k5.of X5.2.2.2 (by simp; omega); have d0 : ((w5.setCell ⟨wr.heap.size, 0, none⟩ (.slice xa5 he.length xc5)).setCell ⟨wr.heap.size, 1, none⟩ (.int .i64 (z + (dr : Int)))).cell? ⟨w.heap.size, 0, none⟩ = some (.slice ha held.length hcp) := K5b.cell 0; have d1 : ((w5.setCell ⟨wr.heap.size, 0, none⟩ (.slice xa5 he.length xc5)).setCell ⟨wr.heap.size, 1, none⟩ (.int .i64 (z + (dr : Int)))).cell? ⟨w.heap.size, 1, none⟩ = some (.int .i64 z) := K5b.cell 1; have HX5 := Lib.hid X5; have HG5 := Lib.hid (gb_new (gb_none GD.out hg5) X5.2.2.2 (Nat.le_refl _)); clear hg5 ho5 hf5 K5b X5)
            | (go_at_call 18; refine HFB.out.mono ?_; rintro e w5 ⟨hv5, lv5, rfl, ho5, hf5, hg5⟩; obtain ⟨xa5, xc5, hve⟩ := own_slc ho5; subst hve; obtain ⟨la5, lc5, hle, _⟩ := hf5.v; subst hle; have S5 := Lib.hid (SB.out.by_ hg5); have f0 : w5.cell? ⟨w.heap.size, 0, none⟩ = some (.slice ha held.length hcp) := S5.out.k5.cell 0; have f1 : w5.cell? ⟨w.heap.size, 1, none⟩ = some (.int .i64 z) := S5.out.k5.cell 1; have o6 := gb_alloc (gb_refl w5 none) (.cells #[.slice none 0 0, .int .i64 0] 36); have S6 := Lib.hid (S5.out.by_ o6); have g0 : (w5.alloc (.cells #[.slice none 0 0, .int .i64 0] 36)).cell? ⟨w.heap.size, 0, none⟩ = some (.slice ha held.length hcp) := S6.out.k5.cell 0; have g1 : (w5.alloc (.cells #[.slice none 0 0, .int .i64 0] 36)).cell? ⟨w.heap.size, 1, none⟩ = some (.int .i64 z) := S6.out.k5.cell 1; have o7 := gb_alloc (gb_refl w5 none) (.cells #[.slice xa5 he.length xc5, .int .i64 (z + (dr : Int))] 36); have S7 := Lib.hid (S5.out.by_ o7); have d0 : (w5.alloc (.cells #[.slice xa5 he.length xc5, .int .i64 (z + (dr : Int))] 36)).cell? ⟨w.heap.size, 0, none⟩ = some (.slice ha held.length hcp) := S7.out.k5.cell 0; have d1 : (w5.alloc (.cells #[.slice xa5 he.length xc5, .int .i64 (z + (dr : Int))] 36)).cell? ⟨w.heap.size, 1, none⟩ = some (.int .i64 z) := S7.out.k5.cell 1; have HX5 := Lib.hid (show Bk (w5.alloc (.cells #[.slice xa5 he.length xc5, .int .i64 (z + (dr : Int))] 36)) w5.heap.size #[.slice xa5 he.length xc5, .int .i64 (z + (dr : Int))] 36 ∧ Sl (w5.alloc (.cells #[.slice xa5 he.length xc5, .int .i64 (z + (dr : Int))] 36)) (.slice xa5 he.length xc5) 1 he.length (bytes he) ∧ FrsV (w5.alloc (.cells #[.slice xa5 he.length xc5, .int .i64 (z + (dr : Int))] 36)) (.slice la5 fs.length lc5) fs from ⟨Bk.new _ _ _, (own_sl ho5).by_ o7, hf5.v.by_ o7⟩); have hsz5 := (gb_none GB.out hg5).size; have HG5 := Lib.hid (gb_none (gb_none GB.out hg5) o7); clear hg5 ho5 hf5 o6 o7)
            | fail))
        all_goals go_wp2_with fail
        all_goals go_meet
        · exact ⟨_, _, _, _, _, rfl, rfl, hsz5, HG5.out, HX5.out.1, HX5.out.2.1, HX5.out.2.2⟩
        · exact ⟨_, _, _, _, _, rfl, rfl, Nat.le_refl _, HG5.out, HX5.out.1, HX5.out.2.1, HX5.out.2.2.1⟩
      case rest =>
        obtain ⟨n12, xa5, xc5, la5, lc5, rfl, rfl, hn12, hg12, hk12, hs12, hf12⟩ := hcut
        have HS7 := Lib.hid (HS.out.by_ hg12)
        have HPRE7 := Lib.hid (HPRE.out.by_ hg12)
        have HSL7 := Lib.hid (HSL.out.by_ hg12)
        have hlt5 := HS.out.k5.lt
        have K12 := Lib.hid hk12
        have S12 := Lib.hid hs12
        have F12 := Lib.hid hf12
        have hlt12 := hk12.lt
        clear hk12 hs12 hf12 hg12 HS HPRE HSL
        generalize wc = w7 at *
        go_upto_region 8 with fail
        go_cut [14, 15] from 54 to 61 (fun p lv wx => ∃ (n12 : Nat) (xa5 : Option Addr) (xc5 : Nat) (la5 : Option Addr) (lc5 : Nat), p = .pointer (some ⟨n12, 0, none⟩) ∧ lv = .slice la5 fs.length lc5 ∧ w7.heap.size ≤ n12 ∧ w7.grownBy wx none ∧ Bk wx n12 #[.slice xa5 he.length xc5, .int .i64 (z + (dr : Int))] 36 ∧ Sl wx (.slice xa5 he.length xc5) 1 he.length (bytes he) ∧ FrsV wx (.slice la5 fs.length lc5) fs)
        case first =>
          have gA := gb_alloc (gb_refl w7 none) (.cells #[.slice none 0 0, .int .i64 0] 36)
          have gD := gb_drew gA
          have gB := gb_drew (gb_refl w7 none)
          have SD := Lib.hid (HS7.out.by_ gD)
          have SB := Lib.hid (HS7.out.by_ gB)
          have KZ := Lib.hid ((Bk.new w7 #[.slice none 0 0, .int .i64 0] 36).of (gb_drew (gb_refl _ none)) (by simp))
          have e0 : w7.drew.cell? ⟨w.heap.size, 0, none⟩ = some (.slice ha held.length hcp) := SB.out.k5.cell 0
          have e1 : w7.drew.cell? ⟨w.heap.size, 1, none⟩ = some (.int .i64 z) := SB.out.k5.cell 1
          have c0 : (w7.alloc (.cells #[.slice none 0 0, .int .i64 0] 36)).drew.cell? ⟨w.heap.size, 0, none⟩ = some (.slice ha held.length hcp) := SD.out.k5.cell 0
          have c1 : (w7.alloc (.cells #[.slice none 0 0, .int .i64 0] 36)).drew.cell? ⟨w.heap.size, 1, none⟩ = some (.int .i64 z) := SD.out.k5.cell 1
          have hlt := HS7.out.k5.lt
          have hfA := refFeed_any (.slice ha held.length hcp) (.slice xa kk xc) held (l.take kk) z (w7.alloc (.cells #[.slice none 0 0, .int .i64 0] 36)).drew SD.out.sh (HPRE7.out.by_ gD) HBH.out HBP.out (by rw [HKL.out]; omega) z1 (by omega)
          have hfB := refFeed_any (.slice ha held.length hcp) (.slice xa kk xc) held (l.take kk) z w7.drew SB.out.sh (HPRE7.out.by_ gB) HBH.out HBP.out (by rw [HKL.out]; omega) z1 (by omega)
          rw [HFE.out] at hfA hfB
          dsimp only at hfA hfB
          have HFA := Lib.hid hfA
          have HFB := Lib.hid hfB
          have GD := Lib.hid gD
          have GB := Lib.hid gB
          clear gA gD gB hfA hfB
          go_region_held3 (fun w' => w'.cell? ⟨w.heap.size, 0, none⟩ = some (.slice ha held.length hcp) ∧ w'.cell? ⟨w.heap.size, 1, none⟩ = some (.int .i64 z))
            (first | (with_reducible exact ⟨e0, e1⟩) | (with_reducible exact ⟨c0, c1⟩) | (with_reducible exact ⟨f0, f1⟩) | (with_reducible exact ⟨g0, g1⟩) | (with_reducible exact ⟨d0, d1⟩) | fail)
            ((first
              | (go_at_call 19; refine HFA.out.mono ?_; rintro e w5 ⟨hv5, lv5, rfl, ho5, hf5, hg5⟩; obtain ⟨xa5, xc5, hve⟩ := own_slc ho5; subst hve; obtain ⟨la5, lc5, hle, _⟩ := hf5.v; subst hle; have S5 := Lib.hid (SD.out.by_ hg5); have f0 : w5.cell? ⟨w.heap.size, 0, none⟩ = some (.slice ha held.length hcp) := S5.out.k5.cell 0; have f1 : w5.cell? ⟨w.heap.size, 1, none⟩ = some (.int .i64 z) := S5.out.k5.cell 1; have K5 := Lib.hid (KZ.out.of hg5 (by simp)); have z50 := K5.out.cell 0; have z51 := K5.out.cell 1; have z5f := K5.out.frozen; have X5 := store_rd (d := z + (dr : Int)) K5.out ho5 hf5; simp only [setC] at X5; have K5b := S5.out.k5.of X5.2.2.2 (by simp; omega); have d0 : ((w5.setCell ⟨w7.heap.size, 0, none⟩ (.slice xa5 he.length xc5)).setCell ⟨w7.heap.size, 1, none⟩ (.int .i64 (z + (dr : Int)))).cell? ⟨w.heap.size, 0, none⟩ = some (.slice ha held.length hcp) := K5b.cell 0; have d1 : ((w5.setCell ⟨w7.heap.size, 0, none⟩ (.slice xa5 he.length xc5)).setCell ⟨w7.heap.size, 1, none⟩ (.int .i64 (z + (dr : Int)))).cell? ⟨w.heap.size, 1, none⟩ = some (.int .i64 z) := K5b.cell 1; have HX5 := Lib.hid X5; have HG5 := Lib.hid (gb_new (gb_none GD.out hg5) X5.2.2.2 (Nat.le_refl _)); clear hg5 ho5 hf5 K5b X5)
              | (go_at_call 19; refine HFB.out.mono ?_; rintro e w5 ⟨hv5, lv5, rfl, ho5, hf5, hg5⟩; obtain ⟨xa5, xc5, hve⟩ := own_slc ho5; subst hve; obtain ⟨la5, lc5, hle, _⟩ := hf5.v; subst hle; have S5 := Lib.hid (SB.out.by_ hg5); have f0 : w5.cell? ⟨w.heap.size, 0, none⟩ = some (.slice ha held.length hcp) := S5.out.k5.cell 0; have f1 : w5.cell? ⟨w.heap.size, 1, none⟩ = some (.int .i64 z) := S5.out.k5.cell 1; have o6 := gb_alloc (gb_refl w5 none) (.cells #[.slice none 0 0, .int .i64 0] 36); have S6 := Lib.hid (S5.out.by_ o6); have g0 : (w5.alloc (.cells #[.slice none 0 0, .int .i64 0] 36)).cell? ⟨w.heap.size, 0, none⟩ = some (.slice ha held.length hcp) := S6.out.k5.cell 0; have g1 : (w5.alloc (.cells #[.slice none 0 0, .int .i64 0] 36)).cell? ⟨w.heap.size, 1, none⟩ = some (.int .i64 z) := S6.out.k5.cell 1; have o7 := gb_alloc (gb_refl w5 none) (.cells #[.slice xa5 he.length xc5, .int .i64 (z + (dr : Int))] 36); have S7 := Lib.hid (S5.out.by_ o7); have d0 : (w5.alloc (.cells #[.slice xa5 he.length xc5, .int .i64 (z + (dr : Int))] 36)).cell? ⟨w.heap.size, 0, none⟩ = some (.slice ha held.length hcp) := S7.out.k5.cell 0; have d1 : (w5.alloc (.cells #[.slice xa5 he.length xc5, .int .i64 (z + (dr : Int))] 36)).cell? ⟨w.heap.size, 1, none⟩ = some (.int .i64 z) := S7.out.k5.cell 1; have HX5 := Lib.hid (show Bk (w5.alloc (.cells #[.slice xa5 he.length xc5, .int .i64 (z + (dr : Int))] 36)) w5.heap.size #[.slice xa5 he.length xc5, .int .i64 (z + (dr : Int))] 36 ∧ Sl (w5.alloc (.cells #[.slice xa5 he.length xc5, .int .i64 (z + (dr : Int))] 36)) (.slice xa5 he.length xc5) 1 he.length (bytes he) ∧ FrsV (w5.alloc (.cells #[.slice xa5 he.length xc5, .int .i64 (z + (dr : Int))] 36)) (.slice la5 fs.length lc5) fs from ⟨Bk.new _ _ _, (own_sl ho5).by_ o7, hf5.v.by_ o7⟩); have hsz5 := (gb_none GB.out hg5).size; have HG5 := Lib.hid (gb_none (gb_none GB.out hg5) o7); clear hg5 ho5 hf5 o6 o7)
              | fail))
          all_goals go_wp2_with fail
          all_goals go_meet
          · exact ⟨_, _, _, _, _, rfl, rfl, hsz5, HG5.out, HX5.out.1, HX5.out.2.1, HX5.out.2.2⟩
          · exact ⟨_, _, _, _, _, rfl, rfl, Nat.le_refl _, HG5.out, HX5.out.1, HX5.out.2.1, HX5.out.2.2.1⟩
        case rest =>
          obtain ⟨n14, ya5, yc5, ka5, kc5, rfl, rfl, hn14, hg14, hk14, hs14, hf14⟩ := hcut
          have HS8 := Lib.hid (HS7.out.by_ hg14)
          have HSL8 := Lib.hid (HSL7.out.by_ hg14)
          have K12b := Lib.hid (K12.out.of hg14 (by simp))
          have S12b := Lib.hid (S12.out.by_ hg14)
          have F12b := Lib.hid (F12.out.by_ hg14)
          have K14 := Lib.hid hk14
          have S14 := Lib.hid hs14
          have F14 := Lib.hid hf14
          clear hk14 hs14 hf14 hg14 HS7 HPRE7 HSL7 K12 S12 F12
          generalize wc = w8 at *
          have k12c := K12b.out.cell
          have k14c := K14.out.cell
          have cv1 := conv_any S12b.out
          have cv2 := conv_any S14.out
          have hSame := same_any (.slice la5 fs.length lc5) (.slice ka5 fs.length kc5) fs w8 F12b.out F14.out
          go_wp2_with fail
          refine hSame.mono ?_
          clear hSame cv1 cv2 k12c k14c
          rintro e w9 ⟨rfl, hg9⟩
          have HS9 := Lib.hid (HS8.out.by_ hg9)
          have HSL9 := Lib.hid (HSL8.out.by_ hg9)
          have K12 := Lib.hid (K12b.out.of hg9 (by simp))
          have K14c := Lib.hid (K14.out.of hg9 (by simp))
          have S14c := Lib.hid (S14.out.by_ hg9)
          have hcn := feed_cnt _ (held ++ l.take kk) (Nat.le_refl _)
          have hblt := feed_lt _ (held ++ l.take kk) (Nat.le_refl _) (fun x hx => (List.mem_append.1 hx).elim (HBH.out x) (HBP.out x))
          rw [HFE.out] at hcn hblt
          dsimp only at hcn hblt
          rw [List.length_append, HKL.out] at hcn
          have hdr : dr ≤ 500 := by omega
          have hel : he.length ≤ 500 := by omega
          have HBE := Lib.hid hblt
          have hn1214 : n12 < n14 := by omega
          have hn5 : w.heap.size < n12 := by omega
          clear hcn hblt hg9 HS8 HSL8 K12b K14 S14 S12b F12b F14 hlt5 hlt12 hn12 hn14
          obtain ⟨zz, hzz⟩ : ∃ zz : Int, z + (dr : Int) = zz := ⟨_, rfl⟩
          have hzz1 : -9223372036854775808 ≤ zz := by omega
          have hzz2 : zz ≤ 2199023255552 := by omega
          rw [hzz] at K12 K14c
          have HZZ := Lib.hid hzz
          obtain ⟨fs2, dr2, he2, hfe2⟩ : ∃ fs2 dr2 he2, feed (he ++ l.drop kk) = (fs2, dr2, he2) := ⟨_, _, _, rfl⟩
          have HFE2 := Lib.hid hfe2
          have hdl : (l.drop kk).length = l.length - kk := List.length_drop
          have HDL := Lib.hid hdl
          have HBD := Lib.hid (show ∀ x ∈ l.drop kk, x < 256 from fun x hx => HBL.out x (List.mem_of_mem_drop hx))
          clear hfe2 hdl hzz
          go_upto_region 11 with fail
          go_cut [13] from 82 to 89 (fun lv wx => ∃ (xa6 : Option Addr) (xc6 : Nat) (la6 : Option Addr) (lc6 : Nat), lv = .slice la6 fs2.length lc6 ∧ w9.grownBy wx (some n12) ∧ Bk wx n12 #[.slice xa6 he2.length xc6, .int .i64 (zz + (dr2 : Int))] 36 ∧ Sl wx (.slice xa6 he2.length xc6) 1 he2.length (bytes he2) ∧ FrsV wx (.slice la6 fs2.length lc6) fs2)
          case first =>
            have gB := gb_drew (gb_refl w9 none)
            have HF := Lib.hid (show ∀ V, Sl w9 V 1 (l.drop kk).length (bytes (l.drop kk)) → _ from fun V hV => feed_any (.slice ya5 he.length yc5) V he (l.drop kk) zz w9.drew (S14c.out.by_ gB) (hV.by_ gB) HBE.out HBD.out (by rw [HDL.out]; omega) hzz1 hzz2)
            have KD12 := Lib.hid (K12.out.of gB (by simp))
            have KD14 := Lib.hid (K14c.out.of gB (by simp))
            have k14c := KD14.out.cell
            rcases HSL9.out.2 with ⟨hl0, hv | ⟨a9, c9, hv, hm9⟩⟩ | ⟨g9, off9, c9, hv, hn9, hm9, _⟩
            · injection hv with q1 q2 q3
              subst q1 q3
              obtain rfl : l = [] := List.eq_nil_of_length_eq_zero hl0
              obtain rfl : kk = 0 := by simpa using hkl
              clear q2
              have e0 : w9.drew.cell? ⟨n14, 0, none⟩ = some (.slice ya5 he.length yc5) := KD14.out.cell 0
              have e1 : w9.drew.cell? ⟨n14, 1, none⟩ = some (.int .i64 zz) := KD14.out.cell 1
              go_region_held3 (fun w' => w'.cell? ⟨n14, 0, none⟩ = some (.slice ya5 he.length yc5) ∧ w'.cell? ⟨n14, 1, none⟩ = some (.int .i64 zz))
                (first | (with_reducible exact ⟨e0, e1⟩) | (with_reducible exact ⟨f0, f1⟩) | (with_reducible exact ⟨d0, d1⟩) | fail)
                ((first
                  | (go_at_call 18; have hF9 := HF.out _ (sl_nil w9); rw [HFE2.out] at hF9; dsimp only at hF9; refine hF9.mono ?_; clear hF9; rintro e w5 ⟨hv5, lv5, rfl, ho5, hf5, hg5⟩; obtain ⟨xa6, xc6, hve⟩ := own_slc ho5; subst hve; obtain ⟨la6, lc6, hle, _⟩ := hf5.v; subst hle; have K5 := Lib.hid (KD12.out.of hg5 (by simp)); have z50 := K5.out.cell 0; have z51 := K5.out.cell 1; have z5f := K5.out.frozen; have Q5 := KD14.out.of hg5 (by simp); have f0 : w5.cell? ⟨n14, 0, none⟩ = some (.slice ya5 he.length yc5) := Q5.cell 0; have f1 : w5.cell? ⟨n14, 1, none⟩ = some (.int .i64 zz) := Q5.cell 1; have X5 := store_rd (d := zz + (dr2 : Int)) K5.out ho5 hf5; simp only [setC] at X5; have Q6 := Q5.of X5.2.2.2 (by simp; omega); have d0 : ((w5.setCell ⟨n12, 0, none⟩ (.slice xa6 he2.length xc6)).setCell ⟨n12, 1, none⟩ (.int .i64 (zz + (dr2 : Int)))).cell? ⟨n14, 0, none⟩ = some (.slice ya5 he.length yc5) := Q6.cell 0; have d1 : ((w5.setCell ⟨n12, 0, none⟩ (.slice xa6 he2.length xc6)).setCell ⟨n12, 1, none⟩ (.int .i64 (zz + (dr2 : Int)))).cell? ⟨n14, 1, none⟩ = some (.int .i64 zz) := Q6.cell 1; have HX5 := Lib.hid X5; have HG5 := Lib.hid (gb_same (gb_none (gb_drew (gb_refl w9 (some n12))) hg5) X5.2.2.2); clear hg5 ho5 hf5 X5 Q5 Q6)
                  | fail))
              all_goals go_wp2_with fail
              all_goals go_meet
              all_goals exact ⟨_, _, _, _, rfl, HG5.out, HX5.out.1, HX5.out.2.1, HX5.out.2.2.1⟩
            · injection hv with q1 q2 q3
              subst q1 q3
              obtain rfl : l = [] := List.eq_nil_of_length_eq_zero hl0
              obtain rfl : kk = 0 := by simpa using hkl
              clear q2
              have e0 : w9.drew.cell? ⟨n14, 0, none⟩ = some (.slice ya5 he.length yc5) := KD14.out.cell 0
              have e1 : w9.drew.cell? ⟨n14, 1, none⟩ = some (.int .i64 zz) := KD14.out.cell 1
              go_region_held3 (fun w' => w'.cell? ⟨n14, 0, none⟩ = some (.slice ya5 he.length yc5) ∧ w'.cell? ⟨n14, 1, none⟩ = some (.int .i64 zz))
                (first | (with_reducible exact ⟨e0, e1⟩) | (with_reducible exact ⟨f0, f1⟩) | (with_reducible exact ⟨d0, d1⟩) | fail)
                ((first
                  | (go_at_call 18; have hF9 := HF.out (.slice (some a9) 0 xc) ⟨rfl, .inl ⟨rfl, .inr ⟨_, _, rfl, hm9⟩⟩⟩; rw [HFE2.out] at hF9; dsimp only at hF9; refine hF9.mono ?_; clear hF9; rintro e w5 ⟨hv5, lv5, rfl, ho5, hf5, hg5⟩; obtain ⟨xa6, xc6, hve⟩ := own_slc ho5; subst hve; obtain ⟨la6, lc6, hle, _⟩ := hf5.v; subst hle; have K5 := Lib.hid (KD12.out.of hg5 (by simp)); have z50 := K5.out.cell 0; have z51 := K5.out.cell 1; have z5f := K5.out.frozen; have Q5 := KD14.out.of hg5 (by simp); have f0 : w5.cell? ⟨n14, 0, none⟩ = some (.slice ya5 he.length yc5) := Q5.cell 0; have f1 : w5.cell? ⟨n14, 1, none⟩ = some (.int .i64 zz) := Q5.cell 1; have X5 := store_rd (d := zz + (dr2 : Int)) K5.out ho5 hf5; simp only [setC] at X5; have Q6 := Q5.of X5.2.2.2 (by simp; omega); have d0 : ((w5.setCell ⟨n12, 0, none⟩ (.slice xa6 he2.length xc6)).setCell ⟨n12, 1, none⟩ (.int .i64 (zz + (dr2 : Int)))).cell? ⟨n14, 0, none⟩ = some (.slice ya5 he.length yc5) := Q6.cell 0; have d1 : ((w5.setCell ⟨n12, 0, none⟩ (.slice xa6 he2.length xc6)).setCell ⟨n12, 1, none⟩ (.int .i64 (zz + (dr2 : Int)))).cell? ⟨n14, 1, none⟩ = some (.int .i64 zz) := Q6.cell 1; have HX5 := Lib.hid X5; have HG5 := Lib.hid (gb_same (gb_none (gb_drew (gb_refl w9 (some n12))) hg5) X5.2.2.2); clear hg5 ho5 hf5 X5 Q5 Q6)
                  | fail))
              all_goals go_wp2_with fail
              all_goals go_meet
              all_goals exact ⟨_, _, _, _, rfl, HG5.out, HX5.out.1, HX5.out.2.1, HX5.out.2.2.1⟩
            · injection hv with q1 _ q3
              subst q1 q3
              have HSUF := Lib.hid (show Sl w9 (.slice (if xc = kk then some ⟨g9, off9, none⟩ else some ⟨g9, off9 + kk, none⟩) (l.length - kk) (xc - kk)) 1 (l.drop kk).length (bytes (l.drop kk)) by
                by_cases hcx : xc = kk
                · rw [if_pos hcx]
                  have h0 : l.drop kk = [] := List.drop_eq_nil_of_le (by omega)
                  rw [h0, show l.length - kk = 0 by omega]
                  exact ⟨rfl, .inl ⟨rfl, .inr ⟨_, _, rfl, by omega⟩⟩⟩
                · rw [if_neg hcx]
                  have hsuf := sl_sub HSL9.out kk (l.length - kk) (xc - kk) (by omega) (by omega) (by omega)
                  rw [List.take_of_length_le (by rw [List.length_drop]; exact Nat.le_refl _)] at hsuf
                  exact hsuf)
              have e0 : w9.drew.cell? ⟨n14, 0, none⟩ = some (.slice ya5 he.length yc5) := KD14.out.cell 0
              have e1 : w9.drew.cell? ⟨n14, 1, none⟩ = some (.int .i64 zz) := KD14.out.cell 1
              go_region_held3 (fun w' => w'.cell? ⟨n14, 0, none⟩ = some (.slice ya5 he.length yc5) ∧ w'.cell? ⟨n14, 1, none⟩ = some (.int .i64 zz))
                (first | (with_reducible exact ⟨e0, e1⟩) | (with_reducible exact ⟨f0, f1⟩) | (with_reducible exact ⟨d0, d1⟩) | fail)
                ((first
                  | (go_at_call 18; generalize (if xc = kk then some (⟨g9, off9, none⟩ : Addr) else some ⟨g9, off9 + kk, none⟩) = ax at *; have hF9 := HF.out _ HSUF.out; rw [HFE2.out] at hF9; dsimp only at hF9; refine hF9.mono ?_; clear hF9; rintro e w5 ⟨hv5, lv5, rfl, ho5, hf5, hg5⟩; obtain ⟨xa6, xc6, hve⟩ := own_slc ho5; subst hve; obtain ⟨la6, lc6, hle, _⟩ := hf5.v; subst hle; have K5 := Lib.hid (KD12.out.of hg5 (by simp)); have z50 := K5.out.cell 0; have z51 := K5.out.cell 1; have z5f := K5.out.frozen; have Q5 := KD14.out.of hg5 (by simp); have f0 : w5.cell? ⟨n14, 0, none⟩ = some (.slice ya5 he.length yc5) := Q5.cell 0; have f1 : w5.cell? ⟨n14, 1, none⟩ = some (.int .i64 zz) := Q5.cell 1; have X5 := store_rd (d := zz + (dr2 : Int)) K5.out ho5 hf5; simp only [setC] at X5; have Q6 := Q5.of X5.2.2.2 (by simp; omega); have d0 : ((w5.setCell ⟨n12, 0, none⟩ (.slice xa6 he2.length xc6)).setCell ⟨n12, 1, none⟩ (.int .i64 (zz + (dr2 : Int)))).cell? ⟨n14, 0, none⟩ = some (.slice ya5 he.length yc5) := Q6.cell 0; have d1 : ((w5.setCell ⟨n12, 0, none⟩ (.slice xa6 he2.length xc6)).setCell ⟨n12, 1, none⟩ (.int .i64 (zz + (dr2 : Int)))).cell? ⟨n14, 1, none⟩ = some (.int .i64 zz) := Q6.cell 1; have HX5 := Lib.hid X5; have HG5 := Lib.hid (gb_same (gb_none (gb_drew (gb_refl w9 (some n12))) hg5) X5.2.2.2); clear hg5 ho5 hf5 X5 Q5 Q6)
                  | fail))
              all_goals go_wp2_with fail
              all_goals go_meet
              all_goals exact ⟨_, _, _, _, rfl, HG5.out, HX5.out.1, HX5.out.2.1, HX5.out.2.2.1⟩
          case rest =>
            obtain ⟨xa6, xc6, la6, lc6, rfl, hg6, hk6, hs6, hf6⟩ := hcut
            have HS10 := Lib.hid (HS9.out.rd K12.out ⟨_, _, _, rfl⟩ hg6 hn5)
            have K14d := Lib.hid (K14c.out.of hg6 (by simp; omega))
            have S14d := Lib.hid (sl_rd S14c.out K12.out ⟨_, _, _, rfl⟩ hg6)
            have HSL10 := Lib.hid (sl_rd HSL9.out K12.out ⟨_, _, _, rfl⟩ hg6)
            have K12d := Lib.hid hk6
            have S12d := Lib.hid hs6
            have F12d := Lib.hid hf6
            clear hg6 hk6 hs6 hf6 HS9 K14c S14c HSL9 K12
            generalize wc = w10 at *
            go_upto_region 12 with fail
            go_cut [15] from 90 to 97 (fun lv wx => ∃ (ya6 : Option Addr) (yc6 : Nat) (ka6 : Option Addr) (kc6 : Nat), lv = .slice ka6 fs2.length kc6 ∧ w10.grownBy wx (some n14) ∧ Bk wx n14 #[.slice ya6 he2.length yc6, .int .i64 (zz + (dr2 : Int))] 36 ∧ Sl wx (.slice ya6 he2.length yc6) 1 he2.length (bytes he2) ∧ FrsV wx (.slice ka6 fs2.length kc6) fs2)
            case first =>
              have gB := gb_drew (gb_refl w10 none)
              have HF := Lib.hid (show ∀ V, Sl w10 V 1 (l.drop kk).length (bytes (l.drop kk)) → _ from fun V hV => refFeed_any (.slice ya5 he.length yc5) V he (l.drop kk) zz w10.drew (S14d.out.by_ gB) (hV.by_ gB) HBE.out HBD.out (by rw [HDL.out]; omega) hzz1 hzz2)
              have KD14 := Lib.hid (K14d.out.of gB (by simp))
              have e0 : w10.cell? ⟨n14, 0, none⟩ = some (.slice ya5 he.length yc5) := K14d.out.cell 0
              have e1 : w10.cell? ⟨n14, 1, none⟩ = some (.int .i64 zz) := K14d.out.cell 1
              rcases HSL10.out.2 with ⟨hl0, hv | ⟨a9, c9, hv, hm9⟩⟩ | ⟨g9, off9, c9, hv, hn9, hm9, _⟩
              · injection hv with q1 q2 q3
                subst q1 q3
                obtain rfl : l = [] := List.eq_nil_of_length_eq_zero hl0
                obtain rfl : kk = 0 := by simpa using hkl
                clear q2
                go_region_law (first
                  | (go_simp; go_at_call 19; have hF9 := HF.out _ (sl_nil w10); rw [HFE2.out] at hF9; dsimp only at hF9; refine hF9.mono ?_; clear hF9; rintro e w5 ⟨hv5, lv5, rfl, ho5, hf5, hg5⟩; obtain ⟨ya6, yc6, hve⟩ := own_slc ho5; subst hve; obtain ⟨ka6, kc6, hle, _⟩ := hf5.v; subst hle; have K5 := Lib.hid (KD14.out.of hg5 (by simp)); have z50 := K5.out.cell 0; have z51 := K5.out.cell 1; have z5f := K5.out.frozen; have X5 := store_rd (d := zz + (dr2 : Int)) K5.out ho5 hf5; simp only [setC] at X5; have HX5 := Lib.hid X5; have HG5 := Lib.hid (gb_same (gb_none (gb_drew (gb_refl w10 (some n14))) hg5) X5.2.2.2); clear hg5 ho5 hf5 X5)
                  | fail)
                all_goals go_wp2_with fail
                all_goals go_meet
                all_goals exact ⟨_, _, _, _, rfl, HG5.out, HX5.out.1, HX5.out.2.1, HX5.out.2.2.1⟩
              · injection hv with q1 q2 q3
                subst q1 q3
                obtain rfl : l = [] := List.eq_nil_of_length_eq_zero hl0
                obtain rfl : kk = 0 := by simpa using hkl
                clear q2
                go_region_law (first
                  | (go_simp; go_at_call 19; have hF9 := HF.out (.slice (some a9) 0 xc) ⟨rfl, .inl ⟨rfl, .inr ⟨_, _, rfl, hm9⟩⟩⟩; rw [HFE2.out] at hF9; dsimp only at hF9; refine hF9.mono ?_; clear hF9; rintro e w5 ⟨hv5, lv5, rfl, ho5, hf5, hg5⟩; obtain ⟨ya6, yc6, hve⟩ := own_slc ho5; subst hve; obtain ⟨ka6, kc6, hle, _⟩ := hf5.v; subst hle; have K5 := Lib.hid (KD14.out.of hg5 (by simp)); have z50 := K5.out.cell 0; have z51 := K5.out.cell 1; have z5f := K5.out.frozen; have X5 := store_rd (d := zz + (dr2 : Int)) K5.out ho5 hf5; simp only [setC] at X5; have HX5 := Lib.hid X5; have HG5 := Lib.hid (gb_same (gb_none (gb_drew (gb_refl w10 (some n14))) hg5) X5.2.2.2); clear hg5 ho5 hf5 X5)
                  | fail)
                all_goals go_wp2_with fail
                all_goals go_meet
                all_goals exact ⟨_, _, _, _, rfl, HG5.out, HX5.out.1, HX5.out.2.1, HX5.out.2.2.1⟩
              · injection hv with q1 _ q3
                subst q1 q3
                have HSUF := Lib.hid (show Sl w10 (.slice (if xc = kk then some ⟨g9, off9, none⟩ else some ⟨g9, off9 + kk, none⟩) (l.length - kk) (xc - kk)) 1 (l.drop kk).length (bytes (l.drop kk)) by
                  by_cases hcx : xc = kk
                  · rw [if_pos hcx]
                    have h0 : l.drop kk = [] := List.drop_eq_nil_of_le (by omega)
                    rw [h0, show l.length - kk = 0 by omega]
                    exact ⟨rfl, .inl ⟨rfl, .inr ⟨_, _, rfl, by omega⟩⟩⟩
                  · rw [if_neg hcx]
                    have hsuf := sl_sub HSL10.out kk (l.length - kk) (xc - kk) (by omega) (by omega) (by omega)
                    rw [List.take_of_length_le (by rw [List.length_drop]; exact Nat.le_refl _)] at hsuf
                    exact hsuf)
                go_region_law (first
                  | (go_simp; go_at_call 19; generalize (if xc = kk then some (⟨g9, off9, none⟩ : Addr) else some ⟨g9, off9 + kk, none⟩) = ax at *; have hF9 := HF.out _ HSUF.out; rw [HFE2.out] at hF9; dsimp only at hF9; refine hF9.mono ?_; clear hF9; rintro e w5 ⟨hv5, lv5, rfl, ho5, hf5, hg5⟩; obtain ⟨ya6, yc6, hve⟩ := own_slc ho5; subst hve; obtain ⟨ka6, kc6, hle, _⟩ := hf5.v; subst hle; have K5 := Lib.hid (KD14.out.of hg5 (by simp)); have z50 := K5.out.cell 0; have z51 := K5.out.cell 1; have z5f := K5.out.frozen; have X5 := store_rd (d := zz + (dr2 : Int)) K5.out ho5 hf5; simp only [setC] at X5; have HX5 := Lib.hid X5; have HG5 := Lib.hid (gb_same (gb_none (gb_drew (gb_refl w10 (some n14))) hg5) X5.2.2.2); clear hg5 ho5 hf5 X5)
                  | fail)
                all_goals go_wp2_with fail
                all_goals go_meet
                all_goals exact ⟨_, _, _, _, rfl, HG5.out, HX5.out.1, HX5.out.2.1, HX5.out.2.2.1⟩
            case rest =>
              obtain ⟨ya6, yc6, ka6, kc6, rfl, hg7, hk7, hs7, hf7⟩ := hcut
              have hn5b : w.heap.size < n14 := by omega
              have HS11 := Lib.hid (HS10.out.rd K14d.out ⟨_, _, _, rfl⟩ hg7 hn5b)
              have K12e := Lib.hid (K12d.out.of hg7 (by simp; omega))
              have S12e := Lib.hid (sl_rd S12d.out K14d.out ⟨_, _, _, rfl⟩ hg7)
              have F12e := Lib.hid (F12d.out.rd K14d.out ⟨_, _, _, rfl⟩ hg7)
              have K14e := Lib.hid hk7
              have S14e := Lib.hid hs7
              have F14e := Lib.hid hf7
              clear hg7 hk7 hs7 hf7 HS10 K14d S14d HSL10 K12d S12d F12d
              generalize wc = w11 at *
              have k12c := K12e.out.cell
              have k14c := K14e.out.cell
              have cv1 := conv_any S12e.out
              have cv2 := conv_any S14e.out
              have hSame := same_any (.slice la6 fs2.length lc6) (.slice ka6 fs2.length kc6) fs2 w11 F12e.out F14e.out
              go_wp2_with fail
              refine hSame.mono ?_
              clear hSame cv1 cv2 k12c k14c
              rintro e w12 ⟨rfl, hg12⟩
              have HS12 := Lib.hid (HS11.out.by_ hg12)
              go_wp2_with fail
              exact ⟨⟨k + 1, by omega, by go_num, HS12.out⟩, by simp [intOf]; omega⟩
    · obtain rfl : k = 2 := by omega
      have HS := Lib.hid S
      clear S
      go_wp2_with fail
      refine (awake_any _).mono ?_
      rintro e w7 ⟨rfl, hg7⟩
      go_wp2_with fail
      go_ret
      exact ⟨rfl, gb_none HS.out.ct.g hg7⟩
end Go.Proofs.Ytolkjklejcealaa
