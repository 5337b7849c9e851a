/- The statement WindowTogether: the walk. -/
import Derived.Test.YtackckljldpldaaHr
import Derived.Test.YtackckljldpldaaAl6
namespace Go.Proofs.Ytackckljldpldaa
open Go.RowKit
attribute [local go_sem ↓] Go.wp_at_zero Go.wp_at_succ

theorem Try.infoSpan : (Try.prog.info? 29).map (fun i => (i.zero, i.size, i.bytes)) = some (some (.agg #[.int .i64 0, .int .i64 0]), 2, 16) := by kernel_rfl
def SpB (p : Int × Int) : Prop := (-9223372036854775808 ≤ p.1 ∧ p.1 ≤ 9223372036854775807) ∧ (-9223372036854775808 ≤ p.2 ∧ p.2 ≤ 9223372036854775807)
/-- While spans are drawn: the codes, the list. -/
structure ToS (w : World) (b : Nat) (l : List Nat) (L : List (Int × Int)) (lv : Value) (W : World) : Prop where
  cd : ∃ j, CdAt W b l j
  o : W.ownsRow (b + 1) 29 2 lv L.length (L.flatMap spL)
  g : w.grownBy W none
  lb : w.heap.size ≤ b
  bd : ∀ p ∈ L, SpB p
section
variable {w : World} {b : Nat} {l : List Nat} {L : List (Int × Int)} {lv : Value} {W W' : World}
theorem ToS.by_ (h : ToS w b l L lv W) (o : W.grownBy W' none) : ToS w b l L lv W' :=
  let ⟨j, c⟩ := h.cd
  ⟨⟨j, c.keep o (fun g e => by cases e)⟩, own_by h.o o, gb_none h.g o, h.lb, h.bd⟩
theorem ToS.draw (h : ToS w b l L lv W) (c : ∃ j, CdAt W' b l j) (o : W.grownBy W' (some b)) : ToS w b l L lv W' :=
  ⟨c, h.o.kept o (.inr fun e => by have := own_base h.o b e; omega), gb_new h.g o h.lb, h.lb, h.bd⟩
theorem ToS.oth {n : Nat} (h : ToS w b l L lv W) (o : W.grownBy W' (some n)) (hn : b < n) (hne : lv.ownBlock ≠ some n) : ToS w b l L lv W' := by
  obtain ⟨j, c⟩ := h.cd
  have hb := h.lb
  exact ⟨⟨j, c.keep o (fun g e => by injection e with e; omega)⟩, h.o.kept o (.inr hne), gb_new h.g o (by omega), h.lb, h.bd⟩
theorem ToS.add (h : ToS w b l L lv W) (p : Int × Int) (hp : SpB p) {lv' : Value} (ho : W'.ownsRow (b + 1) 29 2 lv' (L.length + 1) (L.flatMap spL ++ spL p)) (o : W.grownBy W' lv.ownBlock) : ToS w b l (L ++ [p]) lv' W' := by
  have hb := own_base h.o
  have hl := h.lb
  obtain ⟨j, c⟩ := h.cd
  refine ⟨⟨j, c.keep o (fun g e => by have := hb g e; omega)⟩, ?_, gb_call h.g o (fun g e => .inr (by have := hb g e; omega)), h.lb, fun q hq => ?_⟩
  · have e : (L ++ [p]).flatMap spL = L.flatMap spL ++ spL p := by simp
    rw [e, List.length_append]
    exact ho
  · rcases List.mem_append.1 hq with h1 | h1
    · exact h.bd q h1
    · simp at h1; subst h1; exact hp
end
/-- The two lists. -/
structure T2S (w : World) (nb : Nat) (lv rv : Value) (L R : List (Int × Int)) (W : World) : Prop where
  kb : Bk W nb #[lv, rv] 63
  sl : Sl W lv 2 L.length (L.flatMap spL)
  sr : Sl W rv 2 R.length (R.flatMap spL)
  g : w.grownBy W none
theorem T2S.by_ {w : World} {nb : Nat} {lv rv : Value} {L R : List (Int × Int)} {W W' : World} (h : T2S w nb lv rv L R W) (o : W.grownBy W' none) : T2S w nb lv rv L R W' := ⟨h.kb.of o (by simp), h.sl.by_ o, h.sr.by_ o, gb_none h.g o⟩
theorem spL_one (p : Int × Int) : ∀ u ∈ spL p, u.oneCell' = true := by intro u hu; simp [spL] at hu; rcases hu with rfl | rfl <;> rfl

set_option maxRecDepth 100000 in
set_option maxHeartbeats 32000000 in
theorem together_walk (cv rv : Value) (lc : List Nat) (R : List (Int × Int)) (w : World) (hc : Sl w cv 1 lc.length (bytes lc)) (hb : ∀ x ∈ lc, x < 256) (hr : Sl w rv 2 R.length (R.flatMap spL)) (hrb : ∀ p ∈ R, SpB p) :
    Calls Try.prog 10 #[cv, rv] w fun e w' => e = .returned (.bool true) ∧ w.grownBy w' none := by
  obtain ⟨a, cap, rfl, _, _, _⟩ := hc.shape
  obtain ⟨ra, rcap, rfl, hrn, hrm, _⟩ := hr.shape
  obtain ⟨ie, hie, hie1, hie2, hie3⟩ := info_parts Try.infoSpan
  have HN := Lib.hid (new_sl _ lc w hc hb)
  have HSR := Lib.hid hr
  have HRB := Lib.hid hrb
  clear hc hb hr hrb
  by_cases hlen : 30 < R.length
  · have h1 : decide ((30 : Int) < (R.length : Int)) = true := by
      have : (30 : Int) < (R.length : Int) := by omega
      simpa using this
    go_enter Try.func10, Try.ntmps10
    go_wp2_with fail
    refine (awake6_any _).mono ?_
    rintro e W2 ⟨rfl, hg⟩
    go_wp2_with fail
    go_ret
    exact ⟨rfl, hg⟩
  · have h1 : decide ((30 : Int) < (R.length : Int)) = false := by
      have : ¬ (30 : Int) < (R.length : Int) := by omega
      simpa using this
    go_enter Try.func10, Try.ntmps10
    go_wp2_with fail
    refine HN.out.mono ?_
    rintro e W2 ⟨rfl, ⟨l3, hcd⟩, hg⟩
    have HG2 := Lib.hid hg
    have hbb : w.heap.size < W2.heap.size := hcd.lt
    clear hg HN h1
    go_wp2_with fail
    refine (next_ex w.heap.size l3 0 5 _ hcd (by omega) (by omega)).mono ?_
    rintro e W3 ⟨k0, j3, rfl, ha0, hb0, c3, ho⟩
    have HS3 := Lib.hid (⟨⟨j3, c3⟩, World.ownsRow_nil _ _ _ _, gb_new HG2.out (gb_only ho) (Nat.le_refl _), Nat.le_refl _, by simp⟩ : ToS w w.heap.size l3 [] (.slice none 0 0) W3)
    clear hcd c3 ho HG2 hbb
    generalize hbe : w.heap.size = b at *
    go_wp2_with fail
    go_loopw [6, 7] (fun i6 i7 wr => ∃ (k : Int) (L : List (Int × Int)), i7 = .int .i64 k ∧ 0 ≤ k ∧ L.length + k ≤ 4 ∧ Hid (ToS w b l3 L i6 wr)) (fun _ i7 _ => (intOf i7).toNat)
    case atStart => exact ⟨k0, [], rfl, ha0, by simp; omega, HS3⟩
    case round =>
      clear HS3
      obtain ⟨k, L, rfl, hk0, hk4, HS⟩ := hrel
      by_cases hlt : 0 < k
      · have hlt' : decide (0 < k) = true := by simpa using hlt
        obtain ⟨j, c⟩ := HS.out.cd
        have HM := Lib.hid (measured_any b l3 j wr c)
        obtain ⟨la, lcp, hlv⟩ := own_slc HS.out.o
        subst hlv
        clear c
        go_wp2_with fail
        refine HM.out.mono ?_
        rintro e w6 ⟨ms, mt, lo, hi, rfl, -, -, hsp, hcc, hg⟩
        have hbd : SpB (lo, hi) ∧ SpB (hi, lo) := by
          unfold SpB
          rcases hsp with h | h
          · unfold nothingSp at h; injection h with h1 h2; dsimp only; omega
          · dsimp only; omega
        have HBD := Lib.hid hbd
        have hf := fldM ms mt lo hi
        have S6 := HS.out.draw hcc hg
        have g8 := gb_alloc (gb_refl w6 none) (.cells #[.int .i64 lo, .int .i64 hi] 29)
        have HS8 := Lib.hid (S6.by_ g8)
        have HK8 := Lib.hid (Bk.new w6 #[.int .i64 lo, .int .i64 hi] 29)
        have hnb : b < w6.heap.size := by obtain ⟨_, cc⟩ := hcc; exact cc.lt
        have hne : (Value.slice la L.length lcp).ownBlock ≠ some w6.heap.size := fun e => by have := (S6.o.lt _ e).2; omega
        have HNE := Lib.hid hne
        clear hsp hbd hcc hg S6 g8 HM HS hne
        unfold msV
        go_upto_region 9 with fail
        clear hf
        generalize w6.alloc _ = W8 at *
        generalize w6.heap.size = n8 at *
        obtain ⟨j8, c8⟩ := HS8.out.cd
        go_wp2_with fail
        refine (one_any b l3 j8 12 _ c8 (by omega) (by omega)).mono ?_
        rintro e W9 ⟨bo, j9, rfl, c9, ho⟩
        have HS9 := Lib.hid (HS8.out.draw ⟨j9, c9⟩ (gb_only ho))
        have HK9 := Lib.hid (HK8.out.of (gb_only ho) (by simp; omega))
        clear c8 c9 ho HS8 HK8
        cases bo with
        | true =>
          have kc := HK9.out.cell
          have kf := HK9.out.frozen
          have gS := setC_gb n8 [.int .i64 hi, .int .i64 lo] W9 0
          have S11 := HS9.out.oth gS hnb HNE.out
          have K11 := HK9.out.all [.int .i64 hi, .int .i64 lo] rfl
          simp only [setC] at S11 K11
          have HS11 := Lib.hid S11
          have HK11 := Lib.hid K11
          clear gS S11 K11 HS9 HK9
          go_upto_region 11 with fail
          clear kc kf
          generalize World.setCell _ ⟨n8, 1, none⟩ _ = W11 at *
          have k0c : W11.cell? ⟨n8, 0, none⟩ = some (.int .i64 hi) := HK11.out.cell 0
          have k1c : W11.cell? ⟨n8, 1, none⟩ = some (.int .i64 lo) := HK11.out.cell 1
          have hsz : b < W11.heap.size := by obtain ⟨_, cc⟩ := HS11.out.cd; exact cc.lt
          go_wp2_with (at_builtin; go_loud (refine wpList_app _ rfl _ _ 63 rfl (b + 1) 29 ie _ 2 16 Try.underlying63 hie hie1 hie2 hie3 rfl (by omega) (.slice la L.length lcp) L.length (L.flatMap spL) rfl (HS11.out.by_ (gb_alloc (gb_refl _ none) _)).o (.slice (some ⟨W11.heap.size, 0, none⟩) 1 1) 1 (spL (hi, lo)) rfl (sl_new _ _ _ _ rfl (by simp [maxLen]) rfl) (spL_one (hi, lo)) (by simp [maxLen]; omega) (by omega) (by simp; omega) ?_); intro lv' w12 hown hgrow; have HS12 := Lib.hid ((HS11.out.by_ (gb_alloc (gb_refl W11 none) (.cells #[.int .i64 hi, .int .i64 lo] 29))).add (hi, lo) HBD.out.2 hown hgrow); clear hown hgrow)
          exact ⟨⟨k - 1, L ++ [(hi, lo)], rfl, by omega, by simp; omega, HS12⟩, by simp [intOf]; omega⟩
        | false =>
          have k0c : W9.cell? ⟨n8, 0, none⟩ = some (.int .i64 lo) := HK9.out.cell 0
          have k1c : W9.cell? ⟨n8, 1, none⟩ = some (.int .i64 hi) := HK9.out.cell 1
          have HS11 := HS9
          have hsz : b < W9.heap.size := by obtain ⟨_, cc⟩ := HS11.out.cd; exact cc.lt
          go_wp2_with (at_builtin; go_loud (refine wpList_app _ rfl _ _ 63 rfl (b + 1) 29 ie _ 2 16 Try.underlying63 hie hie1 hie2 hie3 rfl (by omega) (.slice la L.length lcp) L.length (L.flatMap spL) rfl (HS11.out.by_ (gb_alloc (gb_refl _ none) _)).o (.slice (some ⟨W9.heap.size, 0, none⟩) 1 1) 1 (spL (lo, hi)) rfl (sl_new _ _ _ _ rfl (by simp [maxLen]) rfl) (spL_one (lo, hi)) (by simp [maxLen]; omega) (by omega) (by simp; omega) ?_); intro lv' w12 hown hgrow; have HS12 := Lib.hid ((HS11.out.by_ (gb_alloc (gb_refl W9 none) (.cells #[.int .i64 lo, .int .i64 hi] 29))).add (lo, hi) HBD.out.1 hown hgrow); clear hown hgrow)
          exact ⟨⟨k - 1, L ++ [(lo, hi)], rfl, by omega, by simp; omega, HS12⟩, by simp [intOf]; omega⟩
      · have hlt' : decide (0 < k) = false := by simpa using hlt
        obtain ⟨la, lcp, hlv⟩ := own_slc HS.out.o
        subst hlv
        have gx := gb_alloc (gb_refl wr none) (.cells #[.slice la L.length lcp, .slice ra R.length rcap] 63)
        have HT := Lib.hid (⟨Bk.new wr _ _, (own_sl HS.out.o).by_ gx, HSR.out.by_ (gb_none HS.out.g gx), gb_none HS.out.g gx⟩ : T2S w wr.heap.size (.slice la L.length lcp) (.slice ra R.length rcap) L R (wr.alloc (.cells #[.slice la L.length lcp, .slice ra R.length rcap] 63)))
        have HLB := Lib.hid HS.out.bd
        clear gx HS
        go_upto_region 13 with fail
        generalize wr.alloc _ = W20 at *
        generalize wr.heap.size = nb at *
        go_wp2_with fail
        refine wp_loop_rounds 3 ?_
        rw [rounds_succ]
        have kc := HT.out.kb.cell 0
        have HP := Lib.hid (pMeet_any _ L _ HT.out.sl)
        obtain ⟨mm, hmm⟩ : ∃ mm, meetSp L = mm := ⟨_, rfl⟩
        obtain ⟨⟨x, y⟩, ok⟩ := mm
        rw [hmm] at HP
        dsimp only at HP
        go_wp2_with fail
        refine HP.out.mono ?_
        rintro e V1 ⟨rfl, hg⟩
        have g2 := gb_alloc hg (.cells #[.int .i64 x, .int .i64 y] 29)
        have HT2 := Lib.hid (HT.out.by_ g2)
        have HX2 := Lib.hid (Bk.new V1 #[.int .i64 x, .int .i64 y] 29)
        clear hg g2 HP kc HT
        go_upto_region 16 with fail
        generalize V1.alloc _ = V2 at *
        generalize V1.heap.size = n11 at *
        have HQ := Lib.hid (rMeet_any _ L _ HT2.out.sl)
        rw [hmm] at HQ
        dsimp only at HQ
        clear hmm
        go_wp2_with fail
        refine HQ.out.mono ?_
        rintro e V3 ⟨rfl, hg⟩
        have g4 := gb_alloc hg (.cells #[.int .i64 x, .int .i64 y] 29)
        have HT4 := Lib.hid (HT2.out.by_ g4)
        have HX4 := Lib.hid (HX2.out.of g4 (by simp))
        have HY4 := Lib.hid (Bk.new V3 #[.int .i64 x, .int .i64 y] 29)
        clear hg g4 HQ HT2 HX2
        go_upto_region 17 with fail
        generalize V3.alloc _ = V4 at *
        generalize V3.heap.size = n13 at *
        have x0 : V4.cell? ⟨n11, 0, none⟩ = some (.int .i64 x) := HX4.out.cell 0
        have x1 : V4.cell? ⟨n11, 1, none⟩ = some (.int .i64 y) := HX4.out.cell 1
        have y0 : V4.cell? ⟨n13, 0, none⟩ = some (.int .i64 x) := HY4.out.cell 0
        have y1 : V4.cell? ⟨n13, 1, none⟩ = some (.int .i64 y) := HY4.out.cell 1
        have b1 : (x == x) = true := by simp
        have b2 : (y == y) = true := by simp
        have b3 : (ok == ok) = true := by simp
        have HH := Lib.hid (pHull_any _ L _ HT4.out.sl)
        obtain ⟨hh, hhh⟩ : ∃ hh, hullSp L = hh := ⟨_, rfl⟩
        obtain ⟨u, v⟩ := hh
        rw [hhh] at HH
        dsimp only at HH
        go_wp2_with fail
        refine HH.out.mono ?_
        rintro e V5 ⟨rfl, hg⟩
        have HT5 := Lib.hid (HT4.out.by_ hg)
        clear hg HT4 HX4 HY4 x0 x1 y0 y1 HH
        have HJ := Lib.hid (rHull_any _ L _ HT5.out.sl HLB.out)
        rw [hhh] at HJ
        dsimp only at HJ
        clear hhh
        have b4 : (u == u) = true := by simp
        have b5 : (v == v) = true := by simp
        go_wp2_with fail
        refine HJ.out.mono ?_
        rintro e V6 ⟨rfl, hg⟩
        have HT := Lib.hid (HT5.out.by_ hg)
        clear hg HT5 HJ
        go_wp2_with fail
        clear b1 b2 b3 b4 b5
        rw [rounds_succ]
        have kc := HT.out.kb.cell 1
        have HP := Lib.hid (pMeet_any _ R _ HT.out.sr)
        obtain ⟨mm, hmm⟩ : ∃ mm, meetSp R = mm := ⟨_, rfl⟩
        obtain ⟨⟨x, y⟩, ok⟩ := mm
        rw [hmm] at HP
        dsimp only at HP
        go_wp2_with fail
        refine HP.out.mono ?_
        rintro e V1 ⟨rfl, hg⟩
        have g2 := gb_alloc hg (.cells #[.int .i64 x, .int .i64 y] 29)
        have HT2 := Lib.hid (HT.out.by_ g2)
        have HX2 := Lib.hid (Bk.new V1 #[.int .i64 x, .int .i64 y] 29)
        clear hg g2 HP kc HT
        go_upto_region 16 with fail
        generalize V1.alloc _ = V2 at *
        generalize V1.heap.size = n11 at *
        have HQ := Lib.hid (rMeet_any _ R _ HT2.out.sr)
        rw [hmm] at HQ
        dsimp only at HQ
        clear hmm
        go_wp2_with fail
        refine HQ.out.mono ?_
        rintro e V3 ⟨rfl, hg⟩
        have g4 := gb_alloc hg (.cells #[.int .i64 x, .int .i64 y] 29)
        have HT4 := Lib.hid (HT2.out.by_ g4)
        have HX4 := Lib.hid (HX2.out.of g4 (by simp))
        have HY4 := Lib.hid (Bk.new V3 #[.int .i64 x, .int .i64 y] 29)
        clear hg g4 HQ HT2 HX2
        go_upto_region 17 with fail
        generalize V3.alloc _ = V4 at *
        generalize V3.heap.size = n13 at *
        have x0 : V4.cell? ⟨n11, 0, none⟩ = some (.int .i64 x) := HX4.out.cell 0
        have x1 : V4.cell? ⟨n11, 1, none⟩ = some (.int .i64 y) := HX4.out.cell 1
        have y0 : V4.cell? ⟨n13, 0, none⟩ = some (.int .i64 x) := HY4.out.cell 0
        have y1 : V4.cell? ⟨n13, 1, none⟩ = some (.int .i64 y) := HY4.out.cell 1
        have b1 : (x == x) = true := by simp
        have b2 : (y == y) = true := by simp
        have b3 : (ok == ok) = true := by simp
        have HH := Lib.hid (pHull_any _ R _ HT4.out.sr)
        obtain ⟨hh, hhh⟩ : ∃ hh, hullSp R = hh := ⟨_, rfl⟩
        obtain ⟨u, v⟩ := hh
        rw [hhh] at HH
        dsimp only at HH
        go_wp2_with fail
        refine HH.out.mono ?_
        rintro e V5 ⟨rfl, hg⟩
        have HT5 := Lib.hid (HT4.out.by_ hg)
        clear hg HT4 HX4 HY4 x0 x1 y0 y1 HH
        have HJ := Lib.hid (rHull_any _ R _ HT5.out.sr HRB.out)
        rw [hhh] at HJ
        dsimp only at HJ
        clear hhh
        have b4 : (u == u) = true := by simp
        have b5 : (v == v) = true := by simp
        go_wp2_with fail
        refine HJ.out.mono ?_
        rintro e V6 ⟨rfl, hg⟩
        have HT := Lib.hid (HT5.out.by_ hg)
        clear hg HT5 HJ
        go_wp2_with fail
        clear b1 b2 b3 b4 b5
        rw [rounds_succ]
        go_wp2_with fail
        refine (awake6_any _).mono ?_
        rintro e W30 ⟨rfl, hg⟩
        go_wp2_with fail
        go_ret
        exact ⟨rfl, gb_none HT.out.g hg⟩
end Go.Proofs.Ytackckljldpldaa
