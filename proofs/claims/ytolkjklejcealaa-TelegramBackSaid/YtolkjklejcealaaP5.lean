/- The program's Feed: the walk. -/
import Derived.Test.YtolkjklejcealaaP4
namespace Go.Proofs.Ytolkjklejcealaa
open Go.RowKit
attribute [local go_sem ↓] Go.wp_at_zero Go.wp_at_succ

theorem FdS.set0 {w : World} {hv lv0 : Value} {all : List Nat} {fv : Value} {ps : List (Fr × Value)} {d : Int} {W : World} (h : FdS w hv lv0 all fv ps d W) {hv' : Value} {n : Nat} {xs : List Value} (ho : W.ownsRow w.heap.size 5 1 hv' n xs) :
    FdS w hv' lv0 all fv ps d (W.setCell ⟨w.heap.size, 0, none⟩ hv') ∧ (W.setCell ⟨w.heap.size, 0, none⟩ hv').ownsRow w.heap.size 5 1 hv' n xs := by
  have o := gb_set (gb_refl W (some w.heap.size)) ⟨w.heap.size, 0, none⟩ (.inl rfl) hv'
  have k := h.kb.set 0 hv'
  exact ⟨⟨k, h.kr.of o (by simp), h.o.kept o (.inr (own_ne h.o h.kb (by decide))), h.fr.set h.kb (by decide) (by decide) o, gb_new h.g o (Nat.le_refl _)⟩, ho.kept o (.inr (own_ne ho h.kb (by decide)))⟩
theorem FdS.fin2 {w : World} {hv lv0 : Value} {all : List Nat} {fv : Value} {ps : List (Fr × Value)} {d : Int} {W : World} (h : FdS w hv lv0 all fv ps d W) {n : Nat} {xs : List Value} (ho : W.ownsRow w.heap.size 5 1 hv n xs) :
    Bk (setC W (w.heap.size + 1) 0 [hv, .int .i64 d]) (w.heap.size + 1) #[hv, .int .i64 d] 36 ∧ (setC W (w.heap.size + 1) 0 [hv, .int .i64 d]).ownsRow w.heap.size 5 1 hv n xs ∧ PsO (setC W (w.heap.size + 1) 0 [hv, .int .i64 d]) w.heap.size fv ps ∧ w.grownBy (setC W (w.heap.size + 1) 0 [hv, .int .i64 d]) none := by
  have o2 := setC_gb (w.heap.size + 1) [hv, .int .i64 d] W 0
  exact ⟨h.kr.all [hv, .int .i64 d] rfl, ho.kept o2 (.inr (own_ne ho h.kr (by decide))), h.fr.set h.kr (by decide) (by decide) o2, gb_new h.g o2 (by omega)⟩
theorem intact_eq (l : List Nat) (y : Nat) : (crcOf 65535 (((l.take (6 + y)).drop 1).take (4 + y - 1)) = (l.take (6 + y)).getD (4 + y) 0 * 256 + (l.take (6 + y)).getD (4 + y + 1) 0) = (crcOf 65535 ((l.drop 1).take (3 + y)) = l.getD (4 + y) 0 * 256 + l.getD (5 + y) 0) := by
  rw [take_getD (by omega), take_getD (by omega), List.drop_take, List.take_take, show min (4 + y - 1) (6 + y - 1) = 3 + y by omega, show 4 + y + 1 = 5 + y by omega]
theorem data_eq (l : List Nat) (y : Nat) : ((l.take (6 + y)).drop 4).take y = (l.drop 4).take y := by
  rw [List.drop_take, List.take_take, show min y (6 + y - 4) = y by omega]

set_option maxRecDepth 100000 in
set_option maxHeartbeats 8000000 in
theorem feed_any (hv bv : Value) (held b : List Nat) (d : Int) (w : World) (h1 : Sl w hv 1 held.length (bytes held)) (h2 : Sl w bv 1 b.length (bytes b)) (hb1 : ∀ x ∈ held, x < 256) (hb2 : ∀ x ∈ b, x < 256)
    (hn : held.length + b.length ≤ 1000000) (hd1 : -9223372036854775808 ≤ d) (hd2 : d ≤ 2199023255552) :
    Calls Try.prog 18 #[.agg #[hv, .int .i64 d], bv] w fun e w' => ∃ hv' lv, e = .returned (.tuple #[.agg #[hv', .int .i64 (d + (feed (held ++ b)).2.1)], lv]) ∧
      w'.ownsRow w.heap.size 5 1 hv' (feed (held ++ b)).2.2.length (bytes (feed (held ++ b)).2.2) ∧ FrsO w' w.heap.size lv (feed (held ++ b)).1 ∧ w.grownBy w' none := by
  obtain ⟨a1, c1, rfl, n1, m1, _⟩ := h1.shape
  obtain ⟨a2, c2, rfl, n2, m2, _⟩ := h2.shape
  obtain ⟨ie, hie, hie1, hie2, hie3⟩ := info_parts Try.infoFrame
  unfold maxLen at m1 m2
  have hball : ∀ x ∈ held ++ b, x < 256 := fun x hx => (List.mem_append.1 hx).elim (hb1 x) (hb2 x)
  have hlall : (held ++ b).length = held.length + b.length := List.length_append
  obtain ⟨all, hall⟩ : ∃ all, held ++ b = all := ⟨_, rfl⟩
  have HALL := Lib.hid hall
  rw [hall] at hball hlall ⊢
  clear hall
  have g0 : ∀ r, w.grownBy (((w.alloc (.cells #[.slice a1 held.length c1, .int .i64 d] 36)).alloc (.cells #[.slice none 0 0, .int .i64 0] 36)).alloc (.cells #[.slice a1 held.length c1, .slice a2 b.length c2] 22)) r := fun r => gb_alloc (gb_alloc (gb_alloc (gb_refl w r) _) _) _
  have kb := ((Bk.new w #[.slice a1 held.length c1, .int .i64 d] 36).of (gb_alloc (gb_refl _ none) (.cells #[.slice none 0 0, .int .i64 0] 36)) (by simp)).of (gb_alloc (gb_refl _ none) (.cells #[.slice a1 held.length c1, .slice a2 b.length c2] 22)) (by simp)
  have kr := (Bk.new (w.alloc (.cells #[.slice a1 held.length c1, .int .i64 d] 36)) #[.slice none 0 0, .int .i64 0] 36).of (gb_alloc (gb_refl _ none) (.cells #[.slice a1 held.length c1, .slice a2 b.length c2] 22)) (by simp)
  have kl := Bk.new ((w.alloc (.cells #[.slice a1 held.length c1, .int .i64 d] 36)).alloc (.cells #[.slice none 0 0, .int .i64 0] 36)) #[.slice a1 held.length c1, .slice a2 b.length c2] 22
  simp only [World.size_alloc] at kr kl
  have HS1 := Lib.hid (h1.by_ (g0 none))
  have HS2 := Lib.hid (h2.by_ (g0 none))
  have HG0 := Lib.hid (g0 none)
  have HKB := Lib.hid kb
  have HKR := Lib.hid kr
  have HKL := Lib.hid kl
  have HD := Lib.hid hb1
  clear h1 h2 g0 kr kl hb1 hb2
  have kbc : (((w.alloc (.cells #[.slice a1 held.length c1, .int .i64 d] 36)).alloc (.cells #[.slice none 0 0, .int .i64 0] 36)).alloc (.cells #[.slice a1 held.length c1, .slice a2 b.length c2] 22)).cell? ⟨w.heap.size, 0, none⟩ = some (.slice a1 held.length c1) := kb.cell 0
  clear kb
  go_enter Try.func18, Try.ntmps18
  go_wp2_with fail
  generalize ((w.alloc _).alloc _).alloc _ = W0 at *
  refine (concat_any _ _ held b (w.heap.size + 2) _ W0 HS1.out HS2.out (HKL.out.cell 0) (HKL.out.cell 1) (by omega)).mono ?_
  rintro e W1 ⟨lv0, rfl, hown, hg⟩
  rw [HALL.out] at hown
  have hs0 := HG0.out.size
  have S1 : FdS w (.slice a1 held.length c1) lv0 all (.slice none 0 0) [] d W1 := ⟨HKB.out.of hg (by simp), HKR.out.of hg (by simp), own_mono hown hs0, PsO.nil _ _, gb_none HG0.out hg⟩
  have hL1 := LeftV.first hown
  have hbig : all.length ≤ 1000000 := by omega
  clear hown hg HKB HKR HKL HS1 HS2 HG0 kbc HD hlall hn n2 m2 hs0
  have HB := Lib.hid hball
  have HS := Lib.hid S1
  have HL := Lib.hid hL1
  clear S1 hL1 hball
  go_wp2_with fail
  go_loopw [6, 7] (fun fv x wr => ∃ (off dd : Nat) (ps : List (Fr × Value)), LeftV lv0 all off x ∧ FdS w (.slice a1 held.length c1) lv0 all fv ps (d + dd) wr ∧ feed all = (ps.map Prod.fst ++ (feed (all.drop off)).1, dd + (feed (all.drop off)).2.1, (feed (all.drop off)).2.2) ∧ dd ≤ off ∧ ps.length ≤ off) (fun _ x _ => slLen x)
  case atStart => exact ⟨0, 0, [], HL.out, by simpa using HS.out, by simp, by omega, by simp⟩
  case round =>
    obtain ⟨off, dd, ps, hL, hS, hfd, hdd, hpl⟩ := hrel
    have hLs := hL.sl (own_sl hS.o)
    have hbl : ∀ x ∈ all.drop off, x < 256 := fun x hx => HB.out x (List.mem_of_mem_drop hx)
    have hol := hL.1
    have HFD := Lib.hid hfd
    have HSL := Lib.hid hLs
    have HBL := Lib.hid hbl
    have HSS := Lib.hid hS
    obtain ⟨fa, fc, hfv⟩ := own_slc hS.fr.1
    subst hfv
    clear hfd hLs hbl hS
    obtain ⟨l, hl⟩ : ∃ l, all.drop off = l := ⟨_, rfl⟩
    have HLL := Lib.hid hl
    rw [hl] at HFD HSL HBL
    obtain ⟨x, hx⟩ : ∃ x : Int, d + (dd : Int) = x := ⟨_, rfl⟩
    rw [hx] at HSS
    have hx1 : -9223372036854775808 ≤ x := by omega
    have hx2 : x ≤ 2199025255552 := by omega
    have HX := Lib.hid hx
    clear hx
    rcases hL with ⟨_, ⟨he, hv⟩ | ⟨hlt, gl, c0, c, hlv, hu, hc, hm⟩⟩
    · have hst : act4 l = .stop := by subst he; rw [← hl, List.drop_length]; exact act4_nil
      have HST := Lib.hid hst
      obtain ⟨q, hq⟩ : ∃ q, l.length = q := ⟨_, rfl⟩
      have hq0 : q ≤ 1000000 := by have := List.length_drop (i := off) (l := all); rw [hl, hq] at this; omega
      clear hst hl
      rcases hv with rfl | ⟨a, c, rfl, hm⟩
      · go_wp2_with fail
        refine (bclone_any _ l _ HSL.out (by rw [hq]; omega)).mono ?_
        rintro e w2 ⟨hv', rfl, ho, hg⟩
        have S2 := HSS.out.by_ hg
        have ho2 := own_mono ho HSS.out.g.size
        rw [hq] at ho2
        obtain ⟨va, vc, hve⟩ := own_slc ho2
        subst hve
        have kbc := S2.kb.cell
        have kbf := S2.kb.frozen
        have S3 := S2.set0 ho2
        have HS3 := Lib.hid S3
        have HQ := Lib.hid hq
        clear S3 S2 ho ho2 hg hq
        go_upto_region 12 with fail
        generalize World.setCell _ _ _ = W3 at *
        have S4 := HS3.out.1
        have k3c := S4.kb.cell
        have k3d := S4.kr.cell
        have k3f := S4.kr.frozen
        have F := S4.fin2 HS3.out.2
        simp only [setC] at F
        have HF := Lib.hid F
        clear F S4 kbc kbf
        go_wp2_with fail
        obtain ⟨fk, fo, fp, fg⟩ := HF.out
        clear k3c k3d k3f HF HS3
        generalize World.setCell _ ⟨w.heap.size + 1, 1, none⟩ _ = W9 at *
        have fkc := fk.cell
        have hfd := HFD.out
        rw [feed_stop HST.out, List.append_nil, Nat.add_zero] at hfd
        refine bodyPost_ret (v := .tuple #[.agg #[.slice va q vc, .int .i64 x], .slice fa ps.length fc]) (by simp [results, Try.results18, go_sem, fkc]) rfl ?_
        rw [hfd]
        dsimp only
        rw [HX.out]
        exact ⟨_, _, rfl, (by rw [HQ.out]; exact fo), ⟨ps, rfl, fp⟩, fg⟩
      · unfold maxLen at hm
        go_wp2_with fail
        refine (bclone_any _ l _ HSL.out (by rw [hq]; omega)).mono ?_
        rintro e w2 ⟨hv', rfl, ho, hg⟩
        have S2 := HSS.out.by_ hg
        have ho2 := own_mono ho HSS.out.g.size
        rw [hq] at ho2
        obtain ⟨va, vc, hve⟩ := own_slc ho2
        subst hve
        have kbc := S2.kb.cell
        have kbf := S2.kb.frozen
        have S3 := S2.set0 ho2
        have HS3 := Lib.hid S3
        have HQ := Lib.hid hq
        clear S3 S2 ho ho2 hg hq
        go_upto_region 12 with fail
        generalize World.setCell _ _ _ = W3 at *
        have S4 := HS3.out.1
        have k3c := S4.kb.cell
        have k3d := S4.kr.cell
        have k3f := S4.kr.frozen
        have F := S4.fin2 HS3.out.2
        simp only [setC] at F
        have HF := Lib.hid F
        clear F S4 kbc kbf
        go_wp2_with fail
        obtain ⟨fk, fo, fp, fg⟩ := HF.out
        clear k3c k3d k3f HF HS3
        generalize World.setCell _ ⟨w.heap.size + 1, 1, none⟩ _ = W9 at *
        have fkc := fk.cell
        have hfd := HFD.out
        rw [feed_stop HST.out, List.append_nil, Nat.add_zero] at hfd
        refine bodyPost_ret (v := .tuple #[.agg #[.slice va q vc, .int .i64 x], .slice fa ps.length fc]) (by simp [results, Try.results18, go_sem, fkc]) rfl ?_
        rw [hfd]
        dsimp only
        rw [HX.out]
        exact ⟨_, _, rfl, (by rw [HQ.out]; exact fo), ⟨ps, rfl, fp⟩, fg⟩
    · subst hlv hu
      generalize hn : all.length - off = q at *
      have hq : l.length = q := by rw [← hl]; exact drop_len hn
      have h0 : 0 < q := by omega
      have hcs := act4_cases l (by omega)
      have x1 : l.getD 1 0 < 256 := getD_lt HBL.out 1
      have HSL2 := Lib.hid (show Sl wr (.slice (some ⟨gl, off, none⟩) l.length c) 1 l.length (bytes l) by have := HSL.out; rw [← hq] at this; exact this)
      have HDD := Lib.hid (show ∀ k, l.drop k = all.drop (off + k) from fun k => by rw [← hl]; exact List.drop_drop ..)
      have HM := Lib.hid hm
      unfold maxLen at hm
      have hq1 : q ≤ 1000000 := by omega
      have h0' : (0 : Int) < (q : Int) := by omega
      have HCS := Lib.hid hcs
      have HQ0 := Lib.hid hq
      have HX1 := Lib.hid x1
      clear hl hcs hq x1
      go_wp2_with fail
      refine (size_any _ l _ HSL.out HBL.out (by rw [HQ0.out]; exact h0)).mono ?_
      rintro e w2 ⟨rfl, rfl⟩
      generalize sizeOf4 l = s at HCS ⊢
      have hq := HQ0.out
      rcases HCS.out with ⟨q1, q2⟩ | ⟨q1, q2⟩ | ⟨q1, q3, q4, q5⟩
      · have q1' : (q : Int) < (s : Int) := by omega
        have HST := Lib.hid q2
        have hq0 := hq1
        clear q1 q2
        go_wp2_with fail
        refine (bclone_any _ l _ HSL.out (by rw [hq]; omega)).mono ?_
        rintro e w2 ⟨hv', rfl, ho, hg⟩
        have S2 := HSS.out.by_ hg
        have ho2 := own_mono ho HSS.out.g.size
        rw [hq] at ho2
        obtain ⟨va, vc, hve⟩ := own_slc ho2
        subst hve
        have kbc := S2.kb.cell
        have kbf := S2.kb.frozen
        have S3 := S2.set0 ho2
        have HS3 := Lib.hid S3
        have HQ := Lib.hid hq
        clear S3 S2 ho ho2 hg hq
        go_upto_region 12 with fail
        generalize World.setCell _ _ _ = W3 at *
        have S4 := HS3.out.1
        have k3c := S4.kb.cell
        have k3d := S4.kr.cell
        have k3f := S4.kr.frozen
        have F := S4.fin2 HS3.out.2
        simp only [setC] at F
        have HF := Lib.hid F
        clear F S4 kbc kbf
        go_wp2_with fail
        obtain ⟨fk, fo, fp, fg⟩ := HF.out
        clear k3c k3d k3f HF HS3
        generalize World.setCell _ ⟨w.heap.size + 1, 1, none⟩ _ = W9 at *
        have fkc := fk.cell
        have hfd := HFD.out
        rw [feed_stop HST.out, List.append_nil, Nat.add_zero] at hfd
        refine bodyPost_ret (v := .tuple #[.agg #[.slice va q vc, .int .i64 x], .slice fa ps.length fc]) (by simp [results, Try.results18, go_sem, fkc]) rfl ?_
        rw [hfd]
        dsimp only
        rw [HX.out]
        exact ⟨_, _, rfl, (by rw [HQ.out]; exact fo), ⟨ps, rfl, fp⟩, fg⟩
      · have HST := Lib.hid q2
        subst q1
        clear q2 HCS hq
        have kbc : w2.cell? ⟨w.heap.size, 1, none⟩ = some (.int .i64 x) := HSS.out.kb.cell 1
        have kbf := HSS.out.kb.frozen 1
        have F9 := Lib.hid (show FdS w (.slice a1 held.length c1) (.slice (some ⟨gl, 0, none⟩) all.length c0) all (.slice fa ps.length fc) ps (d + ((dd + 1 : Nat) : Int)) (w2.setCell ⟨w.heap.size, 1, none⟩ (.int .i64 (x + 1))) by
          have := HSS.out.set (x + 1)
          rw [show d + ((dd + 1 : Nat) : Int) = x + 1 by have := HX.out; omega]
          exact this)
        have E9 := Lib.hid (show feed all = (ps.map Prod.fst ++ (feed (all.drop (off + 1))).1, (dd + 1) + (feed (all.drop (off + 1))).2.1, (feed (all.drop (off + 1))).2.2) by
          have := HFD.out
          rw [feed_drop HST.out, HDD.out 1] at this
          rw [this]
          refine Prod.ext rfl (Prod.ext ?_ rfl)
          show dd + (_ + 1) = dd + 1 + _
          omega)
        clear HFD HSL HSL2
        by_cases hc1 : c = 1
        · subst hc1
          obtain rfl : q = 1 := by omega
          go_wp2_with fail
          exact ⟨⟨off + 1, dd + 1, ps, ⟨by omega, .inl ⟨by omega, .inr ⟨_, _, rfl, by simp [maxLen]⟩⟩⟩, F9.out, E9.out, by omega, by omega⟩, by simp [slLen]⟩
        · have hc2 : 1 < c := by omega
          have hq3 : (1 : Int) ≤ (q : Int) := by omega
          go_wp2_with fail
          exact ⟨⟨off + 1, dd + 1, ps, LeftV.next (s := 1) hn.symm (by omega) hc HM.out (fun _ => rfl), F9.out, E9.out, by omega, by omega⟩, by simp [slLen]; omega⟩
      · obtain ⟨y, hy⟩ : ∃ y, l.getD 1 0 = y := ⟨_, rfl⟩
        rw [hy] at q1 q4 q5 HX1
        have hsq : s ≤ q := by omega
        have hsl0 := sl_sub HSL2.out 0 s c (by omega) (by omega) HM.out
        rw [Nat.add_zero, List.drop_zero] at hsl0
        have hts : (l.take s).length = s := by rw [List.length_take]; omega
        have hsl1 : Sl w2 (.slice (some ⟨gl, off, none⟩) (l.take s).length c) 1 (l.take s).length (bytes (l.take s)) := by rw [hts] at hsl0 ⊢; exact hsl0
        have hbt : ∀ x ∈ l.take s, x < 256 := fun x hx => HBL.out x (List.mem_of_mem_take hx)
        have hI := intact_any gl off c (4 + y) (l.take s) w2 hsl1 hbt (by rw [hts]; omega) (by omega) (by rw [hts]; omega) HM.out
        rw [hts] at hI
        have e9 := intact_eq l y
        rw [← q1] at e9
        have HI := Lib.hid hI
        have HT1 := Lib.hid hsl1
        have HBT := Lib.hid hbt
        have HTS := Lib.hid hts
        have hs0 : ((s : Int) == 0) = false := beq_false_of_ne (by omega)
        have hs1 : (s : Int) ≤ (c : Int) := by omega
        have hs2 : decide ((q : Int) < (s : Int)) = false := by simp; omega
        have hs3 : 6 ≤ s := by omega
        have HQ1 := Lib.hid q1
        have HY := Lib.hid hy
        clear hI hsl0 hsl1 hbt hts hq q1 hy q3 HCS
        rcases q5 with ⟨q5, q6⟩ | ⟨q5, q6⟩
        · have HST := Lib.hid q6
          have hdf := decide_eq_false (p := crcOf 65535 (((l.take s).drop 1).take (4 + y - 1)) = (l.take s).getD (4 + y) 0 * 256 + (l.take s).getD (4 + y + 1) 0) (by rw [e9]; exact q5)
          have HDF := Lib.hid hdf
          clear q5 q6 e9 hdf
          go_wp2_with fail
          refine HI.out.mono ?_
          rw [HDF.out]
          rintro e w3 ⟨rfl, p, rfl⟩
          replace HSS := Lib.hid (HSS.out.by_ (gb_drewN (gb_refl _ none) p))
          clear HI HT1 HSL HSL2
          generalize w2.drewN p = w3 at *
          have kbc : w3.cell? ⟨w.heap.size, 1, none⟩ = some (.int .i64 x) := HSS.out.kb.cell 1
          have kbf := HSS.out.kb.frozen 1
          have F9 := Lib.hid (show FdS w (.slice a1 held.length c1) (.slice (some ⟨gl, 0, none⟩) all.length c0) all (.slice fa ps.length fc) ps (d + ((dd + 1 : Nat) : Int)) (w3.setCell ⟨w.heap.size, 1, none⟩ (.int .i64 (x + 1))) by
            have := HSS.out.set (x + 1)
            rw [show d + ((dd + 1 : Nat) : Int) = x + 1 by have := HX.out; omega]
            exact this)
          have E9 := Lib.hid (show feed all = (ps.map Prod.fst ++ (feed (all.drop (off + 1))).1, (dd + 1) + (feed (all.drop (off + 1))).2.1, (feed (all.drop (off + 1))).2.2) by
            have := HFD.out
            rw [feed_drop HST.out, HDD.out 1] at this
            rw [this]
            refine Prod.ext rfl (Prod.ext ?_ rfl)
            show dd + (_ + 1) = dd + 1 + _
            omega)
          clear HFD
          by_cases hc1 : c = 1
          · omega
          · have hc2 : 1 < c := by omega
            have hq3 : (1 : Int) ≤ (q : Int) := by omega
            go_wp2_with fail
            exact ⟨⟨off + 1, dd + 1, ps, LeftV.next (s := 1) hn.symm (by omega) hc HM.out (fun _ => rfl), F9.out, E9.out, by omega, by omega⟩, by simp [slLen]; omega⟩
        · have hdf := decide_eq_true (p := crcOf 65535 (((l.take s).drop 1).take (4 + y - 1)) = (l.take s).getD (4 + y) 0 * 256 + (l.take s).getD (4 + y + 1) 0) (by rw [e9]; exact q5)
          have HDF := Lib.hid hdf
          rw [← HQ1.out] at q6
          have HST := Lib.hid q6
          clear q5 q6 e9 hdf
          go_wp2_with fail
          refine HI.out.mono ?_
          rw [HDF.out]
          rintro e w3 ⟨rfl, p, rfl⟩
          replace HSS := Lib.hid (HSS.out.by_ (gb_drewN (gb_refl _ none) p))
          replace HT1 := Lib.hid (HT1.out.by_ (gb_drewN (gb_refl _ none) p))
          clear HI HSL HSL2
          generalize w2.drewN p = w3 at *
          go_wp2_with fail
          have hF := framep_any gl off c y (l.take s) w3 HT1.out HBT.out (by rw [HTS.out, HQ1.out]; omega) (by omega) (by rw [HTS.out]; omega) HM.out
          rw [HTS.out, take_getD (by omega), take_getD (by omega), HQ1.out, data_eq, ← HQ1.out] at hF
          have hdl : ((l.drop 4).take y).length = y := sub_len l 4 y (by have := HQ0.out; have := HQ1.out; omega)
          have HDL := Lib.hid hdl
          clear hdl
          generalize (l.drop 4).take y = dt at *
          generalize l.getD 2 0 = ad at *
          generalize l.getD 3 0 = ki at *
          refine hF.mono ?_
          clear hF
          rintro e w4 ⟨dv, rfl, ho, hg⟩
          have S4 := HSS.out.by_ hg
          have ho4 := own_mono ho HSS.out.g.size
          obtain ⟨va, vc, hve⟩ := own_slc ho4
          subst hve
          have o5 := gb_alloc (gb_refl w4 none) (.cells #[.int .i64 ad, .int .i64 ki, .slice va y vc] 24)
          have S5 := S4.by_ o5
          have HS5 := Lib.hid S5
          have HO5 := Lib.hid (own_by ho4 o5)
          have HP := Lib.hid S5.fr.1
          have HNW := Lib.hid (sl_new w4 #[.int .i64 ad, .int .i64 ki, .slice va y vc] 24 w4.heap.size rfl (sz := 3) (by simp [maxLen]) rfl)
          have hsz := S5.g.size
          rw [World.size_alloc] at hsz
          clear S4 S5 ho ho4 o5 hg HT1 HSS
          go_wp2_with (at_builtin; go_loud (refine wpList_app _ rfl _ _ 29 rfl w.heap.size 24 ie _ 3 40 Try.underlying29 hie hie1 hie2 hie3 rfl (by omega) (.slice fa ps.length fc) ps.length (ps.flatMap encFr) rfl HP.out (.slice (some ⟨w4.heap.size, 0, none⟩) 1 1) 1 [.int .i64 ad, .int .i64 ki, .slice va y vc] rfl HNW.out (by intro u hu; simp at hu; rcases hu with rfl | rfl | rfl <;> rfl) (by simp [maxLen]; omega) (by omega) (by simp; omega) ?_); intro v' w6 hown hg6; have HO6 := Lib.hid hown; have HG6 := Lib.hid hg6; obtain ⟨xa, xc, hv⟩ := own_slc hown; subst hv; clear hown hg6)
          have S6 := HS5.out.app (ps' := ps ++ [(⟨ad, ki, dt⟩, .slice va y vc)]) HG6.out (by simpa [encFr] using HO6.out) (fun p hp => by
            rcases List.mem_append.1 hp with hp | hp
            · exact .inl hp
            · right
              rw [List.mem_singleton] at hp
              subst hp
              have o := HO5.out
              dsimp only
              rw [HDL.out]
              exact o)
          have e6 := HFD.out
          rw [feed_take HST.out, HDD.out s] at e6
          refine ⟨⟨off + s, dd, ps ++ [(⟨ad, ki, dt⟩, .slice va y vc)], ?_, by rw [HX.out]; exact S6, by rw [e6]; simp, by omega, by simp; omega⟩, by simp only [slLen]; omega⟩
          by_cases hcs : c = s
          · rw [if_pos hcs]
            exact LeftV.next (s := s) hn.symm (by omega) hc HM.out (fun h => by omega)
          · rw [if_neg hcs]
            exact LeftV.next (s := s) hn.symm (by omega) hc HM.out (fun _ => rfl)
end Go.Proofs.Ytolkjklejcealaa
