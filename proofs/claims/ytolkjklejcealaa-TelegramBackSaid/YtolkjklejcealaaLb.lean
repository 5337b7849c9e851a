/- The statement TelegramBack: the walk. -/
import Derived.Test.YtolkjklejcealaaBm
namespace Go.Proofs.Ytolkjklejcealaa
open Go.RowKit
attribute [local go_sem ↓] Go.wp_at_zero Go.wp_at_succ

theorem gbq {W W' : World} {q : Nat} (h : W' = W.drewN q) : W.grownBy W' none := by
  rw [h]
  exact gb_drewN (gb_refl _ _) _
/-- One telegram of a list. -/
theorem frsv_one {W : World} {g off n c j : Nat} {l : List Fr} (h : FrsV W (.slice (some ⟨g, off, none⟩) n c) l) (hn : l.length = n) (hj : j < n) (hc : n ≤ c) : FrsV W (.slice (some ⟨g, off + j * 3, none⟩) 1 (c - j)) [l.getD j fr0] := by
  subst hn
  obtain ⟨a, cap, hv, h1, h2, h3⟩ := h
  injection hv with e1 _ e3
  subst e1 e3
  refine ⟨_, c - j, rfl, by simp; omega, by omega, ?_⟩
  rcases h3 with h3 | ⟨g', off', ha, hx⟩
  · omega
  · injection ha with ha
    injection ha with ha1 ha2
    subst ha1 ha2
    refine .inr ⟨g, off + j * 3, rfl, fun k hk => ?_⟩
    obtain rfl : k = 0 := by simpa using hk
    have := hx j hj
    simpa using this
theorem sl_bk1 {W : World} {n : Nat} {x : Nat} (k : Bk W n #[.int .u8 x] 5) : Sl W (.slice (some ⟨n, 0, none⟩) 1 1) 1 [x].length (bytes [x]) := sl_bk k rfl

set_option maxRecDepth 100000 in
set_option maxHeartbeats 8000000 in
theorem back_walk (cv rv : Value) (lc lr : List Nat) (w : World) (hc : Sl w cv 1 lc.length (bytes lc)) (hr : Sl w rv 1 lr.length (bytes lr)) (bc : ∀ x ∈ lc, x < 256) (br : ∀ x ∈ lr, x < 256) :
    Calls Try.prog 6 #[cv, rv] w fun e w' => e = .returned (.bool true) ∧ w.grownBy w' none := by
  obtain ⟨ra, rc, rfl, n1, m1, _⟩ := hr.shape
  obtain ⟨ca, cc, rfl, n3, m3, hcx⟩ := hc.shape
  obtain ⟨ie, hie, hie1, hie2, hie3⟩ := info_parts Try.infoFrame
  obtain ⟨iu, hiu, hiu1, hiu2, hiu3⟩ := info_parts Try.infoU8
  unfold maxLen at m1 m3
  have HR := Lib.hid hr
  have HC := Lib.hid hc
  have HBR := Lib.hid br
  have HBC := Lib.hid bc
  clear hr hc br bc hcx
  go_enter Try.func6, Try.ntmps6
  by_cases h1 : 60 < lr.length
  · have h1' : (60 : Int) < (lr.length : Int) := by omega
    go_wp2_with fail
    refine (awake_any _).mono ?_
    rintro e w2 ⟨rfl, hg⟩
    go_wp2_with fail
    go_ret
    exact ⟨rfl, hg⟩
  have h1' : decide ((60 : Int) < (lr.length : Int)) = false := by simp; omega
  go_wp2_with fail
  refine (new_sl _ _ _ _ HC.out HBC.out).mono ?_
  rintro e w2 ⟨rfl, hcd, hg⟩
  have hlt2 : w.heap.size < w2.heap.size := hcd.lt
  have S2 : BkS w2 w.heap.size (lc.take 300) (.slice none 0 0) [] (.slice none 0 0) [] w2 := ⟨⟨0, hcd⟩, World.ownsRow_nil _ _ _ _, .inl ⟨rfl, rfl⟩, World.ownsRow_nil _ _ _ _, fun p hp => by simp at hp, gb_refl _ _, hlt2⟩
  have HS2 := Lib.hid S2
  have HG2 := Lib.hid hg
  have HCD := Lib.hid hcd
  clear hg hcd S2 HC
  go_wp2_with fail
  refine (next_ex _ _ _ 5 _ HCD.out (by omega) (by omega)).mono ?_
  rintro e w3 ⟨v1, j1, rfl, a1, b1, c1, ho⟩
  obtain ⟨k1, rfl⟩ : ∃ k : Nat, v1 = k := ⟨v1.toNat, by omega⟩
  have HS3 := Lib.hid (HS2.out.draw ⟨_, c1⟩ (gb_only ho))
  have hk1 : k1 ≤ 5 := by omega
  clear HS2 HCD c1 ho a1 b1
  go_wp2_with fail
  go_loopw [6, 7, 8] (fun av wv n wr => ∃ (k : Nat) (al : List Nat) (ps : List (Fr × Value)), k ≤ 5 ∧ n = .int .i64 k ∧ BkS w2 w.heap.size (lc.take 300) av al wv ps wr ∧ feed al = (ps.map Prod.fst, 0, []) ∧ (∀ x ∈ al, x < 256) ∧ al.length + 8 * k ≤ 40) (fun _ _ n _ => (intOf n).toNat)
  case atStart => exact ⟨k1, [], [], hk1, rfl, HS3.out, rfl, by simp, by simp; omega⟩
  case round =>
    clear HS3 hk1
    obtain ⟨k, al, ps, hk, rfl, S, hfd, hal, hll⟩ := hrel
    obtain ⟨aa, ac, rfl⟩ := own_slc S.o
    obtain ⟨ba, bcp, rfl⟩ := own_slc S.fr
    have HAL := Lib.hid hal
    have HFD := Lib.hid hfd
    have hpl : ps.length ≤ 40 := by
      have h1 := cntF_len (feed al).1
      have h2 := feed_cnt _ al (Nat.le_refl _)
      rw [hfd] at h1 h2
      dsimp only at h1 h2
      rw [List.length_map] at h1
      omega
    clear hal hfd
    by_cases h0 : 0 < k
    · have h0' : (0 : Int) < (k : Int) := by omega
      obtain ⟨j, cj⟩ := S.cd
      have HS := Lib.hid S
      clear S
      go_wp2_with fail
      refine (frame2_any _ _ _ _ cj).mono ?_
      rintro e w4 ⟨f, dv, rfl, hdk, hb, ⟨fa1, fa2⟩, ⟨fk1, fk2⟩, hd2, hcd, hg⟩
      obtain ⟨da, dc, rfl, _⟩ := hdk.sl.shape
      have g5 := gb_alloc (gb_refl w4 none) (.cells #[.int .i64 f.addr, .int .i64 f.kind, .slice da f.data.length dc] 24)
      have k5 := Bk.new w4 #[.int .i64 f.addr, .int .i64 f.kind, .slice da f.data.length dc] 24
      have HS5 := Lib.hid ((HS.out.draw hcd hg).by_ g5)
      have HD5 := Lib.hid (hdk.by_ g5)
      obtain ⟨hw0, hw1, _⟩ := wrFr_ok f ⟨fa1, by omega⟩ ⟨fk1, by omega⟩ (by omega)
      have hwl := wrFr_lt f hb
      have HSN := Lib.hid (feed_snoc HFD.out f ⟨fa1, by omega⟩ ⟨fk1, by omega⟩ (by omega))
      have HB := Lib.hid hb
      have HNE9 := Lib.hid (show (Value.slice ba ps.length bcp).ownBlock ≠ some w4.heap.size from fun e => by
        have := ((HS.out.draw hcd hg).fr.lt _ e).2
        omega)
      clear HS cj hcd hg hdk g5 hb
      go_upto_region 10 with fail
      generalize w4.alloc _ = w5 at *
      generalize w4.heap.size = n9 at *
      have K5 := Lib.hid k5
      have k5c := k5.cell
      have hw := write_any (.slice da f.data.length dc) f w5 HD5.out.sl HB.out
      obtain ⟨wl, hwe⟩ : ∃ wl, (wrFr f).1 = wl := ⟨_, rfl⟩
      rw [hw0, hwe] at hw
      rw [hwe] at hwl hw1 HSN
      obtain ⟨q, hq⟩ : ∃ q, wl.length = q := ⟨_, rfl⟩
      rw [hq] at hw hw1
      have hq6 : 6 ≤ q := by omega
      have hq8 : q ≤ 8 := by omega
      have HQ := Lib.hid hq
      have HWL := Lib.hid hwl
      clear k5 hw0 hwe hq hw1 hwl
      go_wp2_with fail
      refine hw.mono ?_
      clear hw k5c
      rintro e w6 ⟨bv, rfl, hown, hg⟩
      obtain ⟨xb, xbc, hxe⟩ := own_slc hown
      subst hxe
      have HS6 := Lib.hid (HS5.out.by_ hg)
      have HD6 := Lib.hid (HD5.out.by_ hg)
      have K6 := Lib.hid (K5.out.of hg (by simp))
      have HP6 := Lib.hid (own_sl hown)
      clear hown hg HS5 HD5 K5
      go_upto_region 13 with fail
      have gB := gb_drew (gb_refl w6 none)
      have gA := gb_drew (gb_alloc (gb_refl w6 none) (.cells #[.int .i64 f.addr, .int .i64 f.kind, .slice da f.data.length dc] 24))
      have SD := Lib.hid (HS6.out.by_ gB)
      have PD := Lib.hid (HP6.out.by_ gB)
      have KD := Lib.hid (K6.out.of gB (by simp))
      have DD := Lib.hid (HD6.out.by_ gB)
      have SA := Lib.hid (HS6.out.by_ gA)
      have PA := Lib.hid (HP6.out.by_ gA)
      have KA := Lib.hid (K6.out.of gA (by simp))
      have DA := Lib.hid (HD6.out.by_ gA)
      have KBA := Lib.hid ((Bk.new w6 #[.int .i64 f.addr, .int .i64 f.kind, .slice da f.data.length dc] 24).of (gb_drew (gb_refl _ none)) (by simp))
      have hszd := SD.out.g.size
      have hsza := SA.out.g.size
      have e0 : (w6.drew).cell? ⟨n9, 0, none⟩ = some (.int .i64 f.addr) := KD.out.cell 0
      have e1 : (w6.drew).cell? ⟨n9, 1, none⟩ = some (.int .i64 f.kind) := KD.out.cell 1
      have e2 : (w6.drew).cell? ⟨n9, 2, none⟩ = some (.slice da f.data.length dc) := KD.out.cell 2
      have c0 : ((w6.alloc (.cells #[.int .i64 f.addr, .int .i64 f.kind, .slice da f.data.length dc] 24)).drew).cell? ⟨n9, 0, none⟩ = some (.int .i64 f.addr) := KA.out.cell 0
      have c1 : ((w6.alloc (.cells #[.int .i64 f.addr, .int .i64 f.kind, .slice da f.data.length dc] 24)).drew).cell? ⟨n9, 1, none⟩ = some (.int .i64 f.kind) := KA.out.cell 1
      have c2 : ((w6.alloc (.cells #[.int .i64 f.addr, .int .i64 f.kind, .slice da f.data.length dc] 24)).drew).cell? ⟨n9, 2, none⟩ = some (.slice da f.data.length dc) := KA.out.cell 2
      clear gB gA
      go_region_held3 (fun w' => w'.cell? ⟨n9, 0, none⟩ = some (.int .i64 f.addr) ∧ w'.cell? ⟨n9, 1, none⟩ = some (.int .i64 f.kind) ∧ w'.cell? ⟨n9, 2, none⟩ = some (.slice da f.data.length dc))
        (first | (with_reducible exact ⟨e0, e1, e2⟩) | (with_reducible exact ⟨c0, c1, c2⟩) | (with_reducible exact ⟨f0, f1, f2⟩) | (with_reducible exact ⟨b0, b1, b2⟩) | (with_reducible exact ⟨x0, x1, x2⟩) | fail)
        ((first
          | (refine step_app _ (by rfl) _ _ 29 (by rfl) w2.heap.size 24 ie _ 3 40 Try.underlying29 hie hie1 hie2 hie3 rfl (by omega) (.slice ba ps.length bcp) ps.length (ps.flatMap encFr) (by rfl) S9.out.fr (.slice (some ⟨w7.heap.size, 0, none⟩) 1 1) 1 [.int .i64 f.addr, .int .i64 f.kind, .slice da f.data.length dc] (by rfl) N9.out (by intro u hu; simp at hu; rcases hu with rfl | rfl | rfl <;> rfl) (by simp [maxLen]; omega) (by omega) hsz9 ?_; intro v9 w9 hown hg9; have S10 := Lib.hid (S9.out.appW (ps' := ps ++ [(f, .slice da f.data.length dc)]) hg9 (by simpa [encFr] using hown) (fun p hp => (List.mem_append.1 hp).elim .inl (fun h => by rw [List.mem_singleton] at h; subst h; exact .inr D9.out))); have K10 := Lib.hid (K9.out.of hg9 HNE9.out); have x0 : (w9).cell? ⟨n9, 0, none⟩ = some (.int .i64 f.addr) := K10.out.cell 0; have x1 : (w9).cell? ⟨n9, 1, none⟩ = some (.int .i64 f.kind) := K10.out.cell 1; have x2 : (w9).cell? ⟨n9, 2, none⟩ = some (.slice da f.data.length dc) := K10.out.cell 2; obtain ⟨za, zc, hze⟩ := own_slc hown; subst hze; clear hown hg9)
          | (refine step_app _ (by rfl) _ _ 29 (by rfl) w2.heap.size 24 ie _ 3 40 Try.underlying29 hie hie1 hie2 hie3 rfl (by omega) (.slice ba ps.length bcp) ps.length (ps.flatMap encFr) (by rfl) S9.out.fr (.slice (some ⟨w6.heap.size, 0, none⟩) 1 1) 1 [.int .i64 f.addr, .int .i64 f.kind, .slice da f.data.length dc] (by rfl) N9.out (by intro u hu; simp at hu; rcases hu with rfl | rfl | rfl <;> rfl) (by simp [maxLen]; omega) (by omega) hsz9 ?_; intro v9 w9 hown hg9; have S10 := Lib.hid (S9.out.appW (ps' := ps ++ [(f, .slice da f.data.length dc)]) hg9 (by simpa [encFr] using hown) (fun p hp => (List.mem_append.1 hp).elim .inl (fun h => by rw [List.mem_singleton] at h; subst h; exact .inr D9.out))); have K10 := Lib.hid (K9.out.of hg9 HNE9.out); have x0 : (w9).cell? ⟨n9, 0, none⟩ = some (.int .i64 f.addr) := K10.out.cell 0; have x1 : (w9).cell? ⟨n9, 1, none⟩ = some (.int .i64 f.kind) := K10.out.cell 1; have x2 : (w9).cell? ⟨n9, 2, none⟩ = some (.slice da f.data.length dc) := K10.out.cell 2; obtain ⟨za, zc, hze⟩ := own_slc hown; subst hze; clear hown hg9)
          | (refine step_app _ (by rfl) _ _ 22 (by rfl) w2.heap.size 5 iu _ 1 1 Try.underlying22 hiu hiu1 hiu2 hiu3 rfl (by omega) (.slice aa al.length ac) al.length (bytes al) (by rfl) SD.out.o (.slice xb q xbc) q (bytes wl) (by rfl) PD.out (bytes_one _) (by simp [maxLen]; omega) (by omega) hszd ?_; intro v7 w7 hown hg7; obtain ⟨ya, yc, hye⟩ := own_slc hown; subst hye; have S7 := Lib.hid (SD.out.appA (al' := al ++ wl) hg7 (by rw [List.length_append, bytes_app, HQ.out]; exact hown) (by rw [List.length_append, HQ.out]; omega)); have K7 := Lib.hid (KD.out.of hg7 (own_ne SD.out.o KD.out (by decide))); have D7 := Lib.hid (DD.out.of hg7 (fun g x y k => own_big SD.out.o SD.out.big k)); have f0 : (w7).cell? ⟨n9, 0, none⟩ = some (.int .i64 f.addr) := K7.out.cell 0; have f1 : (w7).cell? ⟨n9, 1, none⟩ = some (.int .i64 f.kind) := K7.out.cell 1; have f2 : (w7).cell? ⟨n9, 2, none⟩ = some (.slice da f.data.length dc) := K7.out.cell 2; have o8 := gb_alloc (gb_refl w7 none) (.cells #[.int .i64 f.addr, .int .i64 f.kind, .slice da f.data.length dc] 24); have S9 := Lib.hid (S7.out.by_ o8); have K9 := Lib.hid (K7.out.of o8 (by simp)); have D9 := Lib.hid (D7.out.by_ o8); have b0 : (w7.alloc (.cells #[.int .i64 f.addr, .int .i64 f.kind, .slice da f.data.length dc] 24)).cell? ⟨n9, 0, none⟩ = some (.int .i64 f.addr) := K9.out.cell 0; have b1 : (w7.alloc (.cells #[.int .i64 f.addr, .int .i64 f.kind, .slice da f.data.length dc] 24)).cell? ⟨n9, 1, none⟩ = some (.int .i64 f.kind) := K9.out.cell 1; have b2 : (w7.alloc (.cells #[.int .i64 f.addr, .int .i64 f.kind, .slice da f.data.length dc] 24)).cell? ⟨n9, 2, none⟩ = some (.slice da f.data.length dc) := K9.out.cell 2; have N9 := Lib.hid (sl_new w7 #[.int .i64 f.addr, .int .i64 f.kind, .slice da f.data.length dc] 24 w7.heap.size rfl (sz := 3) (by simp [maxLen]) rfl); have hsz9 := S9.out.g.size; clear o8; clear hown hg7)
          | (refine step_app _ (by rfl) _ _ 22 (by rfl) w2.heap.size 5 iu _ 1 1 Try.underlying22 hiu hiu1 hiu2 hiu3 rfl (by omega) (.slice aa al.length ac) al.length (bytes al) (by rfl) SA.out.o (.slice xb q xbc) q (bytes wl) (by rfl) PA.out (bytes_one _) (by simp [maxLen]; omega) (by omega) hsza ?_; intro v7 w7 hown hg7; obtain ⟨ya, yc, hye⟩ := own_slc hown; subst hye; have S7 := Lib.hid (SA.out.appA (al' := al ++ wl) hg7 (by rw [List.length_append, bytes_app, HQ.out]; exact hown) (by rw [List.length_append, HQ.out]; omega)); have K7 := Lib.hid (KA.out.of hg7 (own_ne SA.out.o KA.out (by decide))); have D7 := Lib.hid (DA.out.of hg7 (fun g x y k => own_big SA.out.o SA.out.big k)); have f0 : (w7).cell? ⟨n9, 0, none⟩ = some (.int .i64 f.addr) := K7.out.cell 0; have f1 : (w7).cell? ⟨n9, 1, none⟩ = some (.int .i64 f.kind) := K7.out.cell 1; have f2 : (w7).cell? ⟨n9, 2, none⟩ = some (.slice da f.data.length dc) := K7.out.cell 2; have S9 := S7; have K9 := K7; have D9 := D7; have N9 := Lib.hid (sl_bk (sz := 3) (KBA.out.of hg7 (own_ne SA.out.o KBA.out (by decide))) rfl); have hsz9 := S9.out.g.size; clear hown hg7)
          | fail))
      all_goals have HPB := Lib.hid (show ∀ x ∈ al ++ wl, x < 256 from fun x hx => (List.mem_append.1 hx).elim (HAL.out x) (HWL.out x))
      all_goals go_wp2_with fail
      all_goals exact ⟨⟨k - 1, al ++ wl, ps ++ [(f, .slice da f.data.length dc)], by omega, by go_num, S10.out, by rw [HSN.out]; simp, HPB.out, by rw [List.length_append, HQ.out]; omega⟩, by simp [intOf]; omega⟩
    · obtain rfl : k = 0 := by omega
      have HS := Lib.hid S
      have HG := Lib.hid (gb_new HG2.out S.g (Nat.le_refl _))
      clear S h0
      go_wp2_with fail
      have hf := feed_any (.slice none 0 0) (.slice aa al.length ac) [] al 0 _ (sl_nil _) (own_sl HS.out.o) (by simp) HAL.out (by simp; omega) (by decide) (by decide)
      rw [List.nil_append, HFD.out] at hf
      dsimp only at hf
      refine hf.mono ?_
      clear hf
      rintro e w5 ⟨hv, lv, rfl, ho5, hf5, hg5⟩
      obtain ⟨ha, hcp, hve⟩ := own_slc ho5
      subst hve
      have HF5 := Lib.hid hf5.v
      obtain ⟨qs, hqs, hq⟩ := hf5
      obtain ⟨la, lcp, hle⟩ := own_slc hq.1
      subst hle
      have g6 := gb_alloc (gb_refl w5 none) (.cells #[.slice ha 0 hcp, .int .i64 0] 36)
      have k6 := Bk.new w5 #[.slice ha 0 hcp, .int .i64 0] 36
      have HF6 := Lib.hid (HF5.out.by_ g6)
      have HS6 := Lib.hid ((HS.out.by_ hg5).by_ g6)
      have HW6 := Lib.hid (psV HS6.out.fr (fun p hp => (HS6.out.da p hp).sl))
      have HG6 := Lib.hid (gb_none (gb_none HG.out hg5) g6)
      clear ho5 hq hqs hg5 g6 HS HG HF5
      go_upto_region 15 with fail
      generalize w5.alloc _ = w6 at *
      generalize w5.heap.size = n6 at *
      have k6c := k6.cell
      go_wp2_with fail
      refine (same_any _ _ (ps.map Prod.fst) _ HF6.out HW6.out).mono ?_
      rintro e w7 ⟨rfl, hg7⟩
      have HG7 := Lib.hid (gb_none HG6.out hg7)
      clear k6 k6c hg7 HF6 HW6 HS6 HG6
      have g8 := gb_alloc (gb_refl w7 none) (.cells #[.int .u8 1] 5)
      have kd8 := Bk.new w7 #[.int .u8 1] 5
      have g9 := gb_alloc (gb_refl (w7.alloc (.cells #[.int .u8 1] 5)) none) (.cells #[.int .i64 200, .int .i64 77, .slice (some ⟨w7.heap.size, 0, none⟩) 1 1] 24)
      have k9 := Bk.new (w7.alloc (.cells #[.int .u8 1] 5)) #[.int .i64 200, .int .i64 77, .slice (some ⟨w7.heap.size, 0, none⟩) 1 1] 24
      rw [World.size_alloc] at k9
      have HK9 := Lib.hid k9
      have HD9 := Lib.hid (kd8.of g9 (by simp))
      have HG9 := Lib.hid (gb_none (gb_none HG7.out g8) g9)
      clear g8 kd8 g9 k9 HG7
      go_upto_region 18 with fail
      generalize (w7.alloc _).alloc _ = w9 at *
      generalize w7.heap.size + 1 = n14 at *
      generalize w7.heap.size = d14 at *
      obtain ⟨wb, hwb⟩ : ∃ wb, (wrFr fr200).1 = wb := ⟨_, rfl⟩
      have hw7 := wr200_n
      have hfar := far_ne
      have hw256 := wrFr_lt fr200 (by decide)
      have hw := write_any _ fr200 w9 (sl_bk1 HD9.out) (by decide)
      rw [wr200_e, hwb] at hw
      rw [hwb] at hw7 hw256
      simp only [hwb] at hfar
      rw [hw7] at hw
      have HW7 := Lib.hid hw7
      have HFAR := Lib.hid hfar
      have HWL2 := Lib.hid hw256
      have k9c := HK9.out.cell
      clear hwb hw7 hfar hw256
      go_wp2_with fail
      refine hw.mono ?_
      clear hw k9c
      rintro e w10 ⟨bv, rfl, hown, hg⟩
      obtain ⟨xb, xbc, hxe⟩ := own_slc hown
      subst hxe
      have HK10 := Lib.hid (HK9.out.of hg (by simp))
      have HD10 := Lib.hid (HD9.out.of hg (by simp))
      have HG10 := Lib.hid (gb_none HG9.out hg)
      have HP10 := Lib.hid (own_sl hown)
      have HR10 := Lib.hid (HR.out.by_ HG10.out)
      have hs10 := HG10.out.size
      clear hown hg HK9 HD9 HG9
      have hlr : lr.length ≤ 60 := by omega
      go_upto_region 20 with (at_builtin; first
        | (refine wpList_app _ rfl _ _ 22 rfl w10.heap.size 5 iu _ 1 1 Try.underlying22 hiu hiu1 hiu2 hiu3 rfl (by omega) (.slice none 0 0) 0 [] rfl (World.ownsRow_nil _ _ _ _) (.slice ra lr.length rc) lr.length (bytes lr) rfl HR10.out (bytes_one _) (by simp [maxLen]; omega) (by omega) (Nat.le_refl _) ?_; intro v11 w11 hown hg; rw [Nat.zero_add, List.nil_append] at hown; have hg' : w10.grownBy w11 none := hg; obtain ⟨na, nc, hne⟩ := own_slc hown; subst hne; have HO11 := Lib.hid hown; have HP11 := Lib.hid (HP10.out.by_ hg'); have HG11 := Lib.hid hg'; have hs11 := hg'.size; clear hown hg hg')
        | (refine wpList_app _ rfl _ _ 22 rfl w10.heap.size 5 iu _ 1 1 Try.underlying22 hiu hiu1 hiu2 hiu3 rfl (by omega) (.slice na lr.length nc) lr.length (bytes lr) rfl HO11.out (.slice xb 7 xbc) 7 (bytes wb) rfl HP11.out (bytes_one _) (by simp [maxLen]; omega) (by omega) hs11 ?_; intro v12 w12 hown hg; have ho12 : w12.ownsRow w10.heap.size 5 1 v12 (lr ++ wb).length (bytes (lr ++ wb)) := (by rw [List.length_append, bytes_app, HW7.out]; exact hown); obtain ⟨pa, pc, hpe⟩ := own_slc hown; subst hpe; have HOX := Lib.hid ho12; have HGX := Lib.hid (gb_call HG11.out hg (fun g e => .inr (own_base HO11.out g e))); clear hown hg ho12))
      have hwb7 : wb.length = 7 := HW7.out
      clear HO11 HP11 HG11 hs11
      go_wp2_with fail
      go_loopw [17, 18] (fun x i wr => ∃ (k : Nat) (l : List Nat), k ≤ 75 ∧ i = .int .i64 k ∧ l = lr ++ (wb ++ List.replicate k 0) ∧ wr.ownsRow w10.heap.size 5 1 x l.length (bytes l) ∧ w10.grownBy wr none) (fun _ i _ => 75 - (intOf i).toNat)
      case atStart => exact ⟨0, lr ++ wb, by omega, rfl, by simp, HOX.out, HGX.out⟩
      case round =>
        clear HOX HGX
        obtain ⟨k, l, hk, rfl, hl, hown, hg⟩ := hrel
        obtain ⟨pa2, pc2, rfl⟩ := own_slc hown
        have hll : l.length ≤ 142 := by rw [hl]; simp; omega
        have HO := Lib.hid hown
        have HGk := Lib.hid hg
        by_cases hk2 : k < 75
        · have i1 : (k : Int) < 75 := by omega
          have g0 := gb_alloc (gb_refl wr none) (.cells #[.int .u8 0] 5)
          have HN := Lib.hid (show Sl (wr.alloc (.cells #[.int .u8 0] 5)) (.slice (some ⟨wr.heap.size, 0, none⟩) 1 1) 1 1 (bytes [0]) from sl_new wr #[.int .u8 0] 5 wr.heap.size rfl (sz := 1) (by simp [maxLen]) rfl)
          have HOa := Lib.hid (own_by hown g0)
          have HGa := Lib.hid (gb_none hg g0)
          have hsa := HGa.out.size
          have HL := Lib.hid hl
          clear hown hg g0 hl
          go_wp2_with (at_builtin; go_loud (refine wpList_app _ rfl _ _ 22 rfl w10.heap.size 5 iu _ 1 1 Try.underlying22 hiu hiu1 hiu2 hiu3 rfl (by omega) (.slice pa2 l.length pc2) l.length (bytes l) rfl HOa.out (.slice (some ⟨wr.heap.size, 0, none⟩) 1 1) 1 (bytes [0]) rfl HN.out (bytes_one _) (by simp [maxLen]; omega) (by omega) hsa ?_); intro v13 w13 hown hg; have HO13 := Lib.hid (show w13.ownsRow w10.heap.size 5 1 v13 (l ++ [0]).length (bytes (l ++ [0])) by rw [List.length_append, bytes_app]; exact hown); have HG13 := Lib.hid (gb_call HGa.out hg (fun g e => .inr (own_base HOa.out g e))); obtain ⟨pa3, pc3, hp3⟩ := own_slc hown; subst hp3; clear hown hg)
          exact ⟨⟨k + 1, l ++ [0], by omega, by go_num, by rw [HL.out, List.replicate_succ']; simp, HO13.out, HG13.out⟩, by simp [intOf]; omega⟩
        · obtain rfl : k = 75 := by omega
          have hne := HFAR.out lr
          rw [← hl] at hne
          have hlb : ∀ x ∈ l, x < 256 := by
            intro x hx
            rw [hl] at hx
            rcases List.mem_append.1 hx with hx | hx
            · exact HBR.out x hx
            · rcases List.mem_append.1 hx with hx | hx
              · exact HWL2.out x hx
              · have := List.eq_of_mem_replicate hx
                omega
          have HLB := Lib.hid hlb
          have HK14 := Lib.hid (HK10.out.of hg (by simp))
          have HD14 := Lib.hid (HD10.out.of hg (by simp))
          have HG14 := Lib.hid (gb_none HG10.out hg)
          clear hown hg hl hlb HK10 HD10 HG10 HP10 HR10
          go_wp2_with fail
          have hf := feed_any (.slice none 0 0) (.slice pa2 l.length pc2) [] l 0 _ (sl_nil _) (own_sl HO.out) (by simp) HLB.out (by simp; omega) (by decide) (by decide)
          rw [List.nil_append] at hf
          obtain ⟨fs, dr, he, hfe⟩ : ∃ fs dr he, feed l = (fs, dr, he) := ⟨_, _, _, rfl⟩
          have hcn := feed_cnt _ l (Nat.le_refl _)
          rw [hfe] at hf hcn hne
          dsimp only at hf hcn hne
          have hfl := cntF_len fs
          have hfl1 : fs.length ≤ 142 := by omega
          have hfl0 : 0 < fs.length := List.length_pos_iff.2 hne
          refine hf.mono ?_
          clear hf hfe hcn hne hfl
          rintro e w15 ⟨hv15, lv15, rfl, ho15, hf15, hg15⟩
          have HF15 := Lib.hid hf15.v
          obtain ⟨la3, lc3, hle3, _⟩ := hf15.v
          subst hle3
          have HK15 := Lib.hid (HK14.out.of hg15 (by simp))
          have HD15 := Lib.hid (HD14.out.of hg15 (by simp))
          have HG15 := Lib.hid (gb_none HG14.out hg15)
          obtain ⟨ea, ec, hee⟩ := own_slc ho15
          subst hee
          clear ho15 hf15 hg15 HK14 HD14 HG14 HO HGk
          go_wp2_with fail
          go_loopw [19, 20] (fun fv i wr => ∃ (j : Nat) (b : Bool), j ≤ fs.length ∧ i = .int .i64 j ∧ fv = .bool b ∧ w15.grownBy wr none) (fun _ i _ => fs.length - (intOf i).toNat)
          case atStart => exact ⟨0, false, Nat.zero_le _, rfl, rfl, gb_refl _ _⟩
          case round =>
            obtain ⟨j, b, hj, rfl, rfl, hg⟩ := hrel
            by_cases hlt : j < fs.length
            · have j0 : (0 : Int) ≤ (j : Int) := by omega
              have j1 : (j : Int) < (fs.length : Int) := by omega
              have HGw := Lib.hid hg
              cases b with
              | true =>
                clear hg
                go_wp2_with fail
                go_quiet (fail)
                go_wp2_with fail
                go_roundw
                case rel => exact ⟨j + 1, true, by omega, by go_num, rfl, gb_drewN HGw.out _⟩
                case measure => simp [intOf]; omega
              | false =>
                have hfv := HF15.out.by_ hg
                have hfv' := hfv
                obtain ⟨la4, lc4, hv4, hcap4, _, hx4⟩ := hfv'
                injection hv4 with e1 _ e3
                subst e1 e3
                rcases hx4 with hx4 | ⟨g, off, rfl, -⟩
                · omega
                have hone := frsv_one (j := j) hfv rfl hlt hcap4
                have hk16 := HK15.out.of hg (by simp)
                have hd16 := HD15.out.of hg (by simp)
                have gA := gb_drew (gb_alloc (gb_refl wr none) (.cells #[.int .i64 200, .int .i64 77, .slice (some ⟨d14, 0, none⟩) 1 1] 24))
                have gB := gb_alloc (gb_drew (gb_refl wr none)) (.cells #[.int .i64 200, .int .i64 77, .slice (some ⟨d14, 0, none⟩) 1 1] 24)
                have gD := gb_drew (gb_refl wr none)
                have e0 : (wr.drew).cell? ⟨n14, 0, none⟩ = some (.int .i64 200) := (hk16.of gD (by simp)).cell 0
                have e1 : (wr.drew).cell? ⟨n14, 1, none⟩ = some (.int .i64 77) := (hk16.of gD (by simp)).cell 1
                have e2 : (wr.drew).cell? ⟨n14, 2, none⟩ = some (.slice (some ⟨d14, 0, none⟩) 1 1) := (hk16.of gD (by simp)).cell 2
                have c0 : ((wr.alloc (.cells #[.int .i64 200, .int .i64 77, .slice (some ⟨d14, 0, none⟩) 1 1] 24)).drew).cell? ⟨n14, 0, none⟩ = some (.int .i64 200) := (hk16.of gA (by simp)).cell 0
                have c1 : ((wr.alloc (.cells #[.int .i64 200, .int .i64 77, .slice (some ⟨d14, 0, none⟩) 1 1] 24)).drew).cell? ⟨n14, 1, none⟩ = some (.int .i64 77) := (hk16.of gA (by simp)).cell 1
                have c2 : ((wr.alloc (.cells #[.int .i64 200, .int .i64 77, .slice (some ⟨d14, 0, none⟩) 1 1] 24)).drew).cell? ⟨n14, 2, none⟩ = some (.slice (some ⟨d14, 0, none⟩) 1 1) := (hk16.of gA (by simp)).cell 2
                have b0 : (wr.drew.alloc (.cells #[.int .i64 200, .int .i64 77, .slice (some ⟨d14, 0, none⟩) 1 1] 24)).cell? ⟨n14, 0, none⟩ = some (.int .i64 200) := (hk16.of gB (by simp)).cell 0
                have b1 : (wr.drew.alloc (.cells #[.int .i64 200, .int .i64 77, .slice (some ⟨d14, 0, none⟩) 1 1] 24)).cell? ⟨n14, 1, none⟩ = some (.int .i64 77) := (hk16.of gB (by simp)).cell 1
                have b2 : (wr.drew.alloc (.cells #[.int .i64 200, .int .i64 77, .slice (some ⟨d14, 0, none⟩) 1 1] 24)).cell? ⟨n14, 2, none⟩ = some (.slice (some ⟨d14, 0, none⟩) 1 1) := (hk16.of gB (by simp)).cell 2
                have HVA := Lib.hid (hone.by_ gA)
                have HVB := Lib.hid (hone.by_ gB)
                have HNA := Lib.hid ((frsv_new wr fr200 (.slice (some ⟨d14, 0, none⟩) 1 1) 24 _ rfl (sl_bk1 hd16)).by_ (gb_drew (gb_refl _ none)))
                have HNB := Lib.hid (frsv_new wr.drew fr200 (.slice (some ⟨d14, 0, none⟩) 1 1) 24 _ rfl (sl_bk1 (hd16.of gD (by simp))))
                have HGA := Lib.hid (gb_none HGw.out gA)
                have HGB := Lib.hid (gb_none HGw.out gB)
                have KA := Lib.hid (hk16.of gA (by simp))
                have KB := Lib.hid (hk16.of gB (by simp))
                have jw : IntKind.i64.wrap ((j : Int) + 1) = (j : Int) + 1 := IntWalk.i64_in _ (by omega)
                have jt : ((j : Int) + 1).toNat = j + 1 := by omega
                have jb : (j : Int) + 1 ≤ (lc3 : Int) := by omega
                have jc : (j : Int) ≤ (j : Int) + 1 := by omega
                have jn : ¬ lc3 = j := by omega
                have jp : (0 : Int) ≤ (j : Int) + 1 := by omega
                clear hfv hone hk16 hd16 gA gB gD hg
                go_wp2_with fail
                go_region_held3 (fun w' => w'.cell? ⟨n14, 0, none⟩ = some (.int .i64 200) ∧ w'.cell? ⟨n14, 1, none⟩ = some (.int .i64 77) ∧ w'.cell? ⟨n14, 2, none⟩ = some (.slice (some ⟨d14, 0, none⟩) 1 1))
                  (first | (with_reducible exact ⟨e0, e1, e2⟩) | (with_reducible exact ⟨c0, c1, c2⟩) | (with_reducible exact ⟨b0, b1, b2⟩) | (with_reducible exact ⟨f0, f1, f2⟩) | fail)
                  ((first
                    | (go_at_call 20; refine (same_gen _ _ (fs.getD j fr0) fr200 _ HVA.out HNA.out).mono ?_; rintro e w17 ⟨⟨b', rfl⟩, q', hq17⟩; have hgq := gbq hq17; clear hq17; have f0 : w17.cell? ⟨n14, 0, none⟩ = some (.int .i64 200) := (KA.out.of hgq (by simp)).cell 0; have f1 : w17.cell? ⟨n14, 1, none⟩ = some (.int .i64 77) := (KA.out.of hgq (by simp)).cell 1; have f2 : w17.cell? ⟨n14, 2, none⟩ = some (.slice (some ⟨d14, 0, none⟩) 1 1) := (KA.out.of hgq (by simp)).cell 2; have HG17 := Lib.hid (gb_none HGA.out hgq); clear hgq)
                    | (go_at_call 20; refine (same_gen _ _ (fs.getD j fr0) fr200 _ HVB.out HNB.out).mono ?_; rintro e w17 ⟨⟨b', rfl⟩, q', hq17⟩; have hgq := gbq hq17; clear hq17; have f0 : w17.cell? ⟨n14, 0, none⟩ = some (.int .i64 200) := (KB.out.of hgq (by simp)).cell 0; have f1 : w17.cell? ⟨n14, 1, none⟩ = some (.int .i64 77) := (KB.out.of hgq (by simp)).cell 1; have f2 : w17.cell? ⟨n14, 2, none⟩ = some (.slice (some ⟨d14, 0, none⟩) 1 1) := (KB.out.of hgq (by simp)).cell 2; have HG17 := Lib.hid (gb_none HGB.out hgq); clear hgq)
                    | fail))
                all_goals clear jw jt jb jc jn jp
                all_goals go_wp2_with fail
                all_goals exact ⟨⟨j + 1, b', by omega, by go_num, rfl, HG17.out⟩, by simp [intOf]; omega⟩
            · obtain rfl : j = fs.length := by omega
              have HGw := Lib.hid (gb_none HG15.out hg)
              have hp : (0 : Int) < (fs.length : Int) := by omega
              clear hg
              cases b with
              | true =>
                go_wp2_with fail
                refine (awake_any _).mono ?_
                rintro e w18 ⟨rfl, hg18⟩
                go_wp2_with fail
                go_ret
                exact ⟨rfl, gb_none HGw.out hg18⟩
              | false =>
                go_wp2_with fail
                refine (awake_any _).mono ?_
                rintro e w18 ⟨rfl, hg18⟩
                go_wp2_with fail
                go_ret
                exact ⟨rfl, gb_none HGw.out hg18⟩
end Go.Proofs.Ytolkjklejcealaa
