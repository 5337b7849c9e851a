/- The statement TelegramPieces: the walk. -/
import Derived.Test.YtolkjklejcealaaPm
namespace Go.Proofs.Ytolkjklejcealaa
open Go.RowKit
attribute [local go_sem ↓] Go.wp_at_zero Go.wp_at_succ

/-- While the pieces come: the reader that is fed, what it holds, the telegrams that have been got. -/
structure PcS (W0 : World) (n8 : Nat) (hv : Value) (held : List Nat) (dd : Nat) (gv : Value) (ps : List (Fr × Value)) (W : World) : Prop where
  k8 : Bk W n8 #[hv, .int .i64 dd] 36
  hh : W.ownsRow W0.heap.size 5 1 hv held.length (bytes held)
  fr : PsO W W0.heap.size gv ps
  g : W0.grownBy W (some n8)
theorem PcS.by_ {W0 : World} {n8 : Nat} {hv : Value} {held : List Nat} {dd : Nat} {gv : Value} {ps : List (Fr × Value)} {W W' : World} (h : PcS W0 n8 hv held dd gv ps W) (o : W.grownBy W' none) : PcS W0 n8 hv held dd gv ps W' :=
  ⟨h.k8.of o (by simp), own_by h.hh o, h.fr.by_ o, gb_none h.g o⟩
theorem PcS.store {W0 : World} {n8 : Nat} {hv : Value} {held : List Nat} {dd : Nat} {gv : Value} {ps : List (Fr × Value)} {W : World} (h : PcS W0 n8 hv held dd gv ps W) {hv' : Value} {held' : List Nat} (d' : Nat) (z : Int) (hz : z = (d' : Int)) (ho : W.ownsRow W0.heap.size 5 1 hv' held'.length (bytes held'))
    {lv : Value} {qs : List (Fr × Value)} (hq : PsO W W0.heap.size lv qs) : PcS W0 n8 hv' held' d' gv ps (setC W n8 0 [hv', .int .i64 z]) ∧ PsO (setC W n8 0 [hv', .int .i64 z]) W0.heap.size lv qs := by
  subst hz
  have o := setC_gb n8 [hv', .int .i64 d'] W 0
  exact ⟨⟨h.k8.all [hv', .int .i64 d'] rfl, ho.kept o (.inr (own_ne ho h.k8 (by decide))), h.fr.set h.k8 (by decide) (by decide) o, gb_same h.g o⟩, hq.set h.k8 (by decide) (by decide) o⟩
theorem PcS.app {W0 : World} {n8 : Nat} {hv : Value} {held : List Nat} {dd : Nat} {gv gv' : Value} {ps ps' : List (Fr × Value)} {W W' : World} (h : PcS W0 n8 hv held dd gv ps W) (o : W.grownBy W' gv.ownBlock)
    (h1 : W'.ownsRow W0.heap.size 24 3 gv' ps'.length (ps'.flatMap encFr)) (hd : ∀ p ∈ ps', p ∈ ps ∨ W.ownsRow W0.heap.size 5 1 p.2 p.1.data.length (bytes p.1.data)) : PcS W0 n8 hv held dd gv' ps' W' := by
  refine ⟨h.k8.of o (own_ne h.fr.1 h.k8 (by decide)), h.hh.kept o (own_own h.hh h.fr.1 (by decide)), ⟨h1, fun p hp => ?_⟩, gb_call h.g o fun g e => .inr (own_base h.fr.1 g e)⟩
  have hp2 : W.ownsRow W0.heap.size 5 1 p.2 p.1.data.length (bytes p.1.data) := (hd p hp).elim (h.fr.2 p) id
  exact hp2.kept o (own_own hp2 h.fr.1 (by decide))
theorem PsO.mono {W : World} {b b' : Nat} {v : Value} {ps : List (Fr × Value)} (h : PsO W b v ps) (hb : b' ≤ b) : PsO W b' v ps := ⟨own_mono h.1 hb, fun p hp => own_mono (h.2 p hp) hb⟩
theorem encFr_one {W : World} {b : Nat} {v : Value} {ps : List (Fr × Value)} (h : PsO W b v ps) : ∀ u ∈ ps.flatMap encFr, u.oneCell' = true := by
  intro u hu
  obtain ⟨p, hp, hu⟩ := List.mem_flatMap.1 hu
  obtain ⟨a, c, hs⟩ := own_slc (h.2 p hp)
  simp only [encFr, List.mem_cons, List.not_mem_nil, or_false] at hu
  rcases hu with rfl | rfl | rfl
  · rfl
  · rfl
  · rw [hs]; rfl

set_option maxRecDepth 100000 in
set_option maxHeartbeats 8000000 in
theorem pieces_walk (cv sv : Value) (lc ls : List Nat) (w : World) (hc : Sl w cv 1 lc.length (bytes lc)) (hs : Sl w sv 1 ls.length (bytes ls)) (bc : ∀ x ∈ lc, x < 256) (bs : ∀ x ∈ ls, x < 256) :
    Calls Try.prog 5 #[cv, sv] w fun e w' => e = .returned (.bool true) ∧ w.grownBy w' none := by
  obtain ⟨sa, sc, rfl, n1, m1, _⟩ := hs.shape
  obtain ⟨ca, cc, rfl, n3, m3, hcx⟩ := hc.shape
  obtain ⟨ie, hie, hie1, hie2, hie3⟩ := info_parts Try.infoFrame
  unfold maxLen at m1 m3
  have HS := Lib.hid hs
  have HC := Lib.hid hc
  have HBS := Lib.hid bs
  have HBC := Lib.hid bc
  clear hs hc bs bc hcx
  go_enter Try.func5, Try.ntmps5
  go_wp2_with fail
  refine (new_sl _ _ _ _ HC.out HBC.out).mono ?_
  rintro e w2 ⟨rfl, hcd, hg⟩
  have HG2 := Lib.hid hg
  have HCD := Lib.hid hcd
  clear hg hcd HC
  go_wp2_with fail
  refine (bytes_any _ 6 _ _ _ HCD.out (by omega)).mono ?_
  rintro e w3 ⟨lv0, all, rfl, ho, hb, hlb, _, hg⟩
  have HG3 := Lib.hid (gb_new HG2.out hg (Nat.le_refl _))
  have hs2 := HG2.out.size
  have HO3 := Lib.hid (own_mono ho hs2)
  have HB := Lib.hid hb
  have hlb6 : all.length ≤ 60 := by omega
  obtain ⟨va, vcp, hv0⟩ := own_slc ho
  subst hv0
  clear ho hb hg HG2 HCD hlb hs2
  go_wp2_with fail
  have hf := feed_any (.slice none 0 0) (.slice va all.length vcp) [] all 0 _ (sl_nil _) (own_sl HO3.out) (by simp) HB.out (by simp; omega) (by decide) (by decide)
  rw [List.nil_append] at hf
  obtain ⟨fsw, drw, hew, hfe⟩ : ∃ fs dr he, feed all = (fs, dr, he) := ⟨_, _, _, rfl⟩
  have hh70 := feed_held _ all (Nat.le_refl _)
  rw [hfe] at hf hh70
  dsimp only at hf hh70
  have HFE := Lib.hid hfe
  refine hf.mono ?_
  clear hf hfe
  rintro e w5 ⟨hvw, lvw, rfl, ho5, hf5, hg5⟩
  obtain ⟨wa, wcp, hve⟩ := own_slc ho5
  subst hve
  have hfv := hf5.v
  obtain ⟨xa, xcp, hle, _⟩ := hf5.v
  subst hle
  have g6 := gb_alloc (gb_refl w5 none) (.cells #[.slice wa hew.length wcp, .int .i64 drw] 36)
  have k6 := Bk.new w5 #[.slice wa hew.length wcp, .int .i64 drw] 36
  have hd0 : (0 : Int) + (drw : Int) = (drw : Int) := by omega
  have HO6 := Lib.hid (own_by (own_by HO3.out hg5) g6)
  have HW6 := Lib.hid ((own_sl ho5).by_ g6)
  have HF6 := Lib.hid (hfv.by_ g6)
  have HG6 := Lib.hid (gb_none (gb_none HG3.out hg5) g6)
  have HK6 := Lib.hid k6
  clear ho5 hf5 hg5 hfv g6 k6 HO3 HG3
  go_upto_region 3 with fail
  generalize w5.alloc _ = w6 at *
  generalize w5.heap.size = n6 at *
  go_upto_region 5 with fail
  have g8 := gb_alloc (gb_refl w6 none) (.cells #[.slice none 0 0, .int .i64 0] 36)
  have k8 := Bk.new w6 #[.slice none 0 0, .int .i64 0] 36
  have S0 : PcS (w6.alloc (.cells #[.slice none 0 0, .int .i64 0] 36)) w6.heap.size (.slice none 0 0) [] 0 (.slice none 0 0) [] (w6.alloc (.cells #[.slice none 0 0, .int .i64 0] 36)) :=
    ⟨k8, World.ownsRow_nil _ _ _ _, PsO.nil _ _, gb_refl _ _⟩
  have HS0 := Lib.hid S0
  have HK8 := Lib.hid k8
  have hn8 : w.heap.size ≤ w6.heap.size := HG6.out.size
  have hn6 : n6 < w6.heap.size := HK6.out.lt
  have hn68 : ¬ w6.heap.size = n6 := by omega
  replace HO6 := Lib.hid (own_by HO6.out g8)
  replace HW6 := Lib.hid (HW6.out.by_ g8)
  replace HF6 := Lib.hid (HF6.out.by_ g8)
  replace HG6 := Lib.hid (gb_none HG6.out g8)
  replace HK6 := Lib.hid (HK6.out.of g8 (by simp))
  have HS6 := Lib.hid (HS.out.by_ HG6.out)
  have HL0 := Lib.hid (LeftV.first HO6.out)
  clear g8 k8 S0 HS
  generalize w6.alloc _ = W0 at *
  generalize w6.heap.size = n8 at *
  go_wp2_with fail
  go_loopw [5, 9, 10] (fun x gv i wr => ∃ (off dd k : Nat) (hv : Value) (held : List Nat) (ps : List (Fr × Value)), LeftV (.slice va all.length vcp) all off x ∧ i = .int .i64 k ∧ k ≤ off ∧ PcS W0 n8 hv held dd gv ps wr ∧ feed (all.take off) = (ps.map Prod.fst, dd, held)) (fun x _ _ _ => slLen x)
  case atStart => exact ⟨0, 0, 0, .slice none 0 0, [], [], HL0.out, rfl, Nat.le_refl _, HS0.out, rfl⟩
  case round =>
    clear HS0 HL0
    obtain ⟨off, dd, k, hv, held, ps, hL, rfl, hk, hS, hfd⟩ := hrel
    rcases hL with ⟨hol, ⟨he, hv0⟩ | ⟨hlt, gl, c0, c, hlv, hu, hcq, hm⟩⟩
    · rw [he, List.take_length] at hfd
      rcases hv0 with rfl | ⟨a, c, rfl, hm⟩
      · have hp1 : (ps.map Prod.fst, dd, held) = (fsw, drw, hew) := by rw [← hfd, HFE.out]
        injection hp1 with q1 q2
        injection q2 with q2 q3
        subst q1 q2 q3
        obtain ⟨ha, hcp, hhe⟩ := own_slc hS.hh
        subst hhe
        obtain ⟨ga, gcp, hge⟩ := own_slc hS.fr.1
        subst hge
        have k8c := hS.k8.cell
        have K8W := Lib.hid hS.k8
        have K6b := HK6.out.of hS.g (by simpa using hn68)
        have k6c := K6b.cell
        have cv1 := conv_any (own_sl hS.hh)
        have cv2 := conv_any (sl_rd HW6.out HK8.out ⟨_, _, _, rfl⟩ hS.g)
        have FG := Lib.hid (FrsO.v ⟨ps, rfl, hS.fr⟩)
        have FW := Lib.hid (HF6.out.rd HK8.out ⟨_, _, _, rfl⟩ hS.g)
        have GG := Lib.hid (gb_new HG6.out hS.g hn8)
        have hml : (ps.map Prod.fst).length = ps.length := List.length_map ..
        rw [hml] at FW
        have hh7 : (held.length : Int) < 70 := by omega
        have HML := Lib.hid hml
        clear hS hfd K6b hml
        go_wp2_with fail
        refine (same_any _ _ (ps.map Prod.fst) _ FG.out FW.out).mono ?_
        rintro e w9 ⟨rfl, hg9⟩
        have G9 := Lib.hid (gb_none GG.out hg9)
        have k8d := (K8W.out.of hg9 (by simp)).cell
        clear cv1 cv2 k8c k6c hg9
        go_wp2_with fail
        refine (awake_any _).mono ?_
        rintro e wb ⟨rfl, hgb⟩
        go_wp2_with fail
        go_ret
        exact ⟨rfl, gb_none G9.out hgb⟩
      · have hp1 : (ps.map Prod.fst, dd, held) = (fsw, drw, hew) := by rw [← hfd, HFE.out]
        injection hp1 with q1 q2
        injection q2 with q2 q3
        subst q1 q2 q3
        obtain ⟨ha, hcp, hhe⟩ := own_slc hS.hh
        subst hhe
        obtain ⟨ga, gcp, hge⟩ := own_slc hS.fr.1
        subst hge
        have k8c := hS.k8.cell
        have K8W := Lib.hid hS.k8
        have K6b := HK6.out.of hS.g (by simpa using hn68)
        have k6c := K6b.cell
        have cv1 := conv_any (own_sl hS.hh)
        have cv2 := conv_any (sl_rd HW6.out HK8.out ⟨_, _, _, rfl⟩ hS.g)
        have FG := Lib.hid (FrsO.v ⟨ps, rfl, hS.fr⟩)
        have FW := Lib.hid (HF6.out.rd HK8.out ⟨_, _, _, rfl⟩ hS.g)
        have GG := Lib.hid (gb_new HG6.out hS.g hn8)
        have hml : (ps.map Prod.fst).length = ps.length := List.length_map ..
        rw [hml] at FW
        have hh7 : (held.length : Int) < 70 := by omega
        have HML := Lib.hid hml
        clear hS hfd K6b hml
        go_wp2_with fail
        refine (same_any _ _ (ps.map Prod.fst) _ FG.out FW.out).mono ?_
        rintro e w9 ⟨rfl, hg9⟩
        have G9 := Lib.hid (gb_none GG.out hg9)
        have k8d := (K8W.out.of hg9 (by simp)).cell
        clear cv1 cv2 k8c k6c hg9
        go_wp2_with fail
        refine (awake_any _).mono ?_
        rintro e wb ⟨rfl, hgb⟩
        go_wp2_with fail
        go_ret
        exact ⟨rfl, gb_none G9.out hgb⟩
    · injection hlv with e1 _ e3
      subst e1 e3
      subst hu
      have HOW := Lib.hid (HO6.out.kept hS.g (.inr (own_ne HO6.out HK8.out (by decide))))
      have HSZ := Lib.hid (sl_rd HS6.out HK8.out ⟨_, _, _, rfl⟩ hS.g)
      generalize hn : all.length - off = q at *
      have h0 : 0 < q := by omega
      have h0' : (0 : Int) < (q : Int) := by omega
      have hq60 : q ≤ 60 := by omega
      have HM := Lib.hid hm
      unfold maxLen at hm
      have HFD := Lib.hid hfd
      have HSS := Lib.hid hS
      have hk60 : k ≤ 60 := by omega
      clear hfd hS
      go_upto_region 9 with fail
      go_cut [36] from 29 to 36 (fun s wx => ∃ b : Bool, s = .bool b ∧ (b = true → k < ls.length ∧ k < 100) ∧ wx = wr)
      case first =>
        by_cases c1 : k < ls.length
        · have c1' : (k : Int) < (ls.length : Int) := by omega
          have c2' : (k : Int) < 100 := by omega
          go_wp2_with fail
          go_meet
          exact ⟨true, rfl, fun _ => by omega, rfl⟩
        · have c1' : decide ((k : Int) < (ls.length : Int)) = false := by simp; omega
          go_wp2_with fail
          go_meet
          exact ⟨false, rfl, fun h => by simp at h, rfl⟩
      case rest =>
        obtain ⟨b, rfl, hbt, rfl⟩ := hcut
        go_upto_if 36 with fail
        go_cut [11] from 37 to 45 (fun s wx => ∃ n : Nat, s = .int .i64 n ∧ 1 ≤ n ∧ n ≤ q ∧ wx = wc)
        case first =>
          rcases b with _ | _
          · go_wp2_with fail
            go_meet
            exact ⟨q, rfl, h0, Nat.le_refl _, rfl⟩
          · have c1 := hbt rfl
            obtain ⟨gs, offs, scp, hsv, _, _⟩ := sl_open HSZ.out (by omega)
            injection hsv with z1 _ z3
            subst z1 z3
            have es := sl_cell HSZ.out k c1.1
            have hx := getD_lt HBS.out k
            generalize ls.getD k 0 = x at *
            have c1' : (k : Int) < (ls.length : Int) := by omega
            obtain ⟨r, hr, hr9⟩ : ∃ r : Nat, (x : Int) % 9 = r ∧ r < 9 := ⟨x % 9, by omega, by omega⟩
            go_wp2_with fail
            all_goals go_meet
            · exact ⟨1 + r, by go_num, by omega, by omega, rfl⟩
            · exact ⟨q, rfl, h0, Nat.le_refl _, rfl⟩
        case rest =>
          obtain ⟨n, rfl, hn1, hnq, rfl⟩ := hcut
          have hcl := feed_cnt _ (all.take off) (Nat.le_refl _)
          have hbl := feed_lt _ (all.take off) (Nat.le_refl _) (fun x hx => HB.out x (List.mem_of_mem_take hx))
          rw [HFD.out] at hcl hbl
          dsimp only at hcl hbl
          rw [List.length_take] at hcl
          have hdd6 : dd ≤ 60 := by omega
          have hhl6 : held.length ≤ 60 := by omega
          have HBH := Lib.hid hbl
          clear hcl hbl
          have hpre := sl_sub (own_sl HOW.out) off n c (by omega) (by omega) HM.out
          rw [Nat.zero_add] at hpre
          have hckl := sub_len all off n (by omega)
          have HT := Lib.hid (show all.take (off + n) = all.take off ++ (all.drop off).take n from List.take_add ..)
          have HBC2 := Lib.hid (sub_mem (i := off) (m := n) HB.out)
          generalize (all.drop off).take n = ck at *
          obtain ⟨ha, hcp, hhe⟩ := own_slc HSS.out.hh
          subst hhe
          obtain ⟨ga, gcp, hge⟩ := own_slc HSS.out.fr.1
          subst hge
          have SB := Lib.hid (HSS.out.by_ (gb_drew (gb_refl _ none)))
          have hf := feed_any (.slice ha held.length hcp) (.slice (some ⟨gl, off, none⟩) n c) held ck dd _ (own_sl SB.out.hh) (hpre.by_ (gb_drew (gb_refl _ none))) HBH.out HBC2.out (by rw [hckl]; omega) (by omega) (by omega)
          obtain ⟨fs, dr, he, hfe⟩ : ∃ fs dr he, feed (held ++ ck) = (fs, dr, he) := ⟨_, _, _, rfl⟩
          rw [hfe] at hf
          dsimp only at hf
          have HFE2 := Lib.hid hfe
          have hcn := feed_cnt _ (held ++ ck) (Nat.le_refl _)
          rw [hfe] at hcn
          dsimp only at hcn
          rw [List.length_append, hckl] at hcn
          have hdr6 : dr ≤ 120 := by omega
          have HPRE := Lib.hid hpre
          have hszb := SB.out.g.size
          have hpl6 : ps.length ≤ 60 := by
            have h1 := cntF_len (feed (all.take off)).1
            have h2 := feed_cnt _ (all.take off) (Nat.le_refl _)
            rw [HFD.out] at h1 h2
            dsimp only at h1 h2
            rw [List.length_map, ] at h1
            rw [List.length_take] at h2
            omega
          have hfl6 : fs.length ≤ 120 := by have := cntF_len fs; omega
          clear hfe hcn hpre hckl
          go_upto_region 12 with fail
          have hnc : (n : Int) ≤ (c : Int) := by omega
          have e0 := HSS.out.k8.cell 0
          have e1 := HSS.out.k8.cell 1
          go_region_law (first
            | (go_simp; go_at_call 18; refine hf.mono ?_; rintro e w5 ⟨hv5, lv5, rfl, ho5, hf5, hg5⟩; obtain ⟨xa5, xc5, hve⟩ := own_slc ho5; subst hve; obtain ⟨qs, hqs, hq⟩ := hf5; obtain ⟨la5, lc5, hle⟩ := own_slc hq.1; subst hle; have S5 := SB.out.by_ hg5; have z50 := S5.k8.cell 0; have z51 := S5.k8.cell 1; have z5f := S5.k8.frozen; have X5 := S5.store (dd + dr) ((dd : Int) + (dr : Int)) (by omega) (own_mono ho5 hszb) (hq.mono hszb); have HX5 := Lib.hid X5; have HQS := Lib.hid hqs; clear hg5 ho5 hq hqs S5 X5)
            | fail)
          have X6 := HX5.out
          simp only [setC] at X6
          have HS7 := Lib.hid X6.1
          have HQ7 := Lib.hid X6.2
          have hqn : qs.length = fs.length := by rw [← HQS.out, List.length_map]
          have hq9 : qs.length ≤ 120 := by omega
          clear X6 HX5 e0 e1 z50 z51 z5f hf hqn
          generalize World.setCell _ ⟨n8, 1, none⟩ _ = w7 at *
          have HP7 := Lib.hid HS7.out.fr.1
          have HY7 := Lib.hid (own_sl HQ7.out.1)
          have H17 := Lib.hid (encFr_one HQ7.out)
          have hsz7 := HS7.out.g.size
          go_wp2_with (at_builtin; go_loud (refine wpList_app _ rfl _ _ 29 rfl W0.heap.size 24 ie _ 3 40 Try.underlying29 hie hie1 hie2 hie3 rfl (by omega) (.slice ga ps.length gcp) ps.length (ps.flatMap encFr) rfl HP7.out (.slice la5 qs.length lc5) qs.length (qs.flatMap encFr) rfl HY7.out H17.out (by simp [maxLen]; omega) (by omega) hsz7 ?_); intro v9 w9 hown hg9; have HS9 := Lib.hid (HS7.out.app (ps' := ps ++ qs) hg9 (by rw [List.length_append, List.flatMap_append]; exact hown) (fun p hp => (List.mem_append.1 hp).elim .inl (fun h => .inr (HQ7.out.2 p h)))); obtain ⟨xa9, xc9, hv⟩ := own_slc hown; subst hv; clear hown hg9)
          refine ⟨⟨off + n, dd + dr, k + 1, _, he, ps ++ qs, ?_, by go_num, by omega, HS9.out, ?_⟩, by simp only [slLen]; omega⟩
          · by_cases hcs : c = n
            · rw [if_pos hcs]
              exact LeftV.next (s := n) hn.symm (by omega) hcq HM.out (fun h => by omega)
            · rw [if_neg hcs]
              exact LeftV.next (s := n) hn.symm (by omega) hcq HM.out (fun _ => rfl)
          · rw [HT.out, feed_app ck _ (all.take off) (Nat.le_refl _), HFD.out]
            dsimp only
            rw [HFE2.out]
            simp [HQS.out]
end Go.Proofs.Ytolkjklejcealaa
