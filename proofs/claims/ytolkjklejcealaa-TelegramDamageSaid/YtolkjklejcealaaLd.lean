/- The statement TelegramDamage: the walk. -/
import Derived.Test.YtolkjklejcealaaCr
namespace Go.Proofs.Ytolkjklejcealaa
open Go.RowKit
attribute [local go_sem ↓] Go.wp_at_zero Go.wp_at_succ

set_option maxRecDepth 100000 in
set_option maxHeartbeats 8000000 in
theorem damage_walk (cv : Value) (lc : List Nat) (zk : Int) (y : Nat) (w : World) (hc : Sl w cv 1 lc.length (bytes lc)) (bc : ∀ x ∈ lc, x < 256) (zk1 : -9223372036854775808 ≤ zk) (zk2 : zk ≤ 9223372036854775807) (hy : y < 256) :
    Calls Try.prog 7 #[cv, .int .i64 zk, .int .u8 y] w fun e w' => e = .returned (.bool true) ∧ w.grownBy w' none := by
  obtain ⟨ca, cc, rfl, n3, m3, hcx⟩ := hc.shape
  obtain ⟨iu, hiu, hiu1, hiu2, hiu3⟩ := info_parts Try.infoU8
  unfold maxLen at m3
  have HC := Lib.hid hc
  have HBC := Lib.hid bc
  clear hc bc hcx
  go_enter Try.func7, Try.ntmps7
  go_wp2_with fail
  refine (new_sl _ _ _ _ HC.out HBC.out).mono ?_
  rintro e w2 ⟨rfl, hcd, hg⟩
  have HG2 := Lib.hid hg
  have HCD := Lib.hid hcd
  clear hg hcd HC
  go_wp2_with fail
  refine (frame_any _ _ _ _ HCD.out).mono ?_
  rintro e w3 ⟨f, dv, rfl, hs, hb, ⟨fa1, fa2⟩, ⟨fk1, fk2⟩, hd2, _, hg⟩
  obtain ⟨da, dc, rfl, _⟩ := hs.shape
  have hg3 := gb_new HG2.out hg (Nat.le_refl _)
  have g4 := gb_alloc (gb_refl w3 none) (.cells #[.int .i64 f.addr, .int .i64 f.kind, .slice da f.data.length dc] 24)
  have k4 := Bk.new w3 #[.int .i64 f.addr, .int .i64 f.kind, .slice da f.data.length dc] 24
  have HS4 := Lib.hid (hs.by_ g4)
  have G4 := Lib.hid (gb_none hg3 g4)
  have K4 := Lib.hid k4
  obtain ⟨hw0, hw1, _⟩ := wrFr_ok f ⟨fa1, by omega⟩ ⟨fk1, by omega⟩ (by omega)
  have hwl := wrFr_lt f hb
  have hdm := damaged f ⟨fa1, by omega⟩ ⟨fk1, by omega⟩ (by omega) hb
  have HB := Lib.hid hb
  go_upto_region 2 with fail
  have hw := write_any (.slice da f.data.length dc) f _ HS4.out HB.out
  clear hs hb hg hg3 g4 k4 HG2 HCD
  generalize w3.alloc _ = w4 at *
  generalize w3.heap.size = n4 at *
  have k4c := K4.out.cell
  generalize (wrFr f).2 = we at *
  generalize (wrFr f).1 = wl at *
  subst hw0
  generalize hfd : f.data.length = d at *
  obtain ⟨q, hq⟩ : ∃ q, 6 + d = q := ⟨_, rfl⟩
  rw [hq] at hw1
  rw [hw1] at hw
  have hq6 : 6 ≤ q := by omega
  have hq8 : q ≤ 8 := by omega
  have HW1 := Lib.hid hw1
  have HWL := Lib.hid hwl
  have HDM := Lib.hid hdm
  clear hw1 hwl hdm hfd hq fa1 fa2 fk1 fk2
  go_wp2_with fail
  refine hw.mono ?_
  clear hw
  rintro e w5 ⟨bv, rfl, hown, hg⟩
  obtain ⟨ba, bcp, hbv⟩ := own_slc hown
  subst hbv
  have K5 := Lib.hid (K4.out.of hg (by simp))
  have G5 := Lib.hid (gb_none G4.out hg)
  have HO5 := Lib.hid hown
  clear hown hg K4 G4 HS4 k4c
  have hb6 : decide ((q : Int) < 6) = false := by simp; omega
  go_wp2_with fail
  refine (mod_pos zk (q : Int) _ (by omega) zk1 zk2 (by omega)).mono ?_
  rintro e w6 ⟨rfl, rfl⟩
  obtain ⟨k, hkk, hkl⟩ : ∃ k : Nat, zk % (q : Int) = k ∧ k < q := by
    have h1 := Int.emod_nonneg zk (show (q : Int) ≠ 0 by omega)
    have h2 := Int.emod_lt_of_pos zk (show 0 < (q : Int) by omega)
    exact ⟨(zk % (q : Int)).toNat, by omega, by omega⟩
  rw [hkk]
  obtain ⟨gb, bcap, hbv, -⟩ := own_open HO5.out (by omega)
  injection hbv with e1 _ e2
  subst e1 e2
  have m5 := own_cell HO5.out HW1.out hkl
  have hx0 : wl.getD k 0 < 256 := getD_lt HWL.out k
  have hki : (k : Int) < (q : Int) := by omega
  clear hkk
  by_cases hne : wl.getD k 0 = y
  · rw [hne] at m5
    clear hne
    go_wp2_with fail
    refine (awake_any _).mono ?_
    rintro e w7 ⟨rfl, hg7⟩
    go_wp2_with fail
    go_ret
    exact ⟨rfl, gb_none G5.out hg7⟩
  have HNE := Lib.hid hne
  obtain ⟨x, hx⟩ : ∃ x, wl.getD k 0 = x := ⟨_, rfl⟩
  rw [hx] at m5 hx0 hne
  have hxy : ((x : Int) == (y : Int)) = false := beq_false_of_ne (by omega)
  have HP5 := Lib.hid (own_sl HO5.out)
  have hsz := G5.out.size
  clear hx hne
  go_upto_region 9 with (at_builtin; go_loud (refine wpList_app _ rfl _ _ 22 rfl w.heap.size 5 iu _ 1 1 Try.underlying22 hiu hiu1 hiu2 hiu3 rfl (by omega) (.slice none 0 0) 0 [] rfl (World.ownsRow_nil _ _ _ _) (.slice (some ⟨gb, 0, none⟩) q bcp) q (bytes wl) rfl HP5.out (bytes_one _) (by simp [maxLen]; omega) (by omega) hsz ?_); intro v7 w7 hown hg; rw [Nat.zero_add, List.nil_append] at hown; have hg' : w5.grownBy w7 none := hg; have K7 := Lib.hid (K5.out.of hg' (by simp)); have G7 := Lib.hid (gb_none G5.out hg'); obtain ⟨gx, xcap, hxv, -⟩ := own_open hown (by omega); subst hxv; have m7 := own_cell hown HW1.out hkl; have m7f : w7.frozen? ⟨gx, k, none⟩ = false := own_frozen hown; have HO7 := Lib.hid hown; clear hown hg hg')
  have o8 := gb_set (gb_refl w7 (some gx)) ⟨gx, k, none⟩ (.inl rfl) (.int .u8 (y : Int))
  have hgx : w.heap.size ≤ gx := own_base HO7.out gx rfl
  have K8 := Lib.hid (K7.out.of o8 (by
    have := own_ne HO7.out K7.out (by decide)
    simpa [Value.ownBlock] using this))
  have G8 := Lib.hid (gb_new G7.out o8 hgx)
  have P8 := Lib.hid (own_sl (own_put (y := y) HO7.out hkl))
  have HL8 := Lib.hid (show (wl.set k y).length = q by rw [List.length_set]; exact HW1.out)
  have HB8 := Lib.hid (show ∀ x ∈ wl.set k y, x < 256 from fun x hx => (List.mem_or_eq_of_mem_set hx).elim (HWL.out x) (fun e => by omega))
  clear o8 hgx K5 G5 HO5 HP5 K7 G7 HO7 m5 hsz
  go_upto_region 10 with fail
  generalize World.setCell _ _ _ = w8 at *
  clear m7 m7f
  go_wp2_with fail
  have hf := feed_any (.slice none 0 0) (.slice (some ⟨gx, 0, none⟩) q xcap) [] (wl.set k y) 0 _ (sl_nil _) (by rw [HL8.out]; exact P8.out) (by simp) HB8.out (by rw [HL8.out]; simp; omega) (by decide) (by decide)
  rw [List.nil_append] at hf
  obtain ⟨fs, dr, he, hfe⟩ : ∃ fs dr he, feed (wl.set k y) = (fs, dr, he) := ⟨_, _, _, rfl⟩
  have hcn := feed_cnt _ (wl.set k y) (Nat.le_refl _)
  have hdam : ∀ g ∈ fs, g.data.length ≠ d := fun g hg => HDM.out k y (by rw [HW1.out]; exact hkl) hy HNE.out g (by rw [hfe]; exact hg)
  rw [hfe] at hf hcn
  dsimp only at hf hcn
  rw [HL8.out] at hcn
  have hfl : fs.length ≤ 8 := by have := cntF_len fs; omega
  have HDA := Lib.hid hdam
  refine hf.mono ?_
  clear hf hfe hdam hcn
  rintro e w9 ⟨hv, lv, rfl, ho9, hf9, hg9⟩
  obtain ⟨ha, hcp, hve⟩ := own_slc ho9
  subst hve
  have hfv := hf9.v
  obtain ⟨la, lcp, hle, _⟩ := hf9.v
  subst hle
  have ga := gb_alloc (gb_refl w9 none) (.cells #[.slice ha he.length hcp, .int .i64 dr] 36)
  have KA := Lib.hid ((K8.out.of hg9 (by simp)).of ga (by simp))
  have GA := Lib.hid (gb_none (gb_none G8.out hg9) ga)
  have HF := Lib.hid (hfv.by_ ga)
  have hd0 : (0 : Int) + (dr : Int) = (dr : Int) := by omega
  clear ho9 hf9 hg9 hfv ga K8 G8 P8
  go_wp2_with fail
  generalize w9.alloc _ = wa at *
  go_loopw [14] (fun i wx => ∃ j q' : Nat, j ≤ fs.length ∧ i = .int .i64 j ∧ wx = wa.drewN q') (fun i _ => fs.length - (intOf i).toNat)
  case atStart => exact ⟨0, 0, Nat.zero_le _, rfl, rfl⟩
  case round =>
    obtain ⟨j, q', hj, rfl, rfl⟩ := hrel
    by_cases hlt : j < fs.length
    · obtain ⟨la2, lc2, hv2, _, _, hx⟩ := HF.out
      injection hv2 with e1 _ e2
      subst e1 e2
      rcases hx with hx | ⟨g, off, rfl, hcx⟩
      · omega
      obtain ⟨_, _, dv, e2, hd⟩ := hcx j hlt
      obtain ⟨ea, ec, rfl, _⟩ := hd.shape
      have hmd : (fs.getD j fr0).data.length ≠ d := HDA.out _ (by rw [List.getD_eq_getElem?_getD, List.getElem?_eq_getElem hlt]; exact List.getElem_mem _)
      clear hcx hd
      generalize (fs.getD j fr0).data.length = m at *
      have hmb : ((m : Int) == (d : Int)) = false := beq_false_of_ne (by omega)
      have k7 : wa.cell? ⟨n4, 2, none⟩ = some (.slice da d dc) := KA.out.cell 2
      have j0 : (0 : Int) ≤ (j : Int) := by omega
      have j1 : (j : Int) < (fs.length : Int) := by omega
      go_wp2_with fail
      go_quiet (fail)
      go_wp2_with fail
      go_roundw
      case rel => exact ⟨j + 1, _, by omega, by go_num, rfl⟩
      case measure => simp [intOf]; omega
    · obtain rfl : j = fs.length := by omega
      have GQ := Lib.hid (gb_drewN GA.out q')
      go_wp2_with fail
      refine (awake_any _).mono ?_
      rintro e wb ⟨rfl, hgb⟩
      go_wp2_with fail
      go_ret
      exact ⟨rfl, gb_none GQ.out hgb⟩
end Go.Proofs.Ytolkjklejcealaa
