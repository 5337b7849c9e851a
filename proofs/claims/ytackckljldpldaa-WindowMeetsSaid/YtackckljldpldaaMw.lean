/- The statement WindowMeets: the walk. -/
import Derived.Test.YtackckljldpldaaTo
import Derived.Test.YtackckljldpldaaMm
namespace Go.Proofs.Ytackckljldpldaa
open Go.RowKit
attribute [local go_sem ↓] Go.wp_at_zero Go.wp_at_succ

theorem spLs_one (B : List (Int × Int)) : ∀ u ∈ B.flatMap spL, u.oneCell' = true := by
  intro u hu
  obtain ⟨p, _, hp⟩ := List.mem_flatMap.1 hu
  exact spL_one p u hp
/-- While spans are drawn: the codes, the list, the list turned round. -/
structure MtS (w : World) (b : Nat) (l : List Nat) (L B : List (Int × Int)) (lv bv : Value) (W : World) : Prop where
  cd : ∃ j, CdAt W b l j
  oL : W.ownsRow (b + 1) 29 2 lv L.length (L.flatMap spL)
  oB : W.ownsRow (b + 1) 29 2 bv B.length (B.flatMap spL)
  dj : ∀ g, lv.ownBlock = some g → bv.ownBlock ≠ some g
  g : w.grownBy W none
  lb : w.heap.size ≤ b
section
variable {w : World} {b : Nat} {l : List Nat} {L B : List (Int × Int)} {lv bv : Value} {W W' : World}
theorem MtS.by_ (h : MtS w b l L B lv bv W) (o : W.grownBy W' none) : MtS w b l L B lv bv W' :=
  let ⟨j, c⟩ := h.cd
  ⟨⟨j, c.keep o (fun g e => by cases e)⟩, own_by h.oL o, own_by h.oB o, h.dj, gb_none h.g o, h.lb⟩
theorem MtS.draw (h : MtS w b l L B lv bv W) (c : ∃ j, CdAt W' b l j) (o : W.grownBy W' (some b)) : MtS w b l L B lv bv W' :=
  ⟨c, h.oL.kept o (.inr fun e => by have := own_base h.oL b e; omega), h.oB.kept o (.inr fun e => by have := own_base h.oB b e; omega), h.dj, gb_new h.g o h.lb, h.lb⟩
theorem MtS.addA (h : MtS w b l L B lv bv W) (p : Int × Int) {g : Nat} {n c : Nat} (ho : W'.ownsRow (b + 1) 29 2 (.slice (some ⟨g, 0, none⟩) n c) (L.length + 1) (L.flatMap spL ++ spL p)) (o : W.grownBy W' lv.ownBlock) (hat : lv.ownBlock = some g ∨ g = W.heap.size) : MtS w b l (L ++ [p]) B (.slice (some ⟨g, 0, none⟩) n c) bv W' := by
  have hb := own_base h.oL
  have hl := h.lb
  obtain ⟨j, cc⟩ := h.cd
  refine ⟨⟨j, cc.keep o (fun g e => by have := hb g e; omega)⟩, ?_, ?_, ?_, gb_call h.g o (fun g e => .inr (by have := hb g e; omega)), h.lb⟩
  · have e : (L ++ [p]).flatMap spL = L.flatMap spL ++ spL p := by simp
    rw [e, List.length_append]
    exact ho
  · refine h.oB.kept o ?_
    cases hq : lv.ownBlock with
    | none =>
      cases hq2 : bv.ownBlock with
      | none => exact .inl rfl
      | some x => exact .inr (by simp)
    | some x => exact .inr (h.dj x hq)
  · intro g' hg'
    have e : g = g' := by simpa [Value.ownBlock] using hg'
    subst e
    rcases hat with h1 | h1
    · exact h.dj g h1
    · intro h2
      have := (h.oB.lt g h2).2
      omega
theorem MtS.addB (h : MtS w b l L B lv bv W) (p : Int × Int) {nB g : Nat} {bv' : Value} (hbv : bv'.ownBlock = some g) (ho : W'.ownsRow (b + 1) 29 2 bv' (1 + B.length) (spL p ++ B.flatMap spL)) (o : W.grownBy W' (some nB)) (hb : b < nB) (hLB : lv.ownBlock ≠ some nB) (hat : nB = g ∨ g = W.heap.size) : MtS w b l L (p :: B) lv bv' W' := by
  have hl := h.lb
  obtain ⟨j, cc⟩ := h.cd
  refine ⟨⟨j, cc.keep o (fun g e => by injection e with e; omega)⟩, h.oL.kept o (.inr hLB), ?_, ?_, gb_new h.g o (by omega), h.lb⟩
  · rw [show (p :: B).length = 1 + B.length by simp; omega]
    exact ho
  · intro g' hg' e
    rw [hbv] at e
    injection e with e
    subst e
    rcases hat with h1 | h1
    · subst h1; exact hLB hg'
    · have := (h.oL.lt g hg').2
      omega
end
/-- The two lists, later on. -/
structure M2S (w : World) (lv bv : Value) (L B : List (Int × Int)) (W : World) : Prop where
  sl : Sl W lv 2 L.length (L.flatMap spL)
  sb : Sl W bv 2 B.length (B.flatMap spL)
  g : w.grownBy W none
theorem M2S.by_ {w : World} {lv bv : Value} {L B : List (Int × Int)} {W W' : World} (h : M2S w lv bv L B W) (o : W.grownBy W' none) : M2S w lv bv L B W' := ⟨h.sl.by_ o, h.sb.by_ o, gb_none h.g o⟩
theorem own_one {W : World} {base n : Nat} {p : Int × Int} (k : Bk W n #[.int .i64 p.1, .int .i64 p.2] 29) (hb : base ≤ n) : W.ownsRow base 29 2 (.slice (some ⟨n, 0, none⟩) 1 1) 1 (spL p) :=
  ⟨rfl, .inr ⟨n, 1, #[.int .i64 p.1, .int .i64 p.2], rfl, hb, k, Nat.le_refl _, by decide, rfl, rfl⟩⟩

set_option maxRecDepth 100000 in
set_option maxHeartbeats 32000000 in
theorem meets_walk (cv : Value) (lc : List Nat) (v : Int) (w : World) (hc : Sl w cv 1 lc.length (bytes lc)) (hb : ∀ x ∈ lc, x < 256) (hv1 : -9223372036854775808 ≤ v) (hv2 : v ≤ 9223372036854775807) :
    Calls Try.prog 14 #[cv, .int .i64 v] w fun e w' => e = .returned (.bool true) ∧ w.grownBy w' none := by
  obtain ⟨a, cap, rfl, _, _, _⟩ := hc.shape
  obtain ⟨ie, hie, hie1, hie2, hie3⟩ := info_parts Try.infoSpan
  have HN := Lib.hid (new_sl _ lc w hc hb)
  clear hc hb
  go_enter Try.func14, Try.ntmps14
  go_wp2_with fail
  refine HN.out.mono ?_
  rintro e W2 ⟨rfl, ⟨l3, hcd⟩, hg⟩
  have HG2 := Lib.hid hg
  have HCD := Lib.hid hcd
  clear hg HN hcd
  go_wp2_with fail
  refine (mod_pos v 150 _ (by omega) hv1 hv2 (by omega)).mono ?_
  rintro e W2b ⟨rfl, rfl⟩
  obtain ⟨k, hk⟩ : ∃ k, v % 150 = k := ⟨_, rfl⟩
  have hk1 : 0 ≤ k ∧ k < 150 := by omega
  rw [hk]
  clear hk hv1 hv2
  obtain ⟨vm, hvm⟩ : ∃ vm, k - 40 = vm := ⟨_, rfl⟩
  have hw : wrap64 (k - 40) = vm := by rw [hvm]; exact IntWalk.wrap64_in vm (by omega)
  have HVB := Lib.hid (show -1000000 ≤ vm ∧ vm ≤ 1000000 by omega)
  clear hk1 hvm
  go_wp2_with fail
  refine (next_ex w.heap.size l3 0 5 _ HCD.out (by omega) (by omega)).mono ?_
  rintro e W3 ⟨k0, j3, rfl, ha0, hb0, c3, ho⟩
  have HS3 := Lib.hid (⟨⟨j3, c3⟩, World.ownsRow_nil _ _ _ _, World.ownsRow_nil _ _ _ _, (fun g e => by simp [Value.ownBlock] at e), gb_new HG2.out (gb_only ho) (Nat.le_refl _), Nat.le_refl _⟩ : MtS w w.heap.size l3 [] [] (.slice none 0 0) (.slice none 0 0) W3)
  clear HCD c3 ho HG2
  generalize hbe : w.heap.size = b at *
  go_wp2_with fail
  first | rw [hw] | skip
  clear hw
  go_loopw [6, 7, 9, 10] (fun i6 i7 i9 i10 wr => ∃ (k : Int) (L B : List (Int × Int)) (inb : Bool), i9 = .bool inb ∧ i10 = .int .i64 k ∧ 0 ≤ k ∧ L.length + k ≤ 4 ∧ Hid (B = L.reverse) ∧ Hid (MtS w b l3 L B i6 i7 wr) ∧ Hid (L = [] → i6 = .slice none 0 0 ∧ i7 = .slice none 0 0) ∧ Hid (∀ p ∈ L, p.1 ≤ p.2) ∧ Hid (inb = true ↔ ∀ p ∈ L, p.1 ≤ vm ∧ vm ≤ p.2)) (fun _ _ _ i10 _ => (intOf i10).toNat)
  case atStart => exact ⟨k0, [], [], true, rfl, rfl, ha0, by simp; omega, Lib.hid rfl, HS3, Lib.hid (fun _ => ⟨rfl, rfl⟩), Lib.hid (by simp), Lib.hid (by simp)⟩
  case round =>
    clear HS3
    obtain ⟨k, L, B, inb, rfl, rfl, hk0, hk4, HBR, HS, HNI, HLE, HIN⟩ := hrel
    have HBL := Lib.hid (show B.length = L.length by rw [HBR.out, List.length_reverse])
    by_cases hlt : 0 < k
    · have hlt' : decide (0 < k) = true := by simpa using hlt
      obtain ⟨j, c⟩ := HS.out.cd
      have HM := Lib.hid (measured_any b l3 j wr c)
      obtain ⟨la, lcp, hlv⟩ := own_slc HS.out.oL
      obtain ⟨ba, bcp, hbv⟩ := own_slc HS.out.oB
      subst hlv hbv
      clear c
      go_wp2_with fail
      refine HM.out.mono ?_
      rintro e w6 ⟨ms, mt, lo, hi, rfl, -, -, hsp, hcc, hg⟩
      have hlh : lo ≤ hi := by
        rcases hsp with h | h
        · unfold nothingSp at h; injection h with h1 h2; omega
        · omega
      have HLH := Lib.hid hlh
      have hf := fldM ms mt lo hi
      have S6 := HS.out.draw hcc hg
      have g8 := gb_alloc (gb_refl w6 none) (.cells #[.int .i64 lo, .int .i64 hi] 29)
      have HS8 := Lib.hid (S6.by_ g8)
      have HK8 := Lib.hid (Bk.new w6 #[.int .i64 lo, .int .i64 hi] 29)
      have HNE := Lib.hid (show (Value.slice la L.length lcp).ownBlock ≠ some w6.heap.size from fun e => by have := (S6.oL.lt _ e).2; omega)
      clear hsp hlh hcc hg S6 g8 HM HS
      unfold msV
      go_upto_region 9 with fail
      clear hf
      generalize w6.alloc _ = W8 at *
      generalize w6.heap.size = n11 at *
      have c0 : W8.cell? ⟨n11, 0, none⟩ = some (.int .i64 lo) := HK8.out.cell 0
      have c1 : W8.cell? ⟨n11, 1, none⟩ = some (.int .i64 hi) := HK8.out.cell 1
      obtain ⟨inn, hinn⟩ : ∃ inn : Bool, (inb && (decide (lo ≤ vm) && decide (vm ≤ hi))) = inn := ⟨_, rfl⟩
      have HINN := Lib.hid hinn.symm
      clear hinn
      go_cut [9] from 32 to 52 (fun q wx => q = .bool inn ∧ wx = W8)
      case first =>
        cases inb with
        | false =>
          have hi2 : inn = false := by rw [HINN.out]; rfl
          subst hi2
          go_wp2_with fail
          go_meet
          exact ⟨rfl, rfl⟩
        | true =>
          by_cases d1 : lo ≤ vm
          · have d1' : decide (lo ≤ vm) = true := by simpa using d1
            have hi2 : inn = decide (vm ≤ hi) := by rw [HINN.out, d1']; simp
            subst hi2
            go_wp2_with fail
            go_meet
            exact ⟨rfl, rfl⟩
          · have d1' : decide (lo ≤ vm) = false := by simpa using d1
            have hi2 : inn = false := by rw [HINN.out, d1']; simp
            subst hi2
            go_wp2_with fail
            go_meet
            exact ⟨rfl, rfl⟩
      case rest =>
        obtain ⟨rfl, hwc⟩ := hcut
        subst hwc
        have HIN2 := Lib.hid (show inn = true ↔ ∀ p ∈ L ++ [(lo, hi)], p.1 ≤ vm ∧ vm ≤ p.2 by
          rw [HINN.out, Bool.and_eq_true, Bool.and_eq_true, decide_eq_true_eq, decide_eq_true_eq, HIN.out]
          constructor
          · rintro ⟨h1, h2⟩ p hp
            rcases List.mem_append.1 hp with h | h
            · exact h1 p h
            · simp at h; subst h; exact h2
          · intro h
            exact ⟨fun p hp => h p (List.mem_append_left _ hp), h (lo, hi) (by simp)⟩)
        have HLE2 := Lib.hid (show ∀ p ∈ L ++ [(lo, hi)], p.1 ≤ p.2 by
          intro p hp
          rcases List.mem_append.1 hp with h | h
          · exact HLE.out p h
          · simp at h; subst h; exact HLH.out)
        have HBR2 := Lib.hid (show (lo, hi) :: B = (L ++ [(lo, hi)]).reverse by rw [HBR.out]; simp)
        clear HINN HIN HLE c0 c1 HLH
        have gd := gb_drew (gb_refl wc none)
        have HS := Lib.hid (HS8.out.by_ gd)
        have K11 := Lib.hid (HK8.out.of gd (by simp))
        clear gd HS8 HK8
        go_wp2_with fail
        have hS0 : wc.drew.cell? ⟨n11, 0, none⟩ = some (.int .i64 lo) ∧ wc.drew.cell? ⟨n11, 1, none⟩ = some (.int .i64 hi) := ⟨K11.out.cell 0, K11.out.cell 1⟩
        by_cases hemp : L = []
        · obtain ⟨q1, q2⟩ := HNI.out hemp
          have hB : B = [] := by rw [HBR.out, hemp]; rfl
          subst hemp hB
          injection q1 with q1 _ q1'
          injection q2 with q2 _ q2'
          subst q1 q1' q2 q2'
          clear HBR HNI HBL
          refine wp_region_held_drew (S := (fun w' => w'.cell? ⟨n11, 0, none⟩ = some (.int .i64 lo) ∧ w'.cell? ⟨n11, 1, none⟩ = some (.int .i64 hi))) (by kernel_rfl) ?_ (fun hHeld => ?_)
          · exact hS0
          clear hS0
          generalize wc.drew = g0 at *
          refine wpAnyH_take (i := 0) (oi := _) (v := ?_) rfl (by kernel_rfl) (by kernel_rfl) (by kernel_rfl) (fun _ _ _ h => h) (Or.inl ⟨by rfl, ?_⟩) (by assumption) ?_
          rotate_left 1
          · intro w hSw; (try dsimp only at hSw); go_simp; try (with_reducible rfl)
          try simp only [Act.put, List.getElem_toArray, List.getElem_cons_zero, List.setIfInBounds_toArray, List.set_cons_zero, List.set_cons_succ]
          refine wpAnyH_take (i := 1) (oi := _) (v := ?_) rfl (by kernel_rfl) (by kernel_rfl) (by kernel_rfl) (fun _ _ _ h => h) (Or.inl ⟨by rfl, ?_⟩) (by assumption) ?_
          rotate_left 1
          · intro w hSw; (try dsimp only at hSw); go_simp; try (with_reducible rfl)
          try simp only [Act.put, List.getElem_toArray, List.getElem_cons_zero, List.getElem_cons_succ, List.setIfInBounds_toArray, List.set_cons_zero, List.set_cons_succ]
          refine wpAnyH_take (i := 4) (oi := _) (v := ?_) rfl (by kernel_rfl) (by kernel_rfl) (by kernel_rfl) (fun _ _ _ h => h) (Or.inl ⟨by rfl, ?_⟩) (by assumption) ?_
          rotate_left 1
          · intro w hSw; (try dsimp only at hSw); go_simp; try (with_reducible rfl)
          try simp only [Act.put, List.getElem_toArray, List.getElem_cons_zero, List.getElem_cons_succ, List.setIfInBounds_toArray, List.set_cons_zero, List.set_cons_succ]
          refine wpAnyH_take (i := 6) (oi := _) (v := ?_) rfl (by kernel_rfl) (by kernel_rfl) (by kernel_rfl) (fun _ _ _ h => h) (Or.inl ⟨by rfl, ?_⟩) (by assumption) ?_
          rotate_left 1
          · intro w hSw; (try dsimp only at hSw); go_simp; try (with_reducible rfl)
          try simp only [Act.put, List.getElem_toArray, List.getElem_cons_zero, List.getElem_cons_succ, List.setIfInBounds_toArray, List.set_cons_zero, List.set_cons_succ]
          refine wpAnyH_ready (rs := [2, 5]) (by kernel_rfl) (by simp) ?_
          refine AllReadyH.cons (o := _) rfl (fun K hK => ?_) ?_
          · go_simp
            have gA := gb_alloc (gb_refl g0 none) (.cells #[.int .i64 lo, .int .i64 hi] 29)
            have hbs : b < g0.heap.size := by obtain ⟨_, cc⟩ := HS.out.cd; exact cc.lt
            have KA := Lib.hid (Bk.new g0 #[.int .i64 lo, .int .i64 hi] 29)
            have HS := Lib.hid (HS.out.by_ gA)
            have K11 := Lib.hid (K11.out.of gA (by simp))
            have hS6 := And.intro (K11.out.cell 0) (K11.out.cell 1)
            clear gA hbs
            refine hK.out _ _ ?_ (fun hHeld2 => ?_)
            · exact hS6
            clear hK K hHeld
            have hHeld := hHeld2
            clear hHeld2 hS6
            try simp only [Act.put, List.getElem_toArray, List.getElem_cons_zero, List.getElem_cons_succ, List.setIfInBounds_toArray, List.set_cons_zero, List.set_cons_succ]
            generalize g0.alloc _ = g1 at *
            generalize g0.heap.size = nA at *
            refine wpAnyH_ready (rs := [3, 5]) (by kernel_rfl) (by simp) ?_
            refine AllReadyH.cons (o := _) rfl (fun K hK => ?_) ?_
            · have hbs : b + 1 ≤ g1.heap.size := by obtain ⟨_, cc⟩ := HS.out.cd; exact cc.lt
              refine step_append_lies _ (by rfl) _ _ 63 (by rfl) (b + 1) 29 ie _ 2 16 Try.underlying63 hie hie1 hie2 hie3 rfl (by omega) (Value.slice none 0 0) 0 [] (by rfl) HS.out.oL ⟨nA, 0, none⟩ 1 1 (spL (lo, hi)) (by rfl) rfl (World.news_of_block KA.out) (spL_one (lo, hi)) (by omega) (by simp [maxLen]; try omega) (by omega) hbs _ rfl ?_
              intro bA capA g2 hown hgrow hat hltt
              have K11 := Lib.hid (K11.out.of hgrow HNE.out)
              have HS := Lib.hid (MtS.addA HS.out (lo, hi) hown hgrow hat)
              have hS6 := And.intro (K11.out.cell 0) (K11.out.cell 1)
              clear hown hgrow hat hbs
              refine hK.out _ _ ?_ (fun hHeld2 => ?_)
              · exact hS6
              clear hK K hHeld
              have hHeld := hHeld2
              clear hHeld2 hS6
              try simp only [Act.put, List.getElem_toArray, List.getElem_cons_zero, List.getElem_cons_succ, List.setIfInBounds_toArray, List.set_cons_zero, List.set_cons_succ]
              refine wpAnyH_ready (rs := [5]) (by kernel_rfl) (by simp) ?_
              refine AllReadyH.cons (o := _) rfl (fun K hK => ?_) ?_
              · go_simp
                have gA := gb_alloc (gb_refl g2 none) (.cells #[.int .i64 lo, .int .i64 hi] 29)
                have hbs : b < g2.heap.size := by obtain ⟨_, cc⟩ := HS.out.cd; exact cc.lt
                have HLB := Lib.hid (show (Value.slice (some ⟨bA, 0, none⟩) (0 + 1) capA).ownBlock ≠ some g2.heap.size from fun e => by have := (HS.out.oL.lt _ e).2; omega)
                have RB := Lib.hid (own_one (p := (lo, hi)) (Bk.new g2 #[.int .i64 lo, .int .i64 hi] 29) hbs)
                have HBN := Lib.hid hbs
                have HNB := Lib.hid (show g2.heap.size ≠ n11 from Nat.ne_of_gt K11.out.lt)
                have HS := Lib.hid (HS.out.by_ gA)
                have K11 := Lib.hid (K11.out.of gA (by simp))
                have hS6 := And.intro (K11.out.cell 0) (K11.out.cell 1)
                clear gA hbs
                refine hK.out _ _ ?_ (fun hHeld2 => ?_)
                · exact hS6
                clear hK K hHeld
                have hHeld := hHeld2
                clear hHeld2 hS6
                try simp only [Act.put, List.getElem_toArray, List.getElem_cons_zero, List.getElem_cons_succ, List.setIfInBounds_toArray, List.set_cons_zero, List.set_cons_succ]
                generalize g2.alloc _ = g3 at *
                generalize g2.heap.size = nB at *
                refine wpAnyH_ready (rs := [7]) (by kernel_rfl) (by simp) ?_
                refine AllReadyH.cons (o := _) rfl (fun K hK => ?_) ?_
                · have happ := run_append_owned_none (P := Try.prog) g3 (b + 1) 63 63 29 ie 2 Try.underlying63 hie _ _ _ RB.out
                  go_simp
                  have HS := Lib.hid (MtS.addB HS.out (lo, hi) (nB := nB) (g := nB) rfl (by simpa using RB.out) (gb_refl _ _) HBN.out HLB.out (.inl rfl))
                  have hS6 := hHeld
                  clear happ
                  refine hK.out _ _ ?_ (fun hHeld2 => ?_)
                  · exact hS6
                  clear hK K hHeld
                  have hHeld := hHeld2
                  clear hHeld2 hS6
                  try simp only [Act.put, List.getElem_toArray, List.getElem_cons_zero, List.getElem_cons_succ, List.setIfInBounds_toArray, List.set_cons_zero, List.set_cons_succ]
                  refine wpAnyH_take (i := 8) (oi := _) (v := ?_) rfl (by kernel_rfl) (by kernel_rfl) (by kernel_rfl) (fun _ _ _ h => h) (Or.inl ⟨by rfl, ?_⟩) (by assumption) ?_
                  rotate_left 1
                  · intro w hSw; (try dsimp only at hSw); go_simp; try (with_reducible rfl)
                  try simp only [Act.put, List.getElem_toArray, List.getElem_cons_zero, List.getElem_cons_succ, List.setIfInBounds_toArray, List.set_cons_zero, List.set_cons_succ]
                  refine wpAnyH_take (i := 9) (oi := _) (v := ?_) rfl (by kernel_rfl) (by kernel_rfl) (by kernel_rfl) (fun _ _ _ h => h) (Or.inl ⟨by rfl, ?_⟩) (by assumption) ?_
                  rotate_left 1
                  · intro w hSw; (try dsimp only at hSw); go_simp; try (with_reducible rfl)
                  try simp only [Act.put, List.getElem_toArray, List.getElem_cons_zero, List.getElem_cons_succ, List.setIfInBounds_toArray, List.set_cons_zero, List.set_cons_succ]
                  refine wpAnyH_done (by kernel_rfl) ?_ _
                  go_wp2_with fail
                  exact ⟨⟨k - 1, [] ++ [(lo, hi)], [(lo, hi)], inn, rfl, rfl, by omega, by simp at hk4 ⊢; omega, HBR2, HS, Lib.hid (fun h => by simp at h), HLE2, HIN2⟩, by simp [intOf]; omega⟩
                exact AllReadyH.nil
              exact AllReadyH.nil
            refine AllReadyH.cons (o := _) rfl (fun K hK => ?_) ?_
            · go_simp
              have gA := gb_alloc (gb_refl g1 none) (.cells #[.int .i64 lo, .int .i64 hi] 29)
              have hbs : b < g1.heap.size := by obtain ⟨_, cc⟩ := HS.out.cd; exact cc.lt
              have HLB := Lib.hid (show (Value.slice none 0 0).ownBlock ≠ some g1.heap.size from fun e => by have := (HS.out.oL.lt _ e).2; omega)
              have RB := Lib.hid (own_one (p := (lo, hi)) (Bk.new g1 #[.int .i64 lo, .int .i64 hi] 29) hbs)
              have HBN := Lib.hid hbs
              have HNB := Lib.hid (show g1.heap.size ≠ n11 from Nat.ne_of_gt K11.out.lt)
              have KA := Lib.hid (KA.out.of gA (by simp))
              have HS := Lib.hid (HS.out.by_ gA)
              have K11 := Lib.hid (K11.out.of gA (by simp))
              have hS6 := And.intro (K11.out.cell 0) (K11.out.cell 1)
              clear gA hbs
              refine hK.out _ _ ?_ (fun hHeld2 => ?_)
              · exact hS6
              clear hK K hHeld
              have hHeld := hHeld2
              clear hHeld2 hS6
              try simp only [Act.put, List.getElem_toArray, List.getElem_cons_zero, List.getElem_cons_succ, List.setIfInBounds_toArray, List.set_cons_zero, List.set_cons_succ]
              generalize g1.alloc _ = g5 at *
              generalize g1.heap.size = nB at *
              refine wpAnyH_ready (rs := [3]) (by kernel_rfl) (by simp) ?_
              refine AllReadyH.cons (o := _) rfl (fun K hK => ?_) ?_
              · have hbs : b + 1 ≤ g5.heap.size := by obtain ⟨_, cc⟩ := HS.out.cd; exact cc.lt
                refine step_append_lies _ (by rfl) _ _ 63 (by rfl) (b + 1) 29 ie _ 2 16 Try.underlying63 hie hie1 hie2 hie3 rfl (by omega) (Value.slice none 0 0) 0 [] (by rfl) HS.out.oL ⟨nA, 0, none⟩ 1 1 (spL (lo, hi)) (by rfl) rfl (World.news_of_block KA.out) (spL_one (lo, hi)) (by omega) (by simp [maxLen]; try omega) (by omega) hbs _ rfl ?_
                intro bA capA g6 hown hgrow hat hltt
                have HLB2 := Lib.hid (show (Value.slice (some ⟨bA, 0, none⟩) (0 + 1) capA).ownBlock ≠ some nB from fun e => by
                  have e : bA = nB := by simpa [Value.ownBlock] using e
                  rcases hat with h | h
                  · exact HLB.out (by rw [h, e])
                  · have := (RB.out.lt nB rfl).2; omega)
                have RB := Lib.hid (RB.out.kept hgrow (.inr (fun e => HLB.out e.symm)))
                clear HLB
                have HLB := HLB2
                clear HLB2
                have K11 := Lib.hid (K11.out.of hgrow HNE.out)
                have HS := Lib.hid (MtS.addA HS.out (lo, hi) hown hgrow hat)
                have hS6 := And.intro (K11.out.cell 0) (K11.out.cell 1)
                clear hown hgrow hat hbs
                refine hK.out _ _ ?_ (fun hHeld2 => ?_)
                · exact hS6
                clear hK K hHeld
                have hHeld := hHeld2
                clear hHeld2 hS6
                try simp only [Act.put, List.getElem_toArray, List.getElem_cons_zero, List.getElem_cons_succ, List.setIfInBounds_toArray, List.set_cons_zero, List.set_cons_succ]
                refine wpAnyH_ready (rs := [7]) (by kernel_rfl) (by simp) ?_
                refine AllReadyH.cons (o := _) rfl (fun K hK => ?_) ?_
                · have happ := run_append_owned_none (P := Try.prog) g6 (b + 1) 63 63 29 ie 2 Try.underlying63 hie _ _ _ RB.out
                  go_simp
                  have HS := Lib.hid (MtS.addB HS.out (lo, hi) (nB := nB) (g := nB) rfl (by simpa using RB.out) (gb_refl _ _) HBN.out HLB.out (.inl rfl))
                  have hS6 := hHeld
                  clear happ
                  refine hK.out _ _ ?_ (fun hHeld2 => ?_)
                  · exact hS6
                  clear hK K hHeld
                  have hHeld := hHeld2
                  clear hHeld2 hS6
                  try simp only [Act.put, List.getElem_toArray, List.getElem_cons_zero, List.getElem_cons_succ, List.setIfInBounds_toArray, List.set_cons_zero, List.set_cons_succ]
                  refine wpAnyH_take (i := 8) (oi := _) (v := ?_) rfl (by kernel_rfl) (by kernel_rfl) (by kernel_rfl) (fun _ _ _ h => h) (Or.inl ⟨by rfl, ?_⟩) (by assumption) ?_
                  rotate_left 1
                  · intro w hSw; (try dsimp only at hSw); go_simp; try (with_reducible rfl)
                  try simp only [Act.put, List.getElem_toArray, List.getElem_cons_zero, List.getElem_cons_succ, List.setIfInBounds_toArray, List.set_cons_zero, List.set_cons_succ]
                  refine wpAnyH_take (i := 9) (oi := _) (v := ?_) rfl (by kernel_rfl) (by kernel_rfl) (by kernel_rfl) (fun _ _ _ h => h) (Or.inl ⟨by rfl, ?_⟩) (by assumption) ?_
                  rotate_left 1
                  · intro w hSw; (try dsimp only at hSw); go_simp; try (with_reducible rfl)
                  try simp only [Act.put, List.getElem_toArray, List.getElem_cons_zero, List.getElem_cons_succ, List.setIfInBounds_toArray, List.set_cons_zero, List.set_cons_succ]
                  refine wpAnyH_done (by kernel_rfl) ?_ _
                  go_wp2_with fail
                  exact ⟨⟨k - 1, [] ++ [(lo, hi)], [(lo, hi)], inn, rfl, rfl, by omega, by simp at hk4 ⊢; omega, HBR2, HS, Lib.hid (fun h => by simp at h), HLE2, HIN2⟩, by simp [intOf]; omega⟩
                exact AllReadyH.nil
              exact AllReadyH.nil
            exact AllReadyH.nil
          refine AllReadyH.cons (o := _) rfl (fun K hK => ?_) ?_
          · go_simp
            have gA := gb_alloc (gb_refl g0 none) (.cells #[.int .i64 lo, .int .i64 hi] 29)
            have hbs : b < g0.heap.size := by obtain ⟨_, cc⟩ := HS.out.cd; exact cc.lt
            have HLB := Lib.hid (show (Value.slice none 0 0).ownBlock ≠ some g0.heap.size from fun e => by have := (HS.out.oL.lt _ e).2; omega)
            have RB := Lib.hid (own_one (p := (lo, hi)) (Bk.new g0 #[.int .i64 lo, .int .i64 hi] 29) hbs)
            have HBN := Lib.hid hbs
            have HNB := Lib.hid (show g0.heap.size ≠ n11 from Nat.ne_of_gt K11.out.lt)
            have HS := Lib.hid (HS.out.by_ gA)
            have K11 := Lib.hid (K11.out.of gA (by simp))
            have hS6 := And.intro (K11.out.cell 0) (K11.out.cell 1)
            clear gA hbs
            refine hK.out _ _ ?_ (fun hHeld2 => ?_)
            · exact hS6
            clear hK K hHeld
            have hHeld := hHeld2
            clear hHeld2 hS6
            try simp only [Act.put, List.getElem_toArray, List.getElem_cons_zero, List.getElem_cons_succ, List.setIfInBounds_toArray, List.set_cons_zero, List.set_cons_succ]
            generalize g0.alloc _ = g8 at *
            generalize g0.heap.size = nB at *
            refine wpAnyH_ready (rs := [2]) (by kernel_rfl) (by simp) ?_
            refine AllReadyH.cons (o := _) rfl (fun K hK => ?_) ?_
            · go_simp
              have gA := gb_alloc (gb_refl g8 none) (.cells #[.int .i64 lo, .int .i64 hi] 29)
              have hbs : b < g8.heap.size := by obtain ⟨_, cc⟩ := HS.out.cd; exact cc.lt
              have RB := Lib.hid (own_by RB.out gA)
              have KA := Lib.hid (Bk.new g8 #[.int .i64 lo, .int .i64 hi] 29)
              have HS := Lib.hid (HS.out.by_ gA)
              have K11 := Lib.hid (K11.out.of gA (by simp))
              have hS6 := And.intro (K11.out.cell 0) (K11.out.cell 1)
              clear gA hbs
              refine hK.out _ _ ?_ (fun hHeld2 => ?_)
              · exact hS6
              clear hK K hHeld
              have hHeld := hHeld2
              clear hHeld2 hS6
              try simp only [Act.put, List.getElem_toArray, List.getElem_cons_zero, List.getElem_cons_succ, List.setIfInBounds_toArray, List.set_cons_zero, List.set_cons_succ]
              generalize g8.alloc _ = g9 at *
              generalize g8.heap.size = nA at *
              refine wpAnyH_ready (rs := [3]) (by kernel_rfl) (by simp) ?_
              refine AllReadyH.cons (o := _) rfl (fun K hK => ?_) ?_
              · have hbs : b + 1 ≤ g9.heap.size := by obtain ⟨_, cc⟩ := HS.out.cd; exact cc.lt
                refine step_append_lies _ (by rfl) _ _ 63 (by rfl) (b + 1) 29 ie _ 2 16 Try.underlying63 hie hie1 hie2 hie3 rfl (by omega) (Value.slice none 0 0) 0 [] (by rfl) HS.out.oL ⟨nA, 0, none⟩ 1 1 (spL (lo, hi)) (by rfl) rfl (World.news_of_block KA.out) (spL_one (lo, hi)) (by omega) (by simp [maxLen]; try omega) (by omega) hbs _ rfl ?_
                intro bA capA g10 hown hgrow hat hltt
                have HLB2 := Lib.hid (show (Value.slice (some ⟨bA, 0, none⟩) (0 + 1) capA).ownBlock ≠ some nB from fun e => by
                  have e : bA = nB := by simpa [Value.ownBlock] using e
                  rcases hat with h | h
                  · exact HLB.out (by rw [h, e])
                  · have := (RB.out.lt nB rfl).2; omega)
                have RB := Lib.hid (RB.out.kept hgrow (.inr (fun e => HLB.out e.symm)))
                clear HLB
                have HLB := HLB2
                clear HLB2
                have K11 := Lib.hid (K11.out.of hgrow HNE.out)
                have HS := Lib.hid (MtS.addA HS.out (lo, hi) hown hgrow hat)
                have hS6 := And.intro (K11.out.cell 0) (K11.out.cell 1)
                clear hown hgrow hat hbs
                refine hK.out _ _ ?_ (fun hHeld2 => ?_)
                · exact hS6
                clear hK K hHeld
                have hHeld := hHeld2
                clear hHeld2 hS6
                try simp only [Act.put, List.getElem_toArray, List.getElem_cons_zero, List.getElem_cons_succ, List.setIfInBounds_toArray, List.set_cons_zero, List.set_cons_succ]
                refine wpAnyH_ready (rs := [7]) (by kernel_rfl) (by simp) ?_
                refine AllReadyH.cons (o := _) rfl (fun K hK => ?_) ?_
                · have happ := run_append_owned_none (P := Try.prog) g10 (b + 1) 63 63 29 ie 2 Try.underlying63 hie _ _ _ RB.out
                  go_simp
                  have HS := Lib.hid (MtS.addB HS.out (lo, hi) (nB := nB) (g := nB) rfl (by simpa using RB.out) (gb_refl _ _) HBN.out HLB.out (.inl rfl))
                  have hS6 := hHeld
                  clear happ
                  refine hK.out _ _ ?_ (fun hHeld2 => ?_)
                  · exact hS6
                  clear hK K hHeld
                  have hHeld := hHeld2
                  clear hHeld2 hS6
                  try simp only [Act.put, List.getElem_toArray, List.getElem_cons_zero, List.getElem_cons_succ, List.setIfInBounds_toArray, List.set_cons_zero, List.set_cons_succ]
                  refine wpAnyH_take (i := 8) (oi := _) (v := ?_) rfl (by kernel_rfl) (by kernel_rfl) (by kernel_rfl) (fun _ _ _ h => h) (Or.inl ⟨by rfl, ?_⟩) (by assumption) ?_
                  rotate_left 1
                  · intro w hSw; (try dsimp only at hSw); go_simp; try (with_reducible rfl)
                  try simp only [Act.put, List.getElem_toArray, List.getElem_cons_zero, List.getElem_cons_succ, List.setIfInBounds_toArray, List.set_cons_zero, List.set_cons_succ]
                  refine wpAnyH_take (i := 9) (oi := _) (v := ?_) rfl (by kernel_rfl) (by kernel_rfl) (by kernel_rfl) (fun _ _ _ h => h) (Or.inl ⟨by rfl, ?_⟩) (by assumption) ?_
                  rotate_left 1
                  · intro w hSw; (try dsimp only at hSw); go_simp; try (with_reducible rfl)
                  try simp only [Act.put, List.getElem_toArray, List.getElem_cons_zero, List.getElem_cons_succ, List.setIfInBounds_toArray, List.set_cons_zero, List.set_cons_succ]
                  refine wpAnyH_done (by kernel_rfl) ?_ _
                  go_wp2_with fail
                  exact ⟨⟨k - 1, [] ++ [(lo, hi)], [(lo, hi)], inn, rfl, rfl, by omega, by simp at hk4 ⊢; omega, HBR2, HS, Lib.hid (fun h => by simp at h), HLE2, HIN2⟩, by simp [intOf]; omega⟩
                exact AllReadyH.nil
              exact AllReadyH.nil
            exact AllReadyH.nil
          exact AllReadyH.nil
        · have hLn : 0 < L.length := List.length_pos_iff.2 hemp
          obtain ⟨gb, cb', hq, _, _⟩ := HS.out.oB.form (by have := HBL.out; omega)
          injection hq with hq1 _ hq3
          subst hq1 hq3
          clear HBR HNI hemp
          refine wp_region_held_drew (S := (fun w' => w'.cell? ⟨n11, 0, none⟩ = some (.int .i64 lo) ∧ w'.cell? ⟨n11, 1, none⟩ = some (.int .i64 hi))) (by kernel_rfl) ?_ (fun hHeld => ?_)
          · exact hS0
          clear hS0
          generalize wc.drew = g0 at *
          refine wpAnyH_take (i := 0) (oi := _) (v := ?_) rfl (by kernel_rfl) (by kernel_rfl) (by kernel_rfl) (fun _ _ _ h => h) (Or.inl ⟨by rfl, ?_⟩) (by assumption) ?_
          rotate_left 1
          · intro w hSw; (try dsimp only at hSw); go_simp; try (with_reducible rfl)
          try simp only [Act.put, List.getElem_toArray, List.getElem_cons_zero, List.setIfInBounds_toArray, List.set_cons_zero, List.set_cons_succ]
          refine wpAnyH_take (i := 1) (oi := _) (v := ?_) rfl (by kernel_rfl) (by kernel_rfl) (by kernel_rfl) (fun _ _ _ h => h) (Or.inl ⟨by rfl, ?_⟩) (by assumption) ?_
          rotate_left 1
          · intro w hSw; (try dsimp only at hSw); go_simp; try (with_reducible rfl)
          try simp only [Act.put, List.getElem_toArray, List.getElem_cons_zero, List.getElem_cons_succ, List.setIfInBounds_toArray, List.set_cons_zero, List.set_cons_succ]
          refine wpAnyH_take (i := 4) (oi := _) (v := ?_) rfl (by kernel_rfl) (by kernel_rfl) (by kernel_rfl) (fun _ _ _ h => h) (Or.inl ⟨by rfl, ?_⟩) (by assumption) ?_
          rotate_left 1
          · intro w hSw; (try dsimp only at hSw); go_simp; try (with_reducible rfl)
          try simp only [Act.put, List.getElem_toArray, List.getElem_cons_zero, List.getElem_cons_succ, List.setIfInBounds_toArray, List.set_cons_zero, List.set_cons_succ]
          refine wpAnyH_take (i := 6) (oi := _) (v := ?_) rfl (by kernel_rfl) (by kernel_rfl) (by kernel_rfl) (fun _ _ _ h => h) (Or.inl ⟨by rfl, ?_⟩) (by assumption) ?_
          rotate_left 1
          · intro w hSw; (try dsimp only at hSw); go_simp; try (with_reducible rfl)
          try simp only [Act.put, List.getElem_toArray, List.getElem_cons_zero, List.getElem_cons_succ, List.setIfInBounds_toArray, List.set_cons_zero, List.set_cons_succ]
          refine wpAnyH_ready (rs := [2, 5]) (by kernel_rfl) (by simp) ?_
          refine AllReadyH.cons (o := _) rfl (fun K hK => ?_) ?_
          · go_simp
            have gA := gb_alloc (gb_refl g0 none) (.cells #[.int .i64 lo, .int .i64 hi] 29)
            have hbs : b < g0.heap.size := by obtain ⟨_, cc⟩ := HS.out.cd; exact cc.lt
            have KA := Lib.hid (Bk.new g0 #[.int .i64 lo, .int .i64 hi] 29)
            have HS := Lib.hid (HS.out.by_ gA)
            have K11 := Lib.hid (K11.out.of gA (by simp))
            have hS6 := And.intro (K11.out.cell 0) (K11.out.cell 1)
            clear gA hbs
            refine hK.out _ _ ?_ (fun hHeld2 => ?_)
            · exact hS6
            clear hK K hHeld
            have hHeld := hHeld2
            clear hHeld2 hS6
            try simp only [Act.put, List.getElem_toArray, List.getElem_cons_zero, List.getElem_cons_succ, List.setIfInBounds_toArray, List.set_cons_zero, List.set_cons_succ]
            generalize g0.alloc _ = g12 at *
            generalize g0.heap.size = nA at *
            refine wpAnyH_ready (rs := [3, 5]) (by kernel_rfl) (by simp) ?_
            refine AllReadyH.cons (o := _) rfl (fun K hK => ?_) ?_
            · have hbs : b + 1 ≤ g12.heap.size := by obtain ⟨_, cc⟩ := HS.out.cd; exact cc.lt
              refine step_append_lies _ (by rfl) _ _ 63 (by rfl) (b + 1) 29 ie _ 2 16 Try.underlying63 hie hie1 hie2 hie3 rfl (by omega) (Value.slice la L.length lcp) L.length (L.flatMap spL) (by rfl) HS.out.oL ⟨nA, 0, none⟩ 1 1 (spL (lo, hi)) (by rfl) rfl (World.news_of_block KA.out) (spL_one (lo, hi)) (by omega) (by simp [maxLen]; try omega) (by omega) hbs _ rfl ?_
              intro bA capA g13 hown hgrow hat hltt
              have K11 := Lib.hid (K11.out.of hgrow HNE.out)
              have HS := Lib.hid (MtS.addA HS.out (lo, hi) hown hgrow hat)
              have hS6 := And.intro (K11.out.cell 0) (K11.out.cell 1)
              clear hown hgrow hat hbs
              refine hK.out _ _ ?_ (fun hHeld2 => ?_)
              · exact hS6
              clear hK K hHeld
              have hHeld := hHeld2
              clear hHeld2 hS6
              try simp only [Act.put, List.getElem_toArray, List.getElem_cons_zero, List.getElem_cons_succ, List.setIfInBounds_toArray, List.set_cons_zero, List.set_cons_succ]
              refine wpAnyH_ready (rs := [5]) (by kernel_rfl) (by simp) ?_
              refine AllReadyH.cons (o := _) rfl (fun K hK => ?_) ?_
              · go_simp
                have gA := gb_alloc (gb_refl g13 none) (.cells #[.int .i64 lo, .int .i64 hi] 29)
                have hbs : b < g13.heap.size := by obtain ⟨_, cc⟩ := HS.out.cd; exact cc.lt
                have HLB := Lib.hid (show (Value.slice (some ⟨bA, 0, none⟩) (L.length + 1) capA).ownBlock ≠ some g13.heap.size from fun e => by have := (HS.out.oL.lt _ e).2; omega)
                have RB := Lib.hid (own_one (p := (lo, hi)) (Bk.new g13 #[.int .i64 lo, .int .i64 hi] 29) hbs)
                have HBN := Lib.hid hbs
                have HNB := Lib.hid (show g13.heap.size ≠ n11 from Nat.ne_of_gt K11.out.lt)
                have HS := Lib.hid (HS.out.by_ gA)
                have K11 := Lib.hid (K11.out.of gA (by simp))
                have hS6 := And.intro (K11.out.cell 0) (K11.out.cell 1)
                clear gA hbs
                refine hK.out _ _ ?_ (fun hHeld2 => ?_)
                · exact hS6
                clear hK K hHeld
                have hHeld := hHeld2
                clear hHeld2 hS6
                try simp only [Act.put, List.getElem_toArray, List.getElem_cons_zero, List.getElem_cons_succ, List.setIfInBounds_toArray, List.set_cons_zero, List.set_cons_succ]
                generalize g13.alloc _ = g14 at *
                generalize g13.heap.size = nB at *
                refine wpAnyH_ready (rs := [7]) (by kernel_rfl) (by simp) ?_
                refine AllReadyH.cons (o := _) rfl (fun K hK => ?_) ?_
                · have hbs : b + 1 ≤ g14.heap.size := by obtain ⟨_, cc⟩ := HS.out.cd; exact cc.lt
                  refine step_append_lies _ (by rfl) _ _ 63 (by rfl) (b + 1) 29 ie _ 2 16 Try.underlying63 hie hie1 hie2 hie3 rfl (by omega) (.slice (some ⟨nB, 0, none⟩) 1 1) 1 (spL (lo, hi)) (by rfl) RB.out ⟨gb, 0, none⟩ B.length bcp (B.flatMap spL) (by rfl) HS.out.oB.1 (HS.out.oB.cells rfl) (spLs_one B) (by have := HBL.out; omega) (by have := HBL.out; simp [maxLen]; omega) (by have := HBL.out; omega) hbs _ rfl ?_
                  intro gB capB g15 hown hgrow hat hltt
                  have K11 := Lib.hid (K11.out.of hgrow (by simpa [Value.ownBlock] using HNB.out))
                  have HS := Lib.hid (MtS.addB HS.out (lo, hi) (nB := nB) (g := gB) rfl hown hgrow HBN.out HLB.out (by rcases hat with h | h; exact .inl (by simpa [Value.ownBlock] using h); exact .inr h))
                  have hS6 := And.intro (K11.out.cell 0) (K11.out.cell 1)
                  clear hown hgrow hat hbs
                  refine hK.out _ _ ?_ (fun hHeld2 => ?_)
                  · exact hS6
                  clear hK K hHeld
                  have hHeld := hHeld2
                  clear hHeld2 hS6
                  try simp only [Act.put, List.getElem_toArray, List.getElem_cons_zero, List.getElem_cons_succ, List.setIfInBounds_toArray, List.set_cons_zero, List.set_cons_succ]
                  refine wpAnyH_take (i := 8) (oi := _) (v := ?_) rfl (by kernel_rfl) (by kernel_rfl) (by kernel_rfl) (fun _ _ _ h => h) (Or.inl ⟨by rfl, ?_⟩) (by assumption) ?_
                  rotate_left 1
                  · intro w hSw; (try dsimp only at hSw); go_simp; try (with_reducible rfl)
                  try simp only [Act.put, List.getElem_toArray, List.getElem_cons_zero, List.getElem_cons_succ, List.setIfInBounds_toArray, List.set_cons_zero, List.set_cons_succ]
                  refine wpAnyH_take (i := 9) (oi := _) (v := ?_) rfl (by kernel_rfl) (by kernel_rfl) (by kernel_rfl) (fun _ _ _ h => h) (Or.inl ⟨by rfl, ?_⟩) (by assumption) ?_
                  rotate_left 1
                  · intro w hSw; (try dsimp only at hSw); go_simp; try (with_reducible rfl)
                  try simp only [Act.put, List.getElem_toArray, List.getElem_cons_zero, List.getElem_cons_succ, List.setIfInBounds_toArray, List.set_cons_zero, List.set_cons_succ]
                  refine wpAnyH_done (by kernel_rfl) ?_ _
                  go_wp2_with fail
                  exact ⟨⟨k - 1, L ++ [(lo, hi)], (lo, hi) :: B, inn, rfl, rfl, by omega, by simp; omega, HBR2, HS, Lib.hid (fun h => by simp at h), HLE2, HIN2⟩, by simp [intOf]; omega⟩
                exact AllReadyH.nil
              exact AllReadyH.nil
            refine AllReadyH.cons (o := _) rfl (fun K hK => ?_) ?_
            · go_simp
              have gA := gb_alloc (gb_refl g12 none) (.cells #[.int .i64 lo, .int .i64 hi] 29)
              have hbs : b < g12.heap.size := by obtain ⟨_, cc⟩ := HS.out.cd; exact cc.lt
              have HLB := Lib.hid (show (Value.slice la L.length lcp).ownBlock ≠ some g12.heap.size from fun e => by have := (HS.out.oL.lt _ e).2; omega)
              have RB := Lib.hid (own_one (p := (lo, hi)) (Bk.new g12 #[.int .i64 lo, .int .i64 hi] 29) hbs)
              have HBN := Lib.hid hbs
              have HNB := Lib.hid (show g12.heap.size ≠ n11 from Nat.ne_of_gt K11.out.lt)
              have KA := Lib.hid (KA.out.of gA (by simp))
              have HS := Lib.hid (HS.out.by_ gA)
              have K11 := Lib.hid (K11.out.of gA (by simp))
              have hS6 := And.intro (K11.out.cell 0) (K11.out.cell 1)
              clear gA hbs
              refine hK.out _ _ ?_ (fun hHeld2 => ?_)
              · exact hS6
              clear hK K hHeld
              have hHeld := hHeld2
              clear hHeld2 hS6
              try simp only [Act.put, List.getElem_toArray, List.getElem_cons_zero, List.getElem_cons_succ, List.setIfInBounds_toArray, List.set_cons_zero, List.set_cons_succ]
              generalize g12.alloc _ = g16 at *
              generalize g12.heap.size = nB at *
              refine wpAnyH_ready (rs := [3]) (by kernel_rfl) (by simp) ?_
              refine AllReadyH.cons (o := _) rfl (fun K hK => ?_) ?_
              · have hbs : b + 1 ≤ g16.heap.size := by obtain ⟨_, cc⟩ := HS.out.cd; exact cc.lt
                refine step_append_lies _ (by rfl) _ _ 63 (by rfl) (b + 1) 29 ie _ 2 16 Try.underlying63 hie hie1 hie2 hie3 rfl (by omega) (Value.slice la L.length lcp) L.length (L.flatMap spL) (by rfl) HS.out.oL ⟨nA, 0, none⟩ 1 1 (spL (lo, hi)) (by rfl) rfl (World.news_of_block KA.out) (spL_one (lo, hi)) (by omega) (by simp [maxLen]; try omega) (by omega) hbs _ rfl ?_
                intro bA capA g17 hown hgrow hat hltt
                have HLB2 := Lib.hid (show (Value.slice (some ⟨bA, 0, none⟩) (L.length + 1) capA).ownBlock ≠ some nB from fun e => by
                  have e : bA = nB := by simpa [Value.ownBlock] using e
                  rcases hat with h | h
                  · exact HLB.out (by rw [h, e])
                  · have := (RB.out.lt nB rfl).2; omega)
                have RB := Lib.hid (RB.out.kept hgrow (.inr (fun e => HLB.out e.symm)))
                clear HLB
                have HLB := HLB2
                clear HLB2
                have K11 := Lib.hid (K11.out.of hgrow HNE.out)
                have HS := Lib.hid (MtS.addA HS.out (lo, hi) hown hgrow hat)
                have hS6 := And.intro (K11.out.cell 0) (K11.out.cell 1)
                clear hown hgrow hat hbs
                refine hK.out _ _ ?_ (fun hHeld2 => ?_)
                · exact hS6
                clear hK K hHeld
                have hHeld := hHeld2
                clear hHeld2 hS6
                try simp only [Act.put, List.getElem_toArray, List.getElem_cons_zero, List.getElem_cons_succ, List.setIfInBounds_toArray, List.set_cons_zero, List.set_cons_succ]
                refine wpAnyH_ready (rs := [7]) (by kernel_rfl) (by simp) ?_
                refine AllReadyH.cons (o := _) rfl (fun K hK => ?_) ?_
                · have hbs : b + 1 ≤ g17.heap.size := by obtain ⟨_, cc⟩ := HS.out.cd; exact cc.lt
                  refine step_append_lies _ (by rfl) _ _ 63 (by rfl) (b + 1) 29 ie _ 2 16 Try.underlying63 hie hie1 hie2 hie3 rfl (by omega) (.slice (some ⟨nB, 0, none⟩) 1 1) 1 (spL (lo, hi)) (by rfl) RB.out ⟨gb, 0, none⟩ B.length bcp (B.flatMap spL) (by rfl) HS.out.oB.1 (HS.out.oB.cells rfl) (spLs_one B) (by have := HBL.out; omega) (by have := HBL.out; simp [maxLen]; omega) (by have := HBL.out; omega) hbs _ rfl ?_
                  intro gB capB g18 hown hgrow hat hltt
                  have K11 := Lib.hid (K11.out.of hgrow (by simpa [Value.ownBlock] using HNB.out))
                  have HS := Lib.hid (MtS.addB HS.out (lo, hi) (nB := nB) (g := gB) rfl hown hgrow HBN.out HLB.out (by rcases hat with h | h; exact .inl (by simpa [Value.ownBlock] using h); exact .inr h))
                  have hS6 := And.intro (K11.out.cell 0) (K11.out.cell 1)
                  clear hown hgrow hat hbs
                  refine hK.out _ _ ?_ (fun hHeld2 => ?_)
                  · exact hS6
                  clear hK K hHeld
                  have hHeld := hHeld2
                  clear hHeld2 hS6
                  try simp only [Act.put, List.getElem_toArray, List.getElem_cons_zero, List.getElem_cons_succ, List.setIfInBounds_toArray, List.set_cons_zero, List.set_cons_succ]
                  refine wpAnyH_take (i := 8) (oi := _) (v := ?_) rfl (by kernel_rfl) (by kernel_rfl) (by kernel_rfl) (fun _ _ _ h => h) (Or.inl ⟨by rfl, ?_⟩) (by assumption) ?_
                  rotate_left 1
                  · intro w hSw; (try dsimp only at hSw); go_simp; try (with_reducible rfl)
                  try simp only [Act.put, List.getElem_toArray, List.getElem_cons_zero, List.getElem_cons_succ, List.setIfInBounds_toArray, List.set_cons_zero, List.set_cons_succ]
                  refine wpAnyH_take (i := 9) (oi := _) (v := ?_) rfl (by kernel_rfl) (by kernel_rfl) (by kernel_rfl) (fun _ _ _ h => h) (Or.inl ⟨by rfl, ?_⟩) (by assumption) ?_
                  rotate_left 1
                  · intro w hSw; (try dsimp only at hSw); go_simp; try (with_reducible rfl)
                  try simp only [Act.put, List.getElem_toArray, List.getElem_cons_zero, List.getElem_cons_succ, List.setIfInBounds_toArray, List.set_cons_zero, List.set_cons_succ]
                  refine wpAnyH_done (by kernel_rfl) ?_ _
                  go_wp2_with fail
                  exact ⟨⟨k - 1, L ++ [(lo, hi)], (lo, hi) :: B, inn, rfl, rfl, by omega, by simp; omega, HBR2, HS, Lib.hid (fun h => by simp at h), HLE2, HIN2⟩, by simp [intOf]; omega⟩
                exact AllReadyH.nil
              exact AllReadyH.nil
            exact AllReadyH.nil
          refine AllReadyH.cons (o := _) rfl (fun K hK => ?_) ?_
          · go_simp
            have gA := gb_alloc (gb_refl g0 none) (.cells #[.int .i64 lo, .int .i64 hi] 29)
            have hbs : b < g0.heap.size := by obtain ⟨_, cc⟩ := HS.out.cd; exact cc.lt
            have HLB := Lib.hid (show (Value.slice la L.length lcp).ownBlock ≠ some g0.heap.size from fun e => by have := (HS.out.oL.lt _ e).2; omega)
            have RB := Lib.hid (own_one (p := (lo, hi)) (Bk.new g0 #[.int .i64 lo, .int .i64 hi] 29) hbs)
            have HBN := Lib.hid hbs
            have HNB := Lib.hid (show g0.heap.size ≠ n11 from Nat.ne_of_gt K11.out.lt)
            have HS := Lib.hid (HS.out.by_ gA)
            have K11 := Lib.hid (K11.out.of gA (by simp))
            have hS6 := And.intro (K11.out.cell 0) (K11.out.cell 1)
            clear gA hbs
            refine hK.out _ _ ?_ (fun hHeld2 => ?_)
            · exact hS6
            clear hK K hHeld
            have hHeld := hHeld2
            clear hHeld2 hS6
            try simp only [Act.put, List.getElem_toArray, List.getElem_cons_zero, List.getElem_cons_succ, List.setIfInBounds_toArray, List.set_cons_zero, List.set_cons_succ]
            generalize g0.alloc _ = g19 at *
            generalize g0.heap.size = nB at *
            refine wpAnyH_ready (rs := [2]) (by kernel_rfl) (by simp) ?_
            refine AllReadyH.cons (o := _) rfl (fun K hK => ?_) ?_
            · go_simp
              have gA := gb_alloc (gb_refl g19 none) (.cells #[.int .i64 lo, .int .i64 hi] 29)
              have hbs : b < g19.heap.size := by obtain ⟨_, cc⟩ := HS.out.cd; exact cc.lt
              have RB := Lib.hid (own_by RB.out gA)
              have KA := Lib.hid (Bk.new g19 #[.int .i64 lo, .int .i64 hi] 29)
              have HS := Lib.hid (HS.out.by_ gA)
              have K11 := Lib.hid (K11.out.of gA (by simp))
              have hS6 := And.intro (K11.out.cell 0) (K11.out.cell 1)
              clear gA hbs
              refine hK.out _ _ ?_ (fun hHeld2 => ?_)
              · exact hS6
              clear hK K hHeld
              have hHeld := hHeld2
              clear hHeld2 hS6
              try simp only [Act.put, List.getElem_toArray, List.getElem_cons_zero, List.getElem_cons_succ, List.setIfInBounds_toArray, List.set_cons_zero, List.set_cons_succ]
              generalize g19.alloc _ = g20 at *
              generalize g19.heap.size = nA at *
              refine wpAnyH_ready (rs := [3]) (by kernel_rfl) (by simp) ?_
              refine AllReadyH.cons (o := _) rfl (fun K hK => ?_) ?_
              · have hbs : b + 1 ≤ g20.heap.size := by obtain ⟨_, cc⟩ := HS.out.cd; exact cc.lt
                refine step_append_lies _ (by rfl) _ _ 63 (by rfl) (b + 1) 29 ie _ 2 16 Try.underlying63 hie hie1 hie2 hie3 rfl (by omega) (Value.slice la L.length lcp) L.length (L.flatMap spL) (by rfl) HS.out.oL ⟨nA, 0, none⟩ 1 1 (spL (lo, hi)) (by rfl) rfl (World.news_of_block KA.out) (spL_one (lo, hi)) (by omega) (by simp [maxLen]; try omega) (by omega) hbs _ rfl ?_
                intro bA capA g21 hown hgrow hat hltt
                have HLB2 := Lib.hid (show (Value.slice (some ⟨bA, 0, none⟩) (L.length + 1) capA).ownBlock ≠ some nB from fun e => by
                  have e : bA = nB := by simpa [Value.ownBlock] using e
                  rcases hat with h | h
                  · exact HLB.out (by rw [h, e])
                  · have := (RB.out.lt nB rfl).2; omega)
                have RB := Lib.hid (RB.out.kept hgrow (.inr (fun e => HLB.out e.symm)))
                clear HLB
                have HLB := HLB2
                clear HLB2
                have K11 := Lib.hid (K11.out.of hgrow HNE.out)
                have HS := Lib.hid (MtS.addA HS.out (lo, hi) hown hgrow hat)
                have hS6 := And.intro (K11.out.cell 0) (K11.out.cell 1)
                clear hown hgrow hat hbs
                refine hK.out _ _ ?_ (fun hHeld2 => ?_)
                · exact hS6
                clear hK K hHeld
                have hHeld := hHeld2
                clear hHeld2 hS6
                try simp only [Act.put, List.getElem_toArray, List.getElem_cons_zero, List.getElem_cons_succ, List.setIfInBounds_toArray, List.set_cons_zero, List.set_cons_succ]
                refine wpAnyH_ready (rs := [7]) (by kernel_rfl) (by simp) ?_
                refine AllReadyH.cons (o := _) rfl (fun K hK => ?_) ?_
                · have hbs : b + 1 ≤ g21.heap.size := by obtain ⟨_, cc⟩ := HS.out.cd; exact cc.lt
                  refine step_append_lies _ (by rfl) _ _ 63 (by rfl) (b + 1) 29 ie _ 2 16 Try.underlying63 hie hie1 hie2 hie3 rfl (by omega) (.slice (some ⟨nB, 0, none⟩) 1 1) 1 (spL (lo, hi)) (by rfl) RB.out ⟨gb, 0, none⟩ B.length bcp (B.flatMap spL) (by rfl) HS.out.oB.1 (HS.out.oB.cells rfl) (spLs_one B) (by have := HBL.out; omega) (by have := HBL.out; simp [maxLen]; omega) (by have := HBL.out; omega) hbs _ rfl ?_
                  intro gB capB g22 hown hgrow hat hltt
                  have K11 := Lib.hid (K11.out.of hgrow (by simpa [Value.ownBlock] using HNB.out))
                  have HS := Lib.hid (MtS.addB HS.out (lo, hi) (nB := nB) (g := gB) rfl hown hgrow HBN.out HLB.out (by rcases hat with h | h; exact .inl (by simpa [Value.ownBlock] using h); exact .inr h))
                  have hS6 := And.intro (K11.out.cell 0) (K11.out.cell 1)
                  clear hown hgrow hat hbs
                  refine hK.out _ _ ?_ (fun hHeld2 => ?_)
                  · exact hS6
                  clear hK K hHeld
                  have hHeld := hHeld2
                  clear hHeld2 hS6
                  try simp only [Act.put, List.getElem_toArray, List.getElem_cons_zero, List.getElem_cons_succ, List.setIfInBounds_toArray, List.set_cons_zero, List.set_cons_succ]
                  refine wpAnyH_take (i := 8) (oi := _) (v := ?_) rfl (by kernel_rfl) (by kernel_rfl) (by kernel_rfl) (fun _ _ _ h => h) (Or.inl ⟨by rfl, ?_⟩) (by assumption) ?_
                  rotate_left 1
                  · intro w hSw; (try dsimp only at hSw); go_simp; try (with_reducible rfl)
                  try simp only [Act.put, List.getElem_toArray, List.getElem_cons_zero, List.getElem_cons_succ, List.setIfInBounds_toArray, List.set_cons_zero, List.set_cons_succ]
                  refine wpAnyH_take (i := 9) (oi := _) (v := ?_) rfl (by kernel_rfl) (by kernel_rfl) (by kernel_rfl) (fun _ _ _ h => h) (Or.inl ⟨by rfl, ?_⟩) (by assumption) ?_
                  rotate_left 1
                  · intro w hSw; (try dsimp only at hSw); go_simp; try (with_reducible rfl)
                  try simp only [Act.put, List.getElem_toArray, List.getElem_cons_zero, List.getElem_cons_succ, List.setIfInBounds_toArray, List.set_cons_zero, List.set_cons_succ]
                  refine wpAnyH_done (by kernel_rfl) ?_ _
                  go_wp2_with fail
                  exact ⟨⟨k - 1, L ++ [(lo, hi)], (lo, hi) :: B, inn, rfl, rfl, by omega, by simp; omega, HBR2, HS, Lib.hid (fun h => by simp at h), HLE2, HIN2⟩, by simp [intOf]; omega⟩
                exact AllReadyH.nil
              exact AllReadyH.nil
            exact AllReadyH.nil
          exact AllReadyH.nil
    · have hlt' : decide (0 < k) = false := by simpa using hlt
      obtain ⟨la, lcp, hlv⟩ := own_slc HS.out.oL
      obtain ⟨ba, bcp, hbv⟩ := own_slc HS.out.oB
      subst hlv hbv
      have HM1 := Lib.hid (⟨own_sl HS.out.oL, own_sl HS.out.oB, HS.out.g⟩ : M2S w (.slice la L.length lcp) (.slice ba B.length bcp) L B wr)
      have hmem : ∀ p, p ∈ L ↔ p ∈ B := fun p => by rw [HBR.out]; simp
      have hms := meet_same hmem
      have hhs := hull_same HLE.out hmem
      have hmi := meet_in (L := L) HVB.out
      have hhh := hull_has HLE.out
      obtain ⟨mm, hmm⟩ : ∃ mm, meetSp L = mm := ⟨_, rfl⟩
      obtain ⟨⟨x, y⟩, ok⟩ := mm
      obtain ⟨hu, hhu⟩ : ∃ hu, hullSp L = hu := ⟨_, rfl⟩
      obtain ⟨u, vv⟩ := hu
      rw [hmm] at hms hmi
      rw [hhu] at hhs hhh
      dsimp only at hmi hhh
      have HMM := Lib.hid hmm
      have HMS := Lib.hid hms.symm
      have HHU := Lib.hid hhu
      have HHS := Lib.hid hhs.symm
      have HMI := Lib.hid hmi
      have HHH := Lib.hid hhh
      clear hmem hms hhs hmi hhh hmm hhu HS HBR HNI HLE HBL
      have HP := Lib.hid (pMeet_any _ L _ HM1.out.sl)
      rw [HMM.out] at HP
      dsimp only at HP
      go_wp2_with fail
      refine HP.out.mono ?_
      rintro e V1 ⟨rfl, hg⟩
      have g2 := gb_alloc hg (.cells #[.int .i64 x, .int .i64 y] 29)
      have HM2 := Lib.hid (HM1.out.by_ g2)
      have HX2 := Lib.hid (Bk.new V1 #[.int .i64 x, .int .i64 y] 29)
      clear hg g2 HP HM1
      go_upto_region 12 with fail
      generalize V1.alloc _ = V2 at *
      generalize V1.heap.size = n12 at *
      have HQ := Lib.hid (pMeet_any _ B _ HM2.out.sb)
      rw [HMS.out] at HQ
      dsimp only at HQ
      go_wp2_with fail
      refine HQ.out.mono ?_
      rintro e V3 ⟨rfl, hg⟩
      have g4 := gb_alloc hg (.cells #[.int .i64 x, .int .i64 y] 29)
      have HM4 := Lib.hid (HM2.out.by_ g4)
      have HX4 := Lib.hid (HX2.out.of g4 (by simp))
      have HY4 := Lib.hid (Bk.new V3 #[.int .i64 x, .int .i64 y] 29)
      clear hg g4 HQ HM2 HX2
      go_upto_region 13 with fail
      generalize V3.alloc _ = V4 at *
      generalize V3.heap.size = n14 at *
      go_cut [101] from 24 to 101 (fun q wx => q = .bool false ∧ M2S w (.slice la L.length lcp) (.slice ba B.length bcp) L B wx)
      case first =>
        have x0 : V4.cell? ⟨n12, 0, none⟩ = some (.int .i64 x) := HX4.out.cell 0
        have x1 : V4.cell? ⟨n12, 1, none⟩ = some (.int .i64 y) := HX4.out.cell 1
        have y0 : V4.cell? ⟨n14, 0, none⟩ = some (.int .i64 x) := HY4.out.cell 0
        have y1 : V4.cell? ⟨n14, 1, none⟩ = some (.int .i64 y) := HY4.out.cell 1
        have b1 : (x == x) = true := by simp
        have b2 : (y == y) = true := by simp
        have b3 : (ok == ok) = true := by simp
        have HH := Lib.hid (pHull_any _ L _ HM4.out.sl)
        rw [HHU.out] at HH
        dsimp only at HH
        go_wp2_with fail
        refine HH.out.mono ?_
        rintro e V5 ⟨rfl, hg⟩
        have HM5 := Lib.hid (HM4.out.by_ hg)
        have HX5 := Lib.hid (HX4.out.of hg (by simp))
        clear hg HM4 HX4 HY4 x0 x1 y0 y1 HH
        have HJ := Lib.hid (pHull_any _ B _ HM5.out.sb)
        rw [HHS.out] at HJ
        dsimp only at HJ
        have b4 : (u == u) = true := by simp
        have b5 : (vv == vv) = true := by simp
        go_wp2_with fail
        refine HJ.out.mono ?_
        rintro e V6 ⟨rfl, hg⟩
        have HM9 := Lib.hid (HM5.out.by_ hg)
        have HX9 := Lib.hid (HX5.out.of hg (by simp))
        clear hg HM5 HX5 HJ
        have x0 : V6.cell? ⟨n12, 0, none⟩ = some (.int .i64 x) := HX9.out.cell 0
        have x1 : V6.cell? ⟨n12, 1, none⟩ = some (.int .i64 y) := HX9.out.cell 1
        cases ok with
        | false =>
          have hi : inb = false := by
            cases hq : inb with
            | false => rfl
            | true => exact absurd (HIN.out.1 hq) (HMI.out.2 rfl)
          subst hi
          clear HIN HMI HMM HMS
          go_wp2_with fail
          go_meet
          exact ⟨rfl, HM9.out⟩
        | true =>
          have hiff := (HIN.out).trans (HMI.out.1 rfl)
          clear HIN HMI HMM HMS
          by_cases d1 : x ≤ vm
          · have d1' : decide (x ≤ vm) = true := by simpa using d1
            by_cases d2 : vm ≤ y
            · have d2' : decide (vm ≤ y) = true := by simpa using d2
              have hi : inb = true := hiff.2 ⟨d1, d2⟩
              subst hi
              clear hiff
              go_wp2_with fail
              go_meet
              exact ⟨rfl, HM9.out⟩
            · have d2' : decide (vm ≤ y) = false := by simpa using d2
              have hi : inb = false := by
                cases hq : inb with
                | false => rfl
                | true => exact absurd (hiff.1 hq).2 d2
              subst hi
              clear hiff
              go_wp2_with fail
              go_meet
              exact ⟨rfl, HM9.out⟩
          · have d1' : decide (x ≤ vm) = false := by simpa using d1
            have hi : inb = false := by
              cases hq : inb with
              | false => rfl
              | true => exact absurd (hiff.1 hq).1 d1
            subst hi
            clear hiff
            go_wp2_with fail
            go_meet
            exact ⟨rfl, HM9.out⟩
      case rest =>
        obtain ⟨rfl, hm⟩ := hcut
        have HM9 := Lib.hid hm
        clear hm HM4 HX4 HY4 HMM HMS HMI HIN HHS
        have HH := Lib.hid (pHull_any _ L _ HM9.out.sl)
        rw [HHU.out] at HH
        dsimp only at HH
        go_wp2_with fail
        refine HH.out.mono ?_
        rintro e V7 ⟨rfl, hg⟩
        have g8 := gb_alloc hg (.cells #[.int .i64 u, .int .i64 vv] 29)
        have HM8 := Lib.hid (HM9.out.by_ g8)
        have HX8 := Lib.hid (Bk.new V7 #[.int .i64 u, .int .i64 vv] 29)
        clear hg g8 HH HM9 HHU
        go_upto_region 16 with fail
        generalize V7.alloc _ = V8 at *
        generalize V7.heap.size = n16 at *
        go_wp2_with fail
        go_loopw [17] (fun i wr => ∃ k : Nat, k ≤ L.length ∧ i = .int .i64 k ∧ Hid (M2S w (.slice la L.length lcp) (.slice ba B.length bcp) L B wr ∧ Bk wr n16 #[.int .i64 u, .int .i64 vv] 29)) (fun i _ => L.length - (intOf i).toNat)
        case atStart => exact ⟨0, Nat.zero_le _, rfl, Lib.hid ⟨HM8.out, HX8.out⟩⟩
        case round =>
          obtain ⟨k, hk, rfl, HW⟩ := hrel
          clear HM8 HX8
          by_cases hkl : k < L.length
          · obtain ⟨g, off, cap', hv, hcm, e0, e1⟩ := HW.out.1.sl.sp hkl
            injection hv with hv1 _ hv3
            subst hv1 hv3
            have hpm : L.getD k (0, 0) ∈ L := by
              rw [List.getD_eq_getElem?_getD, List.getElem?_eq_getElem hkl]
              exact List.getElem_mem _
            have hcn := HHH.out _ hpm
            obtain ⟨q, hq⟩ : ∃ q, L.getD k (0, 0) = q := ⟨_, rfl⟩
            rw [hq] at e0 e1 hcn
            obtain ⟨qx, qy⟩ := q
            dsimp only at hcn e0 e1
            have i0 : (0 : Int) ≤ (k : Int) := by omega
            have i1 : (k : Int) < (L.length : Int) := by omega
            have i2 : decide ((k : Int) < (L.length : Int)) = true := by simpa using i1
            have d1 : decide (qx < u) = false := by
              have : ¬ qx < u := by omega
              simpa using this
            have d2 : decide (vv < qy) = false := by
              have : ¬ vv < qy := by omega
              simpa using this
            have z0 : wr.cell? ⟨n16, 0, none⟩ = some (.int .i64 u) := HW.out.2.cell 0
            have z1 : wr.cell? ⟨n16, 1, none⟩ = some (.int .i64 vv) := HW.out.2.cell 1
            clear hpm hq hcn
            go_wp2_with fail
            go_quiet (fail)
            have gq := gb_drewN (gb_refl wr none) nq
            have HW2 := Lib.hid (And.intro (HW.out.1.by_ gq) (HW.out.2.of gq (by simp)))
            clear gq z0 z1 e0 e1 HW
            generalize wr.drewN nq = W30 at *
            go_wp2_with fail
            exact ⟨⟨k + 1, by omega, by go_num, HW2⟩, by simp [intOf]; omega⟩
          · obtain rfl : k = L.length := by omega
            have i2 : decide ((L.length : Int) < (L.length : Int)) = false := by simp
            go_wp2_with fail
            refine (awake6_any _).mono ?_
            rintro e W31 ⟨rfl, hg⟩
            go_wp2_with fail
            go_ret
            exact ⟨rfl, gb_none HW.out.1.g hg⟩
end Go.Proofs.Ytackckljldpldaa
