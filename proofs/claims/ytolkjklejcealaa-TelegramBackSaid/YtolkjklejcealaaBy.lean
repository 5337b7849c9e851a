/- Drawn bytes: telegrams, damaged ones, others between them. -/
import Derived.Test.YtolkjklejcealaaAk
namespace Go.Proofs.Ytolkjklejcealaa
open Go.RowKit
attribute [local go_sem ↓] Go.wp_at_zero Go.wp_at_succ

theorem wrFr_ok (f : Fr) (h1 : 0 ≤ f.addr ∧ f.addr ≤ 255) (h2 : 0 ≤ f.kind ∧ f.kind ≤ 255) (h3 : f.data.length ≤ 64) : (wrFr f).2 = 0 ∧ (wrFr f).1.length = 6 + f.data.length ∧
    (wrFr f).1 = [126, f.data.length, f.addr.toNat, f.kind.toNat] ++ f.data ++ crc2 (crcOf 65535 ([f.data.length, f.addr.toNat, f.kind.toNat] ++ f.data)) := by
  unfold wrFr
  rw [if_neg (by omega), if_neg (by omega)]
  refine ⟨rfl, ?_, rfl⟩
  simp [crc2]
  omega
theorem bits_u8 (a b : Int) : ∃ y : Nat, bits .xor .u8 a b = (y : Int) ∧ y < 256 := by
  have h : ∀ n : Int, ∃ y : Nat, IntKind.u8.wrap n = (y : Int) ∧ y < 256 := fun n => ⟨(n % 256).toNat, by rw [IntKind.wrap_u8]; omega, by omega⟩
  unfold bits
  exact h _
theorem set_bytes (l : List Nat) (j y : Nat) : (bytes l).set j (.int .u8 y) = bytes (l.set j y) := by
  simp [bytes, List.map_set]
theorem own_pre {W : World} {base g n cap k : Nat} {l : List Nat} (h : W.ownsRow base 5 1 (.slice (some ⟨g, 0, none⟩) n cap) n (bytes l)) (hl : l.length = n) (hk : k ≤ n) : Sl W (.slice (some ⟨g, 0, none⟩) k cap) 1 (l.take k).length (bytes (l.take k)) := by
  subst hl
  obtain ⟨h1, h2⟩ := own_cap h
  have := sl_sub (own_sl h) 0 k cap (by omega) (by omega) h2
  rwa [List.drop_zero] at this

/-- While bytes are drawn. -/
structure ByS (w : World) (b : Nat) (lc : List Nat) (ov : Value) (lo : List Nat) (W : World) : Prop where
  cd : ∃ j, CdAt W b lc j
  o : W.ownsRow w.heap.size 5 1 ov lo.length (bytes lo)
  g : w.grownBy W (some b)
  lt : b < w.heap.size
theorem ByS.draw {w : World} {b : Nat} {lc : List Nat} {ov : Value} {lo : List Nat} {W W' : World} (h : ByS w b lc ov lo W) (c : ∃ j, CdAt W' b lc j) (o : W.grownBy W' (some b)) : ByS w b lc ov lo W' :=
  ⟨c, h.o.kept o (.inr fun e => by have := own_base h.o _ e; have := h.lt; omega), gb_same h.g o, h.lt⟩
theorem ByS.by_ {w : World} {b : Nat} {lc : List Nat} {ov : Value} {lo : List Nat} {W W' : World} (h : ByS w b lc ov lo W) (o : W.grownBy W' none) : ByS w b lc ov lo W' :=
  let ⟨j, c⟩ := h.cd
  ⟨⟨j, c.keep o (fun g e => by cases e)⟩, own_by h.o o, gb_none h.g o, h.lt⟩
theorem ByS.app {w : World} {b : Nat} {lc : List Nat} {ov ov' : Value} {lo lo' : List Nat} {W W' : World} (h : ByS w b lc ov lo W) (o : W.grownBy W' ov.ownBlock) (ho : W'.ownsRow w.heap.size 5 1 ov' lo'.length (bytes lo')) : ByS w b lc ov' lo' W' :=
  let ⟨j, c⟩ := h.cd
  ⟨⟨j, c.keep o (fun g e => by have := own_base h.o g e; have := h.lt; omega)⟩, ho, gb_call h.g o (fun g e => .inr (own_base h.o g e)), h.lt⟩

theorem own_cell {W : World} {base g n cap j : Nat} {l : List Nat} (h : W.ownsRow base 5 1 (.slice (some ⟨g, 0, none⟩) n cap) n (bytes l)) (hl : l.length = n) (hj : j < n) : W.cell? ⟨g, j, none⟩ = some (.int .u8 (l.getD j 0 : Nat)) := by
  subst hl
  have := sl_cell (own_sl h) j hj
  rwa [Nat.zero_add] at this
theorem own_frozen {W : World} {base g n cap j : Nat} {xs : List Value} (h : W.ownsRow base 5 1 (.slice (some ⟨g, 0, none⟩) n cap) n xs) : W.frozen? ⟨g, j, none⟩ = false := by
  rcases h.2 with ⟨h1, _⟩ | ⟨g', c', cur, hv, _, hg, _⟩
  · cases h1
  · injection hv with hv1
    injection hv1 with hv1
    injection hv1 with hv1
    subst hv1
    exact Bk.frozen (show Bk W g cur _ from hg) j
theorem own_put {W : World} {base g n cap j y : Nat} {l : List Nat} (h : W.ownsRow base 5 1 (.slice (some ⟨g, 0, none⟩) n cap) n (bytes l)) (hj : j < n) : (W.setCell ⟨g, j, none⟩ (.int .u8 (y : Int))).ownsRow base 5 1 (.slice (some ⟨g, 0, none⟩) n cap) n (bytes (l.set j y)) := by
  obtain ⟨g', c', hv, _, _, _, hp⟩ := own_open h (by omega)
  injection hv with hv1
  injection hv1 with hv1
  injection hv1 with hv1
  subst hv1
  rw [← set_bytes]
  exact hp j _ (by omega)
theorem ByS.other {w : World} {b : Nat} {lc : List Nat} {ov : Value} {lo : List Nat} {W W' : World} {g : Nat} (h : ByS w b lc ov lo W) (o : W.grownBy W' (some g)) (hg : w.heap.size ≤ g) (hne : some g ≠ ov.ownBlock) : ByS w b lc ov lo W' :=
  let ⟨j, c⟩ := h.cd
  ⟨⟨j, c.keep o (fun g' e => by injection e with e; have := h.lt; omega)⟩, h.o.kept o (.inr (Ne.symm hne)), gb_new h.g o hg, h.lt⟩

set_option maxRecDepth 100000 in
set_option maxHeartbeats 8000000 in
theorem bytes_any (b m i : Nat) (lc : List Nat) (w : World) (h : CdAt w b lc i) (hm : m ≤ 100) :
    Calls Try.prog 16 #[.pointer (some ⟨b, 0, none⟩), .int .i64 m] w fun e w' => ∃ (v : Value) (l : List Nat), e = .returned v ∧ w'.ownsRow w.heap.size 5 1 v l.length (bytes l) ∧ (∀ x ∈ l, x < 256) ∧ l.length ≤ 10 * m ∧ (∃ j, CdAt w' b lc j) ∧ w.grownBy w' (some b) := by
  obtain ⟨iu, hiu, hiu1, hiu2, hiu3⟩ := info_parts Try.infoU8
  have S0 : ByS w b lc (.slice none 0 0) [] w := ⟨⟨i, h⟩, World.ownsRow_nil _ _ _ _, gb_refl _ _, h.lt⟩
  have HS0 := Lib.hid S0
  clear S0
  go_enter Try.func16, Try.ntmps16
  go_wp2_with fail
  refine (next_ex b lc i ((m : Int) + 1) w h (by omega) (by omega)).mono ?_
  rintro e w1 ⟨v1, j1, rfl, a1, b1, c1, ho⟩
  obtain ⟨k1, rfl⟩ : ∃ k : Nat, v1 = k := ⟨v1.toNat, by omega⟩
  have HS1 := Lib.hid (HS0.out.draw ⟨_, c1⟩ (gb_only ho))
  have hk1 : k1 ≤ m := by omega
  clear HS0 h c1 ho a1 b1
  go_wp2_with fail
  go_loopw [5, 6] (fun ov n wr => ∃ (k : Nat) (lo : List Nat), k ≤ m ∧ n = .int .i64 k ∧ ByS w b lc ov lo wr ∧ (∀ x ∈ lo, x < 256) ∧ lo.length + 10 * k ≤ 10 * m) (fun _ n _ => (intOf n).toNat)
  case atStart => exact ⟨k1, [], hk1, rfl, HS1.out, by simp, by simp; omega⟩
  case round =>
    clear HS1 hk1
    obtain ⟨k, lo, hk, rfl, S, hlo, hll⟩ := hrel
    obtain ⟨oa, oc, rfl⟩ := own_slc S.o
    have HLO := Lib.hid hlo
    clear hlo
    by_cases h0 : k = 0
    · subst h0
      have HS := Lib.hid S
      clear S
      go_wp2_with fail
      go_ret
      exact ⟨_, lo, rfl, HS.out.o, HLO.out, by omega, HS.out.cd, HS.out.g⟩
    have h0' : (0 : Int) < (k : Int) := by omega
    obtain ⟨j, c⟩ := S.cd
    have HS := Lib.hid S
    clear S
    go_wp2_with fail
    refine (frame_any b lc j _ c).mono ?_
    rintro e w2 ⟨f, dv, rfl, hs, hb, ⟨fa1, fa2⟩, ⟨fk1, fk2⟩, hd2, hcd, hg⟩
    have HS2 := Lib.hid (HS.out.draw hcd hg)
    have hwl := wrFr_lt f hb
    obtain ⟨hw0, hw1, _⟩ := wrFr_ok f ⟨fa1, by omega⟩ ⟨fk1, by omega⟩ (by omega)
    have hw := refWrite_any dv f w2 hs hb
    obtain ⟨wl, hwe⟩ : ∃ wl, (wrFr f).1 = wl := ⟨_, rfl⟩
    rw [hw0, hwe] at hw
    rw [hwe] at hwl hw1
    obtain ⟨q, hq⟩ : ∃ q, wl.length = q := ⟨_, rfl⟩
    rw [hq] at hw hw1
    have hq1 : 6 ≤ q := by omega
    have hq2 : q ≤ 8 := by omega
    have HWL := Lib.hid hwl
    have HQ := Lib.hid hq
    clear HS c hcd hg hs hb hw0 hw1 hwl hwe hq hd2 fa1 fa2 fk1 fk2
    go_wp2_with fail
    refine hw.mono ?_
    clear hw
    rintro e w3 ⟨bv, rfl, hown, hg⟩
    have HS3 := Lib.hid (HS2.out.by_ hg)
    have hw2s := HS2.out.g.size
    have hown2 := own_mono hown hw2s
    obtain ⟨gb, cap, hbv, _⟩ := own_open hown2 (by omega)
    subst hbv
    have hcap := own_cap hown2
    have HGO := Lib.hid (show (Value.slice (some ⟨gb, 0, none⟩) q cap).ownBlock ≠ (Value.slice oa lo.length oc).ownBlock from fun e => by
      have h1 := own_base hown gb rfl
      have h2 := (HS2.out.o.lt gb (by rw [← e]; rfl)).2
      omega)
    have HO := Lib.hid hown2
    clear HS2 hown hown2 hg hw2s
    obtain ⟨hcap1, hcap2⟩ := hcap
    unfold maxLen at hcap2
    obtain ⟨j3, c3⟩ := HS3.out.cd
    have hgb : w.heap.size ≤ gb := own_base HO.out gb rfl
    have hblt := HS3.out.lt
    have hgbn : gb ≠ b := by omega
    go_wp2_with fail
    refine (next_ex b lc j3 6 _ c3 (by omega) (by omega)).mono ?_
    rintro e w4 ⟨v6, j4, rfl, a6, b6, c4, ho4⟩
    have HS4 := Lib.hid (HS3.out.draw ⟨_, c4⟩ (gb_only ho4))
    have HO4 := Lib.hid (HO.out.kept (gb_only ho4) (.inr (by simpa [Value.ownBlock] using hgbn)))
    clear HS3 HO ho4 c3
    rcases (show v6 = 3 ∨ v6 = 4 ∨ v6 = 5 ∨ (v6 ≠ 3 ∧ v6 ≠ 4 ∧ v6 ≠ 5) by omega) with rfl | rfl | rfl | e8
    · go_upto_region 8 with fail
      go_region_law (first
        | (go_simp; go_at_call 21; refine (next_ex b lc j5 8 _ c5 (by omega) (by omega)).mono ?_; rintro e w6 ⟨v8, j6, rfl, a8, b8, c6, ho6⟩; obtain ⟨y8, hy8⟩ : ∃ y : Nat, v8 = y := ⟨v8.toNat, by omega⟩; subst hy8; have HS6 := Lib.hid (HS5.out.draw ⟨_, c6⟩ (gb_only ho6)); have HO6 := Lib.hid (HO5.out.kept (gb_only ho6) (.inr (by simpa [Value.ownBlock] using hgbn))); have m6 : w6.cell? ⟨gb, y, none⟩ = some (.int .u8 (x : Int)) := (by rw [← HX.out]; exact own_cell HO6.out HQ.out hyq); have m6f : w6.frozen? ⟨gb, y, none⟩ = false := own_frozen HO6.out; clear ho6)
        | (go_simp; go_at_call 21; refine (next_ex b lc j4 (q : Int) _ c4.drew (by omega) (by omega)).mono ?_; rintro e w5 ⟨v7, j5, rfl, a7, b7, c5, ho5⟩; obtain ⟨y, hy⟩ : ∃ y : Nat, v7 = y := ⟨v7.toNat, by omega⟩; subst hy; have hyq : y < q := (by omega); have HS5 := Lib.hid ((HS4.out.by_ (gb_drew (gb_refl _ none))).draw ⟨_, c5⟩ (gb_only ho5)); have HO5 := Lib.hid ((own_by HO4.out (gb_drew (gb_refl _ none))).kept (gb_only ho5) (.inr (by simpa [Value.ownBlock] using hgbn))); obtain ⟨x, hx⟩ : ∃ x, wl.getD y 0 = x := ⟨_, rfl⟩; have m5 : w5.cell? ⟨gb, y, none⟩ = some (.int .u8 (x : Int)) := (by rw [← hx]; exact own_cell HO5.out HQ.out hyq); have HX := Lib.hid hx; have i1 : (y : Int) < (q : Int) := (by omega); clear ho5 hx)
        | fail)
      all_goals
        generalize hz : bits .xor .u8 _ _ = z at *
        obtain ⟨zz, hzz, hz2⟩ : ∃ y : Nat, z = (y : Int) ∧ y < 256 := by rw [← hz]; exact bits_u8 _ _
        clear hz
        subst hzz
        have o7 := gb_set (gb_refl w6 (some gb)) ⟨gb, y, none⟩ (.inl rfl) (.int .u8 (zz : Int))
        have HS7 := Lib.hid (HS6.out.other o7 hgb HGO.out)
        have HP7 := Lib.hid (own_sl (own_put (y := zz) HO6.out hyq))
        have HPB := Lib.hid (show ∀ x ∈ lo ++ wl.set y zz, x < 256 from fun x hx => (List.mem_append.1 hx).elim (HLO.out x) (fun h => (List.mem_or_eq_of_mem_set h).elim (HWL.out x) (fun e => by omega)))
        have hsz := HS7.out.g.size
        have HLS := Lib.hid (show (wl.set y zz).length = q by rw [List.length_set]; exact HQ.out)
        clear o7 m5 m6 m6f HS6 HO6 HS5 HO5 HS4 HO4 c4 c5 c6
        generalize World.setCell _ _ _ = w7 at *
        go_wp2_with (at_builtin; go_loud (refine wpList_app _ rfl _ _ 22 rfl w.heap.size 5 iu _ 1 1 Try.underlying22 hiu hiu1 hiu2 hiu3 rfl (by omega) (.slice oa lo.length oc) lo.length (bytes (lo)) rfl HS7.out.o (.slice (some ⟨gb, 0, none⟩) q cap) q (bytes (wl.set y zz)) rfl HP7.out (bytes_one _) (by simp [maxLen]; omega) (by omega) hsz ?_; intro v9 w9 hown hg; have HS9 := Lib.hid (HS7.out.app (lo' := lo ++ wl.set y zz) hg (by rw [List.length_append, bytes_app, HLS.out]; exact hown)); clear hown hg))
        exact ⟨⟨k - 1, lo ++ wl.set y zz, by omega, by go_num, HS9.out, HPB.out, by rw [List.length_append, HLS.out]; omega⟩, by simp [intOf]; omega⟩
    · have hq9 : (q : Int) + 1 ≤ 9 := by omega
      go_wp2_with fail
      refine (next_ex b lc j4 ((q : Int) + 1) _ c4 (by omega) (by omega)).mono ?_
      rintro e w5 ⟨v7, j5, rfl, a7, b7, c5, ho5⟩
      obtain ⟨y, rfl⟩ : ∃ y : Nat, v7 = y := ⟨v7.toNat, by omega⟩
      have hy : y ≤ q := by omega
      have hyi : (y : Int) ≤ (cap : Int) := by omega
      have HS5 := Lib.hid (HS4.out.draw ⟨_, c5⟩ (gb_only ho5))
      have HO5 := HO4.out.kept (gb_only ho5) (.inr (by simpa [Value.ownBlock] using hgbn))
      have hp := own_pre HO5 HQ.out hy
      have htl : (wl.take y).length = y := by rw [List.length_take, HQ.out]; omega
      rw [htl] at hp
      have HP := Lib.hid hp
      have HTL := Lib.hid htl
      have hsz := HS5.out.g.size
      have HPB := Lib.hid (show ∀ x ∈ lo ++ wl.take y, x < 256 from fun x hx => (List.mem_append.1 hx).elim (HLO.out x) (fun h => HWL.out x (List.mem_of_mem_take h)))
      clear c4 c5 ho5 a7 b7 HS4 HO4 HO5 hp htl
      go_wp2_with (at_builtin; go_loud (refine wpList_app _ rfl _ _ 22 rfl w.heap.size 5 iu _ 1 1 Try.underlying22 hiu hiu1 hiu2 hiu3 rfl (by omega) (.slice oa lo.length oc) lo.length (bytes (lo)) rfl HS5.out.o (.slice (some ⟨gb, 0, none⟩) y cap) y (bytes (wl.take y)) rfl HP.out (bytes_one _) (by simp [maxLen]; omega) (by omega) hsz ?_; intro v9 w9 hown hg; have HS9 := Lib.hid (HS5.out.app (lo' := lo ++ wl.take y) hg (by rw [List.length_append, bytes_app, HTL.out]; exact hown)); clear hown hg))
      exact ⟨⟨k - 1, lo ++ wl.take y, by omega, by go_num, HS9.out, HPB.out, by rw [List.length_append, HTL.out]; omega⟩, by simp [intOf]; omega⟩
    · go_wp2_with fail
      refine (next_ex b lc j4 256 _ c4 (by omega) (by omega)).mono ?_
      rintro e w5 ⟨v7, j5, rfl, a7, b7, c5, ho5⟩
      obtain ⟨y, rfl⟩ : ∃ y : Nat, v7 = y := ⟨v7.toNat, by omega⟩
      have hy : y < 256 := by omega
      have hyw : IntKind.u8.wrap (y : Int) = (y : Int) := wraps_u8 _ (by omega) (by omega)
      have S5 := HS4.out.draw ⟨_, c5⟩ (gb_only ho5)
      have O5 := HO4.out.kept (gb_only ho5) (.inr (by simpa [Value.ownBlock] using hgbn))
      have g6 := gb_alloc (gb_refl w5 none) (.cells #[.int .u8 y, .int .u8 126] 5)
      have HS6 := Lib.hid (S5.by_ g6)
      have HO6 := Lib.hid (own_by O5 g6)
      have HNW := Lib.hid (show Sl (w5.alloc (.cells #[.int .u8 y, .int .u8 126] 5)) (.slice (some ⟨w5.heap.size, 0, none⟩) 2 2) 1 2 (bytes [y, 126]) from sl_newn w5 [y, 126] 5 2 _ rfl rfl (by simp [maxLen]))
      have hsz := HS6.out.g.size
      have HPB := Lib.hid (show ∀ x ∈ (lo ++ [y, 126]) ++ wl, x < 256 from fun x hx => by
        rcases List.mem_append.1 hx with hx | hx
        · rcases List.mem_append.1 hx with hx | hx
          · exact HLO.out x hx
          · simp at hx; omega
        · exact HWL.out x hx)
      clear c4 c5 ho5 a7 b7 HS4 HO4 S5 O5 g6
      go_wp2_with (at_builtin; first
        | (refine wpList_app _ rfl _ _ 22 rfl w.heap.size 5 iu _ 1 1 Try.underlying22 hiu hiu1 hiu2 hiu3 rfl (by omega) (.slice oa lo.length oc) lo.length (bytes (lo)) rfl HS6.out.o (.slice (some ⟨w5.heap.size, 0, none⟩) 2 2) 2 (bytes [y, 126]) rfl HNW.out (bytes_one _) (by simp [maxLen]; omega) (by omega) hsz ?_; intro v7 w7 hown hg; have ho7 : w7.ownsRow w.heap.size 5 1 v7 (lo ++ [y, 126]).length (bytes (lo ++ [y, 126])) := (by rw [List.length_append, bytes_app]; exact hown); obtain ⟨pa, pc, hp⟩ := own_slc hown; have HO7 := Lib.hid hown; have HS7 := Lib.hid (HS6.out.app (lo' := lo ++ [y, 126]) hg ho7); have HP7 := Lib.hid (own_sl (HO6.out.kept hg (.inr HGO.out))); have hsz7 := HS7.out.g.size; subst hp; clear hown hg ho7)
        | (refine wpList_app _ rfl _ _ 22 rfl w.heap.size 5 iu _ 1 1 Try.underlying22 hiu hiu1 hiu2 hiu3 rfl (by omega) (.slice pa (lo.length + 2) pc) (lo.length + 2) (bytes (lo ++ [y, 126])) rfl (by rw [bytes_app]; exact HO7.out) (.slice (some ⟨gb, 0, none⟩) q cap) q (bytes wl) rfl HP7.out (bytes_one _) (by simp [maxLen]; omega) (by omega) hsz7 ?_; intro v9 w9 hown hg; have HS9 := Lib.hid (HS7.out.app (lo' := (lo ++ [y, 126]) ++ wl) hg (by rw [List.length_append, List.length_append, bytes_app, HQ.out]; exact hown)); clear hown hg))
      exact ⟨⟨k - 1, (lo ++ [y, 126]) ++ wl, by omega, by go_num, HS9.out, HPB.out, by simp only [List.length_append, HQ.out]; simp; omega⟩, by simp [intOf]; omega⟩
    · have q3 : (v6 == 3) = false := beq_false_of_ne e8.1
      have q4 : (v6 == 4) = false := beq_false_of_ne e8.2.1
      have q5 : (v6 == 5) = false := beq_false_of_ne e8.2.2
      clear e8
      have hsz := HS4.out.g.size
      have HP := Lib.hid (own_sl HO4.out)
      have HPB := Lib.hid (show ∀ x ∈ lo ++ wl, x < 256 from fun x hx => (List.mem_append.1 hx).elim (HLO.out x) (HWL.out x))
      go_wp2_with (at_builtin; go_loud (refine wpList_app _ rfl _ _ 22 rfl w.heap.size 5 iu _ 1 1 Try.underlying22 hiu hiu1 hiu2 hiu3 rfl (by omega) (.slice oa lo.length oc) lo.length (bytes lo) rfl HS4.out.o (.slice (some ⟨gb, 0, none⟩) q cap) q (bytes wl) rfl HP.out (bytes_one _) (by simp [maxLen]; omega) (by omega) hsz ?_); intro v9 w9 hown hg; have HS9 := Lib.hid (HS4.out.app (lo' := lo ++ wl) hg (by rw [List.length_append, bytes_app, HQ.out]; exact hown)); clear hown hg)
      exact ⟨⟨k - 1, lo ++ wl, by omega, by go_num, HS9.out, HPB.out, by rw [List.length_append, HQ.out]; omega⟩, by simp [intOf]; omega⟩
end Go.Proofs.Ytolkjklejcealaa
