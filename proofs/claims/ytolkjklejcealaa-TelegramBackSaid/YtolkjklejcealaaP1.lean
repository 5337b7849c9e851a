/- The program's Check and Write of telegrams. -/
import Derived.Test.YtolkjklejcealaaSa
namespace Go.Proofs.Ytolkjklejcealaa
open Go.RowKit
attribute [local go_sem ↓] Go.wp_at_zero Go.wp_at_succ

theorem wrap_u16 (n : Int) : IntKind.u16.wrap n = n % 65536 := by simp [IntKind.wrap, IntKind.bits, IntKind.signed]
theorem wraps_u16 (n : Int) (h₀ : 0 ≤ n) (h₁ : n < 2 ^ 16) : IntKind.u16.wrap n = n := by rw [wrap_u16]; omega
theorem and1_u16 (x : Int) (h : 0 ≤ x ∧ x < 2 ^ 16) : bits .and .u16 x 1 = x % 2 := bits_mask .u16 16 (by decide) wraps_u16 1 (by decide) x h.1 h.2
theorem xor_u16 (a b : Nat) (ha : a < 2 ^ 16) (hb : b < 2 ^ 16) : bits .xor .u16 (a : Int) (b : Int) = ((a ^^^ b : Nat) : Int) := by
  have ha' : a % 2 ^ IntKind.u16.bits = a := Nat.mod_eq_of_lt (Nat.lt_of_lt_of_le ha (by decide))
  have hb' : b % 2 ^ IntKind.u16.bits = b := Nat.mod_eq_of_lt (Nat.lt_of_lt_of_le hb (by decide))
  simp only [bits, BitVec.ofInt_natCast, BitVec.toNat_xor, BitVec.toNat_ofNat, ha', hb']
  exact wraps_u16 _ (Int.natCast_nonneg _) (by exact_mod_cast Nat.xor_lt_two_pow ha hb)

set_option maxHeartbeats 2000000 in
theorem chk_any (v : Value) (l : List Nat) (w : World) (h : Sl w v 1 l.length (bytes l)) (hb : ∀ x ∈ l, x < 256) :
    Calls Try.prog 14 #[v] w fun e w' => e = .returned (.int .i64 (crcOf 65535 l : Nat)) ∧ w.grownBy w' none := by
  obtain ⟨a, cap, rfl, hn, hm, hc⟩ := h.shape
  unfold maxLen at hm
  have HC := Lib.hid hc
  have HB := Lib.hid hb
  clear h hc hb
  go_enter Try.func14, Try.ntmps14
  go_wp2_with fail
  go_loopw [3, 11] (fun n i wr => ∃ (k c : Nat), k ≤ l.length ∧ i = .int .i64 k ∧ n = .int .u16 c ∧ c < 65536 ∧ crcOf 65535 l = crcOf c (l.drop k) ∧ w.grownBy wr none) (fun _ i _ => l.length - (intOf i).toNat)
  case atStart => exact ⟨0, 65535, Nat.zero_le _, rfl, rfl, by omega, rfl, gb_refl _ _⟩
  case round =>
    obtain ⟨k, c, hk, rfl, rfl, hc, he, hg⟩ := hrel
    have HE := Lib.hid he
    clear he
    by_cases hlt : k < l.length
    · obtain ⟨g, off, rfl, hcell⟩ : ∃ g off, a = some ⟨g, off, none⟩ ∧ ∀ j, j < l.length * 1 → w.cell? ⟨g, off + j, none⟩ = some ((bytes l).getD j undef) := by
        rcases HC.out with h | h
        · omega
        · exact h
      have e0 : wr.cell? ⟨g, off + k, none⟩ = some (.int .u8 (l.getD k 0 : Nat)) := by
        have e := hcell k (by omega)
        rw [← gb_cell hg (World.block_lt_of_cell? _ _ e) (by simp)] at e
        rw [e]
        simp [bytes, List.getD_eq_getElem?_getD, List.getElem?_eq_getElem hlt]
      have hbl : l.getD k 0 < 256 := HB.out _ (by rw [List.getD_eq_getElem?_getD, List.getElem?_eq_getElem hlt]; exact List.getElem_mem _)
      clear hcell
      have hgb' : l[k] = l.getD k 0 := by simp [List.getD_eq_getElem?_getD, List.getElem?_eq_getElem hlt]
      generalize l.getD k 0 = b at *
      have HGB := Lib.hid hgb'
      clear hgb'
      have i0 : (0 : Int) ≤ (k : Int) := by omega
      have i1 : (k : Int) < (l.length : Int) := by omega
      go_wp2_with fail
      go_loopw [3, 6] (fun n i wx => ∃ (j c' : Nat), j ≤ 8 ∧ i = .int .i64 ((j : Int) - 1) ∧ n = .int .u16 c' ∧ c' < 65536 ∧ crcBits b 8 c = crcBits b j c' ∧ wr.grownBy wx none) (fun _ i _ => (intOf i + 1).toNat)
      case atStart => exact ⟨8, c, by omega, rfl, rfl, hc, rfl, gb_refl _ _⟩
      case round =>
        obtain ⟨j, c', hj, rfl, rfl, hc', he', hg'⟩ := hrel
        cases j with
        | zero =>
          have HS := Lib.hid (show crcOf 65535 l = crcOf c' (l.drop (k + 1)) by
            rw [HE.out, List.drop_eq_getElem_cons hlt, crcOf, HGB.out, he']; rfl)
          clear he'
          go_wp2_with fail
          exact ⟨⟨k + 1, c', by omega, by go_num, rfl, hc', HS.out, gb_none hg hg'⟩, by simp [intOf]; omega⟩
        | succ j =>
          have HE' := Lib.hid he'
          clear he' e0
          obtain ⟨t, ht, ht2⟩ : ∃ t : Nat, b / 2 ^ j = t ∧ t < 256 := ⟨_, rfl, by have := Nat.div_le_self b (2 ^ j); omega⟩
          have hcast : (b : Int) / 2 ^ j = (t : Int) := by rw [← ht]; simp
          obtain ⟨u, hu, hu2⟩ : ∃ u : Nat, t % 2 = u ∧ u < 2 := ⟨_, rfl, Nat.mod_lt _ (by omega)⟩
          obtain ⟨v, hv⟩ : ∃ v : Nat, c' / 32768 % 2 = v := ⟨_, rfl⟩
          obtain ⟨z, hz, hz2⟩ : ∃ z : Nat, c' * 2 % 65536 = z ∧ z < 65536 := ⟨_, rfl, Nat.mod_lt _ (by omega)⟩
          obtain ⟨y, hy, hx⟩ : ∃ y : Nat, z ^^^ 4129 = y ∧ y < 65536 := ⟨_, rfl, Nat.xor_lt_two_pow (n := 16) (by omega) (by omega)⟩
          have n1 : (c' : Int) / 32768 = (v : Int) := by omega
          have n2 : bits .and .u16 (t : Int) 1 = (u : Int) := by rw [and1_u16 _ (by omega)]; omega
          have n3 : IntKind.u16.wrap ((c' : Int) * 2) = (z : Int) := by rw [wrap_u16]; omega
          have n4 : bits .xor .u16 (z : Int) 4129 = (y : Int) := by
            have h := xor_u16 z 4129 (by omega) (by omega)
            rw [hy] at h
            exact h
          have n5 : IntKind.u16.wrap (t : Int) = (t : Int) := wraps_u16 _ (by omega) (by omega)
          have n6 : IntKind.u16.wrap (v : Int) = (v : Int) := wraps_u16 _ (by omega) (by omega)
          have HN := Lib.hid (show crcBits b 8 c = crcBits b j (if v = u then z else y) by rw [HE'.out, crcBits, ht, crcBit, hv, hu, hz, hy])
          have HZ := Lib.hid hz2
          have HY := Lib.hid hx
          have HG := Lib.hid hg'
          clear HE' ht hy hz hu hv hu2 hz2 hx ht2 hg'
          by_cases hq : v = u
          · subst hq
            have HS := Lib.hid (show crcBits b 8 c = crcBits b j z by rw [HN.out, if_pos rfl])
            clear HN
            go_wp2_with fail
            go_quiet (fail)
            go_wp2_with fail
            clear n1 n2 n3 n4 n5 n6
            go_roundw
            case rel => exact ⟨j, z, by omega, by go_num, rfl, HZ.out, HS.out, gb_drewN HG.out _⟩
            case measure => simp [intOf]
          · have HS := Lib.hid (show crcBits b 8 c = crcBits b j y by rw [HN.out, if_neg hq])
            have q1 : ((v : Int) != (u : Int)) = true := bne_iff_ne.2 fun h => hq (Int.ofNat_inj.1 h)
            clear HN
            go_wp2_with fail
            go_quiet (fail)
            go_wp2_with fail
            clear n1 n2 n3 n4 n5 n6
            go_roundw
            case rel => exact ⟨j, y, by omega, by go_num, rfl, HY.out, HS.out, gb_drewN HG.out _⟩
            case measure => simp [intOf]
    · obtain rfl : k = l.length := by omega
      have HS := Lib.hid (show crcOf 65535 l = c by rw [HE.out, List.drop_length]; rfl)
      have HG := Lib.hid hg
      clear hg HE
      go_wp2_with fail
      go_ret
      exact ⟨by rw [HS.out]; rfl, HG.out⟩

theorem fits_any (n : Int) (w : World) : Calls Try.prog 22 #[.int .i64 n] w fun e w' => e = .returned (.bool (decide (0 ≤ n ∧ n ≤ 255))) ∧ w' = w := by
  by_cases h1 : 0 ≤ n
  · have h1' : decide (0 ≤ n) = true := by simpa using h1
    by_cases h2 : n ≤ 255
    · have h2' : decide (n ≤ 255) = true := by simpa using h2
      go_enter Try.func22, Try.ntmps22
      go_wp2_with fail
      go_ret
      exact ⟨by rw [decide_eq_true (p := 0 ≤ n ∧ n ≤ 255) ⟨h1, h2⟩]; rfl, rfl⟩
    · have h2' : decide (n ≤ 255) = false := by simpa using h2
      go_enter Try.func22, Try.ntmps22
      go_wp2_with fail
      go_ret
      exact ⟨by first | rfl | (rw [decide_eq_false (p := 0 ≤ n ∧ n ≤ 255) (by omega)]; rfl), rfl⟩
  · have h1' : decide (0 ≤ n) = false := by simpa using h1
    go_enter Try.func22, Try.ntmps22
    go_wp2_with fail
    go_ret
    exact ⟨by first | rfl | (rw [decide_eq_false (p := 0 ≤ n ∧ n ≤ 255) (by omega)]; rfl), rfl⟩

set_option maxRecDepth 100000 in
set_option maxHeartbeats 4000000 in
theorem write_any (dv : Value) (f : Fr) (w : World) (h : Sl w dv 1 f.data.length (bytes f.data)) (hb : ∀ x ∈ f.data, x < 256) :
    Calls Try.prog 12 #[.agg #[.int .i64 f.addr, .int .i64 f.kind, dv]] w fun e w' => ∃ v, e = .returned (.tuple #[v, .int .i64 (wrFr f).2]) ∧ w'.ownsRow w.heap.size 5 1 v (wrFr f).1.length (bytes (wrFr f).1) ∧ w.grownBy w' none := by
  obtain ⟨da, dc, rfl, dn, dm, hc⟩ := h.shape
  obtain ⟨ie, hie, hie1, hie2, hie3⟩ := info_parts Try.infoU8
  have k1 := Bk.new w #[.int .i64 f.addr, .int .i64 f.kind, .slice da f.data.length dc] 24
  have g1 := gb_alloc (gb_refl w none) (.cells #[.int .i64 f.addr, .int .i64 f.kind, .slice da f.data.length dc] 24)
  have h1 := h.by_ g1
  unfold maxLen at dm
  generalize hW : wrFr f = wf
  have HW := Lib.hid hW
  have HB := Lib.hid hb
  clear hc h hW hb
  go_enter Try.func12, Try.ntmps12
  go_upto_region 1 with fail
  generalize w.alloc _ = W at *
  have k1c := k1.cell
  go_cut [6] from 6 (fun s wx => s = .bool (decide (f.addr < 0 ∨ 255 < f.addr ∨ f.kind < 0 ∨ 255 < f.kind)) ∧ wx = W)
  case first =>
    have a0 : W.cell? ⟨w.heap.size, 0, none⟩ = some (.int .i64 f.addr) := k1c 0
    have a1 : W.cell? ⟨w.heap.size, 1, none⟩ = some (.int .i64 f.kind) := k1c 1
    clear k1c k1 h1 HW
    go_wp2_with fail
    refine (fits_any f.addr _).mono ?_
    rintro e w2 ⟨rfl, rfl⟩
    by_cases c1 : 0 ≤ f.addr ∧ f.addr ≤ 255
    · rw [decide_eq_true c1]
      go_wp2_with fail
      refine (fits_any f.kind _).mono ?_
      rintro e w2 ⟨rfl, rfl⟩
      go_wp2_with fail
      go_meet
      exact ⟨congrArg Value.bool (by rw [Bool.eq_iff_iff]; simp; omega), rfl⟩
    · rw [decide_eq_false c1]
      go_wp2_with fail
      go_meet
      exact ⟨congrArg Value.bool (by rw [decide_eq_true]; omega), rfl⟩
  case rest =>
    obtain ⟨rfl, rfl⟩ := hcut
    by_cases hr : f.addr < 0 ∨ 255 < f.addr ∨ f.kind < 0 ∨ 255 < f.kind
    · have hE := HW.out
      unfold wrFr at hE
      rw [if_pos hr] at hE
      subst hE
      rw [decide_eq_true hr]
      go_wp2_with fail
      refine bodyPost_ret (v := .tuple #[.slice none 0 0, .int .i64 1]) (by simp [results, Try.results12, go_sem]) rfl ?_
      exact ⟨_, rfl, World.ownsRow_nil _ _ _ _, g1⟩
    · rw [decide_eq_false hr]
      have hE := HW.out
      unfold wrFr at hE
      rw [if_neg hr] at hE
      by_cases hl : 64 < f.data.length
      · rw [if_pos hl] at hE
        subst hE
        clear HW hr
        go_wp2_with fail
        refine bodyPost_ret (v := .tuple #[.slice none 0 0, .int .i64 2]) (by simp [results, Try.results12, go_sem]) rfl ?_
        exact ⟨_, rfl, World.ownsRow_nil _ _ _ _, g1⟩
      · rw [if_neg hl] at hE
        have hld : decide ((64 : Int) < (f.data.length : Int)) = false := by simp; omega
        obtain ⟨a, ha⟩ : ∃ a : Nat, f.addr = a := ⟨f.addr.toNat, by omega⟩
        obtain ⟨k, hk⟩ : ∃ k : Nat, f.kind = k := ⟨f.kind.toNat, by omega⟩
        rw [ha, hk, Int.toNat_natCast, Int.toNat_natCast] at hE
        have HE := Lib.hid hE
        clear hE HW
        obtain ⟨addr, kind, data⟩ := f
        dsimp only at *
        subst ha
        subst hk
        have u1 : IntKind.u8.wrap (a : Int) = (a : Int) := wraps_u8 _ (by omega) (by omega)
        have u2 : IntKind.u8.wrap (k : Int) = (k : Int) := wraps_u8 _ (by omega) (by omega)
        have u3 : IntKind.u8.wrap (data.length : Int) = (data.length : Int) := wraps_u8 _ (by omega) (by omega)
        have hl64 : data.length ≤ 64 := by omega
        have ha9 : a ≤ 255 := by omega
        have hk9 : k ≤ 255 := by omega
        clear hr hl
        have h5 := h1.by_ (gb_alloc (gb_refl wc none) (.cells #[.int .u8 126, .int .u8 data.length, .int .u8 a, .int .u8 k] 5))
        have k5 := k1.of (gb_alloc (gb_refl wc none) (.cells #[.int .u8 126, .int .u8 data.length, .int .u8 a, .int .u8 k] 5)) (by simp)
        have hs := g1.size
        have hk1 := k1.lt
        have O1 := own_new wc #[.int .u8 126, .int .u8 data.length, .int .u8 a, .int .u8 k] 5 w.heap.size 4 hs rfl (by simp [maxLen])
        have HH := Lib.hid h5
        have HO := Lib.hid O1
        have k5c := k5.cell
        clear h5 O1 h1 k1 k5
        go_upto_region 6 with fail
        clear k1c
        go_wp2_with (at_builtin; go_loud (refine wpList_app _ rfl _ _ 22 rfl w.heap.size 5 ie _ 1 1 Try.underlying22 hie hie1 hie2 hie3 rfl (by omega) (.slice (some ⟨wc.heap.size, 0, none⟩) 4 4) 4 [.int .u8 126, .int .u8 data.length, .int .u8 a, .int .u8 k] rfl HO.out (.slice da data.length dc) data.length (bytes data) rfl HH.out (bytes_one _) (by simp [maxLen]; omega) (by omega) (by simp; omega) ?_); intro v' w8 hown hg8; have HO8 := Lib.hid hown; have g8 := gb_new (gb_alloc g1 (.cells #[.int .u8 126, .int .u8 data.length, .int .u8 a, .int .u8 k] 5)) hg8 hs; obtain ⟨gg, cap, hv, _⟩ := own_open hown (by omega); subst hv; obtain ⟨hcap1, hcap2⟩ := own_cap hown; unfold maxLen at hcap2; have hcap3 : 1 < cap := (by omega); clear hown hg8)
        have hO8 := HO8.out
        have eL : [Value.int .u8 126, .int .u8 data.length, .int .u8 a, .int .u8 k] ++ bytes data = bytes (126 :: ([data.length, a, k] ++ data)) := by simp [bytes]
        rw [eL] at hO8
        have hS := own_tail hO8 (by simp; omega)
        rw [show ([data.length, a, k] ++ data).length = 3 + data.length by simp; omega] at hS
        have hL3 : ∀ x ∈ [data.length, a, k] ++ data, x < 256 := by
          intro x hx
          rcases List.mem_append.1 hx with hx | hx
          · simp at hx; omega
          · exact HB.out x hx
        have hc9 := crcOf_lt ([data.length, a, k] ++ data) 65535 (by omega)
        refine (chk_any _ ([data.length, a, k] ++ data) _ (by rw [show ([data.length, a, k] ++ data).length = 3 + data.length by simp; omega]; exact hS) hL3).mono ?_
        clear hS hL3 eL
        have HE1 := HE.out
        clear HE
        generalize crcOf 65535 ([data.length, a, k] ++ data) = c at *
        rintro e w9 ⟨rfl, g9⟩
        have hO9 := own_by hO8 g9
        have g9' := gb_none g8 g9
        have hs9 := g9'.size
        obtain ⟨ch, hch, hch2⟩ : ∃ ch : Nat, c / 256 = ch ∧ ch < 256 := ⟨_, rfl, by omega⟩
        obtain ⟨cl, hcl, hcl2⟩ : ∃ cl : Nat, c % 256 = cl ∧ cl < 256 := ⟨_, rfl, by omega⟩
        have u4 : IntKind.u8.wrap ((c : Int) / 256) = (ch : Int) := by rw [IntKind.wrap_u8]; omega
        have u5 : IntKind.u8.wrap (c : Int) = (cl : Int) := by rw [IntKind.wrap_u8]; omega
        have O2 := own_by hO9 (gb_alloc (gb_refl w9 none) (.cells #[.int .u8 ch, .int .u8 cl] 5))
        have S2 := sl_new2 w9 #[.int .u8 ch, .int .u8 cl] 5
        have HE2 := Lib.hid (show wf = (126 :: ([data.length, a, k] ++ data) ++ [ch, cl], 0) by rw [← HE1, crc2, hch, hcl, Nat.mod_eq_of_lt hch2]; simp)
        have HS2 := Lib.hid S2
        have HO2 := Lib.hid O2
        clear hO8 hO9 HO8 HO HH g9 hch hcl HE1 O2 S2 hc9
        go_upto_region 8 with fail
        go_wp2_with (at_builtin; go_loud (refine wpList_app _ rfl _ _ 22 rfl w.heap.size 5 ie _ 1 1 Try.underlying22 hie hie1 hie2 hie3 rfl (by omega) (.slice (some ⟨gg, 0, none⟩) (4 + data.length) cap) (4 + data.length) (bytes (126 :: ([data.length, a, k] ++ data))) rfl HO2.out (.slice (some ⟨w9.heap.size, 0, none⟩) 2 2) 2 (bytes [ch, cl]) rfl HS2.out (bytes_one _) (by simp [maxLen]; omega) (by omega) (by simp; omega) ?_); intro v' w10 hown hg10; have HO10 := Lib.hid hown; have g10 := gb_call (gb_alloc g9' (.cells #[.int .u8 ch, .int .u8 cl] 5)) hg10 (fun g e => .inr (own_base HO2.out g e)); obtain ⟨xa, xc, hv⟩ := own_slc hown; subst hv; clear hown hg10)
        refine bodyPost_ret (v := .tuple #[.slice xa (4 + data.length + 2) xc, .int .i64 0]) (by simp [results, Try.results12, go_sem]) rfl ?_
        rw [HE2.out]
        refine ⟨_, rfl, ?_, g10⟩
        have o := HO10.out
        rw [← bytes_app] at o
        rw [show (126 :: ([data.length, a, k] ++ data) ++ [ch, cl], (0 : Int)).1.length = 4 + data.length + 2 by simp; omega]
        exact o
end Go.Proofs.Ytolkjklejcealaa
