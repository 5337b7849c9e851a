/- The sanity check of the statements about telegrams. -/
import Derived.Test.YtolkjklejcealaaP5
import Derived.Lib.SlBytesConst
namespace Go.Proofs.Ytolkjklejcealaa
open Go.RowKit
attribute [local go_sem ↓] Go.wp_at_zero Go.wp_at_succ

def fr345 : Fr := ⟨3, 1, [4, 5]⟩
theorem wr345_e : (wrFr fr345).2 = 0 := by kernel_rfl
theorem wr345_n : (wrFr fr345).1.length = 8 := by kernel_rfl
theorem feed345 : feed ([9] ++ (wrFr fr345).1) = ([fr345], 1, []) := by kernel_rfl
theorem crc_ex : crcOf 65535 [49, 50, 51, 52, 53, 54, 55, 56, 57] = 10673 := by kernel_rfl
theorem crc2_lt (c : Nat) : ∀ x ∈ crc2 c, x < 256 := by
  intro x hx
  simp only [crc2, List.mem_cons, List.not_mem_nil, or_false] at hx
  rcases hx with rfl | rfl <;> omega
theorem wrFr_lt (f : Fr) (h : ∀ x ∈ f.data, x < 256) : ∀ x ∈ (wrFr f).1, x < 256 := by
  unfold wrFr
  split
  · intro x hx; simp at hx
  · split
    · intro x hx; simp at hx
    · intro x hx
      simp only [List.mem_append, List.mem_cons, List.not_mem_nil, or_false] at hx
      rcases hx with (hx | hx) | hx
      · rcases hx with rfl | rfl | rfl | rfl <;> omega
      · exact h x hx
      · exact crc2_lt _ x hx
/-- A list of bytes that was just laid. -/
theorem sl_newn (W : World) (l : List Nat) (T : TypeId) (n b : Nat) (hb : W.heap.size = b) (hl : l.length = n) (hm : n ≤ maxLen) : Sl (W.alloc (.cells (bytes l).toArray T)) (.slice (some ⟨b, 0, none⟩) n n) 1 l.length (bytes l) := by
  subst hb hl
  refine ⟨bytes_len l, .inr ⟨_, 0, l.length, rfl, Nat.le_refl _, hm, fun j hj => ?_⟩⟩
  rw [Nat.zero_add, (Bk.new W (bytes l).toArray T).cell j, List.getD_eq_getElem?_getD, List.getElem?_toArray, List.getElem?_eq_getElem (by rw [bytes_len]; exact hj)]
  rfl

/-- A list of bytes out of a constant string. -/
theorem sl_const (W : World) (l : List Nat) (T : TypeId) (n : Nat) (fr : Nat × Nat) (hl : l.length = n) (hm : n ≤ maxLen) : Sl (W.alloc (.cells (bytes l).toArray T fr)) (.slice (some ⟨W.heap.size, 0, none⟩) n n) 1 l.length (bytes l) := by
  subst hl
  refine ⟨bytes_len l, .inr ⟨_, 0, l.length, rfl, Nat.le_refl _, hm, fun j hj => ?_⟩⟩
  rw [Nat.zero_add, World.cell?_alloc_mark, List.getD_eq_getElem?_getD, List.getElem?_toArray, List.getElem?_eq_getElem (by rw [bytes_len]; exact hj)]
  rfl
theorem frsv_new (W : World) (f : Fr) (dv : Value) (T : TypeId) (n : Nat) (hn : W.heap.size = n) (hd : Sl W dv 1 f.data.length (bytes f.data)) : FrsV (W.alloc (.cells #[.int .i64 f.addr, .int .i64 f.kind, dv] T)) (.slice (some ⟨n, 0, none⟩) 1 1) [f] := by
  subst hn
  have k := Bk.new W #[.int .i64 f.addr, .int .i64 f.kind, dv] T
  refine ⟨_, 1, rfl, Nat.le_refl _, by simp [maxLen], .inr ⟨_, 0, rfl, fun j hj => ?_⟩⟩
  obtain rfl : j = 0 := by simpa using hj
  exact ⟨k.cell 0, k.cell 1, dv, k.cell 2, hd.by_ (gb_alloc (gb_refl _ _) _)⟩

set_option maxRecDepth 100000 in
set_option maxHeartbeats 4000000 in
theorem awake_any (w : World) : Calls Try.prog 9 #[] w fun e w' => e = .returned (.bool true) ∧ w.grownBy w' none := by
  have g1 := gb_alloc (gb_refl w none) (.cells #[.int .u8 4, .int .u8 5] 5)
  have s1 := sl_newn w [4, 5] 5 2 _ rfl rfl (by simp [maxLen])
  have g2 := gb_alloc (gb_refl (w.alloc (.cells #[.int .u8 4, .int .u8 5] 5)) none) (.cells #[.int .i64 3, .int .i64 1, .slice (some ⟨w.heap.size, 0, none⟩) 2 2] 24)
  have k2 := Bk.new (w.alloc (.cells #[.int .u8 4, .int .u8 5] 5)) #[.int .i64 3, .int .i64 1, .slice (some ⟨w.heap.size, 0, none⟩) 2 2] 24
  rw [World.size_alloc] at k2
  have s2 := Sl.by_ s1 g2
  have gg2 := gb_none g1 g2
  clear g1 g2 s1
  go_enter Try.func9, Try.ntmps9
  go_upto_region 2 with fail
  generalize (w.alloc _).alloc _ = W2 at *
  have k2c := k2.cell
  obtain ⟨wb, hwb⟩ : ∃ wb, (wrFr fr345).1 = wb := ⟨_, rfl⟩
  have h8 := wr345_n
  have hfd := feed345
  have h256 := wrFr_lt fr345 (by decide)
  have hw := write_any _ fr345 W2 s2 (by decide)
  rw [wr345_e, hwb] at hw
  rw [hwb] at h8 hfd h256
  rw [h8] at hw
  have K2 := Lib.hid k2
  have S2 := Lib.hid s2
  have GG := Lib.hid gg2
  have HFD := Lib.hid hfd
  have H8 := Lib.hid h8
  have H256 := Lib.hid h256
  clear hwb hfd h8 h256 k2 s2 gg2
  go_wp2_with fail
  refine hw.mono ?_
  clear hw
  rintro e W3 ⟨v, rfl, ho, hg⟩
  obtain ⟨va, vc, hve⟩ := own_slc ho
  subst hve
  have HO := Lib.hid ho
  have HG := Lib.hid hg
  clear k2c ho hg
  go_wp2_with fail
  have g4 := gb_alloc (gb_refl W3 none) (.cells #[.int .u8 9] 5)
  have hf := feed_any (.slice (some ⟨W3.heap.size, 0, none⟩) 1 1) (.slice va 8 vc) [9] wb 0 _ (sl_newn W3 [9] 5 1 _ rfl rfl (by simp [maxLen])) (by rw [H8.out]; exact (own_sl HO.out).by_ g4) (by decide) H256.out (by rw [H8.out]; decide) (by decide) (by decide)
  rw [HFD.out] at hf
  refine hf.mono ?_
  clear hf
  rintro e W5 ⟨hv, lv, rfl, ho5, hf5, hg5⟩
  obtain ⟨ha, hc, hve⟩ := own_slc ho5
  subst hve
  have hfv := hf5.v
  obtain ⟨la, lc, rfl, _⟩ := hfv
  have K5 := Lib.hid (((K2.out.of HG.out (by simp)).of g4 (by simp)).of hg5 (by simp))
  have S5 := Lib.hid (((S2.out.by_ HG.out).by_ g4).by_ hg5)
  have G5 := Lib.hid (gb_none (gb_none (gb_none GG.out HG.out) g4) hg5)
  have F5 := Lib.hid hf5.v
  clear ho5 hf5 hg5 g4 HO
  go_upto_region 4 with fail
  have g6 := gb_alloc (gb_refl W5 none) (.cells #[.slice ha 0 hc, .int .i64 1] 36)
  have k6 := Bk.new W5 #[.slice ha 0 hc, .int .i64 1] 36
  have K6 := Lib.hid (K5.out.of g6 (by simp))
  have S6 := Lib.hid (S5.out.by_ g6)
  have G6 := Lib.hid (gb_none G5.out g6)
  have F6 := Lib.hid (F5.out.by_ g6)
  have R6 := Lib.hid k6
  clear g6 k6 K5 S5 G5 F5
  generalize W5.alloc _ = W6 at *
  generalize W5.heap.size = n6 at *
  have hc := chk_any (.slice (some ⟨W6.heap.size, 0, none⟩) 9 9) [49, 50, 51, 52, 53, 54, 55, 56, 57] _ (sl_const W6 [49, 50, 51, 52, 53, 54, 55, 56, 57] 5 9 (9, 10) rfl (by simp [maxLen])) (by decide)
  rw [crc_ex] at hc
  have g7 := gb_alloc (gb_refl W6 none) (.cells (bytes [49, 50, 51, 52, 53, 54, 55, 56, 57]).toArray 5 (9, 10))
  have kc := fun (w : World) (C : Array Value) (n c : Nat) => Lib.run_convert_bytes_const (P := Try.prog) w 22 5 C n c Try.underlying22 Try.underlying5
  go_wp2_with fail
  refine hc.mono ?_
  clear hc
  rintro e W7 ⟨rfl, hg7⟩
  have g67 := gb_none g7 hg7
  have K7 := K6.out.of g67 (by simp)
  have k7c := K7.cell
  have S7 := Lib.hid (S6.out.by_ g67)
  have G7 := Lib.hid (gb_none G6.out g67)
  have F7 := Lib.hid (F6.out.by_ g67)
  have R7 := Lib.hid (R6.out.of g67 (by simp))
  clear g7 hg7 g67 K7 K6 S6 G6 F6 R6
  go_wp2_with fail
  have g8 := gb_alloc (gb_refl W7 none) (.cells #[.int .i64 3, .int .i64 1, .slice (some ⟨w.heap.size, 0, none⟩) 2 2] 24)
  refine (same_any (.slice la 1 lc) _ [fr345] _ (F7.out.by_ g8) (frsv_new W7 fr345 _ 24 _ rfl S7.out)).mono ?_
  rintro e W9 ⟨rfl, hg9⟩
  have g89 := gb_none g8 hg9
  have R9 := R7.out.of g89 (by simp)
  have r9c := R9.cell
  have G9 := Lib.hid (gb_none G7.out g89)
  clear g8 hg9 g89 R9 k7c
  go_wp2_with fail
  go_ret
  exact ⟨rfl, G9.out⟩
end Go.Proofs.Ytolkjklejcealaa
