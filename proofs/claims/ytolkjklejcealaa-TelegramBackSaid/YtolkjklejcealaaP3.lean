/- The program's intact and frame. -/
import Derived.Test.YtolkjklejcealaaP2
import Derived.Test.YtolkjklejcealaaPq
namespace Go.Proofs.Ytolkjklejcealaa
open Go.RowKit
attribute [local go_sem ↓] Go.wp_at_zero Go.wp_at_succ

theorem sub_len (l : List Nat) (i m : Nat) (h : i + m ≤ l.length) : ((l.drop i).take m).length = m := by rw [List.length_take, List.length_drop]; omega
/-- A part of a slice. -/
theorem sl_sub {w : World} {g off cap : Nat} {l : List Nat} (h : Sl w (.slice (some ⟨g, off, none⟩) l.length cap) 1 l.length (bytes l)) (i m c : Nat) (hi : i + m ≤ l.length) (hc : m ≤ c) (hm : c ≤ maxLen) :
    Sl w (.slice (some ⟨g, off + i, none⟩) m c) 1 ((l.drop i).take m).length (bytes ((l.drop i).take m)) := by
  refine ⟨bytes_len _, ?_⟩
  by_cases h0 : m = 0
  · subst h0
    exact .inl ⟨by simp, .inr ⟨_, _, rfl, hm⟩⟩
  refine .inr ⟨g, off + i, c, by rw [sub_len l i m hi], by rw [sub_len l i m hi]; exact hc, hm, fun j hj => ?_⟩
  rw [sub_len l i m hi] at hj
  rw [Nat.add_assoc, sl_cell h (i + j) (by omega)]
  simp [bytes, List.getD_eq_getElem?_getD, List.getElem?_drop, show j < m by omega, List.getElem?_eq_getElem (show i + j < l.length by omega)]
theorem sub_mem {l : List Nat} {i m : Nat} (hb : ∀ x ∈ l, x < 256) : ∀ x ∈ (l.drop i).take m, x < 256 := fun x hx => hb x (List.mem_of_mem_drop (List.mem_of_mem_take hx))

set_option maxRecDepth 100000 in
set_option maxHeartbeats 4000000 in
theorem intact_any (g off cap m : Nat) (l : List Nat) (w : World) (h : Sl w (.slice (some ⟨g, off, none⟩) l.length cap) 1 l.length (bytes l)) (hb : ∀ x ∈ l, x < 256) (hl : l.length = m + 2) (h4 : 4 ≤ m) (hcap : l.length ≤ cap) (hmax : cap ≤ maxLen) :
    Calls Try.prog 25 #[.slice (some ⟨g, off, none⟩) l.length cap] w fun e w' => e = .returned (.bool (decide (crcOf 65535 ((l.drop 1).take (m - 1)) = l.getD m 0 * 256 + l.getD (m + 1) 0))) ∧ ∃ q, w' = w.drewN q := by
  have e0 := sl_cell h m (by omega)
  have e1 := sl_cell h (m + 1) (by omega)
  have x0 : l.getD m 0 < 256 := getD_lt hb m
  have x1 : l.getD (m + 1) 0 < 256 := getD_lt hb (m + 1)
  have hs := sl_sub h 1 (m - 1) (cap - 1) (by omega) (by omega) (by omega)
  have hc := crcOf_lt ((l.drop 1).take (m - 1)) 65535 (by omega)
  have HM := Lib.hid (sub_mem (i := 1) (m := m - 1) hb)
  have HS := Lib.hid hs
  rw [hl] at *
  unfold maxLen at hmax
  have hbl := World.block_lt_of_cell? _ _ e0
  clear h hs hb hl
  generalize (l.drop 1).take (m - 1) = t at *
  generalize l.getD m 0 = x at *
  generalize l.getD (m + 1) 0 = y at *
  obtain ⟨c, hcc⟩ : ∃ c : Nat, crcOf 65535 t = c := ⟨_, rfl⟩
  have HCC := Lib.hid hcc
  rw [hcc] at hc ⊢
  clear hcc
  have i1 : (1 : Int) ≤ (m : Int) := by omega
  have i2 : (m : Int) ≤ (cap : Int) := by omega
  have hw1 : IntKind.i64.wrap ((m : Int) + 1) = (m : Int) + 1 := IntWalk.i64_in _ (by omega)
  have hw2 : IntKind.i64.wrap ((x : Int) * 256) = (x : Int) * 256 := IntWalk.i64_in _ (by omega)
  have hw3 : IntKind.i64.wrap ((x : Int) * 256 + (y : Int)) = (x : Int) * 256 + (y : Int) := IntWalk.i64_in _ (by omega)
  have hw4 : (0 : Int) ≤ (m : Int) + 1 := by omega
  have hw5 : ((m : Int) + 1).toNat = m + 1 := by omega
  have hw6 : (m : Int) + 1 < (m : Int) + 2 := by omega
  have hw7 : (m : Int) < (m : Int) + 2 := by omega
  have hcap1 : 1 < cap := by omega
  have e0d : w.drew.cell? ⟨g, off + m, none⟩ = some (.int .u8 x) := e0
  have e1d : w.drew.cell? ⟨g, off + (m + 1), none⟩ = some (.int .u8 y) := e1
  go_enter Try.func25, Try.ntmps25
  go_upto_region 2 with fail
  go_quiet ((go_at_call 14; refine Calls.quiet_of (v := .int .i64 (c : Int)) ?_; rw [← HCC.out]; exact chk_q _ t _ HS.out HM.out))
  clear hw1 hw2 hw3 hw4 hw5 hw6 hw7
  go_wp2_with fail
  go_ret
  refine ⟨congrArg (fun b => Ending.returned (.bool b)) ?_, _, rfl⟩
  rw [Bool.eq_iff_iff]
  simp
  omega

theorem Try.infoFrame : (Try.prog.info? 24).map (fun i => (i.zero, i.size, i.bytes)) = some (some (.agg #[.int .i64 0, .int .i64 0, .slice none 0 0]), 3, 40) := by kernel_rfl
set_option maxRecDepth 100000 in
set_option maxHeartbeats 4000000 in
theorem framep_any (g off cap m : Nat) (l : List Nat) (w : World) (h : Sl w (.slice (some ⟨g, off, none⟩) l.length cap) 1 l.length (bytes l)) (hb : ∀ x ∈ l, x < 256) (hl : l.length = m + 6) (hbig : m ≤ 1000000) (hcap : l.length ≤ cap) (hmax : cap ≤ maxLen) :
    Calls Try.prog 26 #[.slice (some ⟨g, off, none⟩) l.length cap] w fun e w' => ∃ dv, e = .returned (.agg #[.int .i64 (l.getD 2 0 : Nat), .int .i64 (l.getD 3 0 : Nat), dv]) ∧ w'.ownsRow w.heap.size 5 1 dv m (bytes ((l.drop 4).take m)) ∧ w.grownBy w' none := by
  have g1 := gb_alloc (gb_refl w none) (.cells #[.int .i64 0, .int .i64 0, .slice none 0 0] 24)
  have k1 := Bk.new w #[.int .i64 0, .int .i64 0, .slice none 0 0] 24
  have h1 := h.by_ g1
  have e0 := sl_cell h1 2 (by omega)
  have e1 := sl_cell h1 3 (by omega)
  have hs := sl_sub h1 4 m (cap - 4) (by omega) (by omega) (by omega)
  have hsl := sub_len l 4 m (by omega)
  have hx0 : l.getD 2 0 < 256 := getD_lt hb 2
  have hgw : g < w.heap.size := World.block_lt_of_cell? _ _ (sl_cell h 2 (by omega))
  have hgk : ¬ g = w.heap.size := by omega
  have hgk' : ¬ w.heap.size = g := by omega
  have hy0 : l.getD 3 0 < 256 := getD_lt hb 3
  have HS := Lib.hid hs
  have HSL := Lib.hid hsl
  rw [hl] at *
  unfold maxLen at hmax
  clear h h1 hs hb hl hsl
  generalize (l.drop 4).take m = t at *
  generalize l.getD 2 0 = x at *
  generalize l.getD 3 0 = y at *
  have i4 : (4 : Int) ≤ (m : Int) + 4 := by omega
  have i5 : (m : Int) + 4 ≤ (cap : Int) := by omega
  have i6 : (2 : Int) < (m : Int) + 6 := by omega
  have i7 : (3 : Int) < (m : Int) + 6 := by omega
  have hw1 : IntKind.i64.wrap ((m : Int) + 4) = (m : Int) + 4 := IntWalk.i64_in _ (by omega)
  have hw2 : IntKind.i64.wrap ((m : Int) + 6 - 2) = (m : Int) + 4 := by rw [IntWalk.i64_in _ (by omega)]; omega
  have hw3 : ((m : Int) + 4).toNat = m + 4 := by omega
  have hcap1 : 4 < cap := by omega
  have hcap4 : ¬ cap = 4 := by omega
  have x0 : x < 256 := hx0
  have y0 : y < 256 := hy0
  have hw4 : IntKind.i64.wrap (x : Int) = (x : Int) := IntWalk.i64_in _ (by omega)
  have hw5 : IntKind.i64.wrap (y : Int) = (y : Int) := IntWalk.i64_in _ (by omega)
  go_enter Try.func26, Try.ntmps26
  go_upto_region 1 with fail
  generalize w.alloc _ = W at *
  have hbl := World.block_lt_of_cell? _ _ e0
  have hkl := k1.lt
  have e0d : W.drew.cell? ⟨g, off + 2, none⟩ = some (.int .u8 x) := e0
  have e1d : W.drew.cell? ⟨g, off + 3, none⟩ = some (.int .u8 y) := e1
  have HK := Lib.hid (k1.of (gb_drew (gb_refl W none)) (by simp))
  have HG := Lib.hid (gb_drew g1)
  have G0 := Lib.hid (gb_drew (gb_refl W none))
  clear k1 g1
  go_region_held3 (fun w' => w'.cell? ⟨g, off + 2, none⟩ = some (.int .u8 x) ∧ w'.cell? ⟨g, off + 3, none⟩ = some (.int .u8 y))
    (first | (with_reducible exact ⟨e0d, e1d⟩) | (with_reducible exact ⟨f0, f1⟩) | go_keep | fail)
    ((first
      | (go_at_call 27; refine (bclone_any _ t _ (HS.out.by_ G0.out) (by rw [HSL.out]; omega)).mono ?_; rw [HSL.out]; rintro e w2 ⟨v, rfl, hown, hg⟩; have f0 : w2.cell? ⟨g, off + 2, none⟩ = some (.int .u8 x) := (by rw [← e0d]; exact gb_cell hg hbl (by simp) _); have f1 : w2.cell? ⟨g, off + 3, none⟩ = some (.int .u8 y) := (by rw [← e1d]; exact gb_cell hg hbl (by simp) _); have HG2 := Lib.hid (gb_none HG.out hg); have HK2 := Lib.hid (HK.out.of hg (by simp)); obtain ⟨va, vc, hv⟩ := own_slc hown; subst hv; have HO := Lib.hid hown; have k2f := HK2.out.frozen; have z0c := HK2.out.cell 0; have z1c := HK2.out.cell 1; have z2c := HK2.out.cell 2; clear hown hg)))
  have f9 := HK2.out.all [.int .i64 x, .int .i64 y, .slice va m vc] rfl
  have o9 := ownsRow_set HO.out HK2.out (by decide) [.int .i64 x, .int .i64 y, .slice va m vc]
  have g9 := gb_new HG2.out (setC_gb w.heap.size [.int .i64 x, .int .i64 y, .slice va m vc] w2 0) (Nat.le_refl _)
  have hs9 := HG.out.size
  simp only [setC] at f9 o9 g9
  clear hw1 hw2 hw3 hw4 hw5 z0c z1c z2c k2f f0 f1 e0d e1d e0 e1
  generalize World.setCell _ ⟨w.heap.size, 2, none⟩ _ = W9 at *
  have f9c := f9.cell
  go_wp2_with fail
  refine bodyPost_ret (v := .agg #[.int .i64 x, .int .i64 y, .slice va m vc]) (by simp [results, Try.results26, go_sem, f9c]) rfl ?_
  exact ⟨_, rfl, own_mono o9 hs9, g9⟩
end Go.Proofs.Ytolkjklejcealaa
