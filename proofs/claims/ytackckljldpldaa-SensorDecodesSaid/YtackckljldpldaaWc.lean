/- Stage 5, the sanity check. -/
import Derived.Test.YtackckljldpldaaWb
namespace Go.Proofs.Ytackckljldpldaa
open Go.RowKit
attribute [local go_sem ↓] Go.wp_at_zero Go.wp_at_succ

theorem sl_newn (W : World) (l : List Nat) (T : TypeId) (n b : Nat) (hb : W.heap.size = b) (hl : l.length = n) (hm : n ≤ maxLen) : Sl (W.alloc (.cells (bytes l).toArray T)) (.slice (some ⟨b, 0, none⟩) n n) 1 l.length (bytes l) := by
  subst hb hl
  refine ⟨bytes_len l, .inr ⟨_, 0, l.length, rfl, Nat.le_refl _, hm, fun j hj => ?_⟩⟩
  rw [Nat.zero_add, (Bk.new W (bytes l).toArray T).cell j, List.getD_eq_getElem?_getD, List.getElem?_toArray, List.getElem?_eq_getElem (by rw [bytes_len]; exact hj)]
  rfl
def sn500 : Sn := ⟨0, 3, 0, 0, 500, 3, 0, 1⟩
theorem dec500 : decSn [sn500] ⟨0, 1, [0, 101]⟩ 7 = ((0, 7, 47, 54), 0) := by kernel_rfl
theorem ck500 : ckSn sn500 = 0 := by kernel_rfl
theorem val500 : valSn sn500 101 = (47, 54) := by kernel_rfl

set_option maxRecDepth 100000 in
set_option maxHeartbeats 4000000 in
theorem awake_any (w : World) : Calls Try.prog 19 #[] w fun e w' => e = .returned (.bool true) ∧ w.grownBy w' none := by
  have g1 := gb_alloc (gb_refl w none) (.cells (senL sn500).toArray 24)
  have k1 := Bk.new w (senL sn500).toArray 24
  have sz1 := World.size_alloc w (.cells (senL sn500).toArray 24)
  simp only [senL, sn500] at g1 k1 sz1
  go_enter Try.func19, Try.ntmps19
  go_upto_region 2 with fail
  generalize w.alloc _ = W1 at *
  have k1c := k1.cell
  have G1 := Lib.hid g1
  have K1 := Lib.hid k1
  clear g1 k1
  clear sz1
  have HD : Hid (∃ W2, ((W1.alloc (.cells #[.int .i64 0, .int .i64 3, .int .i64 0, .int .i64 0, .int .i64 500, .int .i64 3, .int .i64 0, .int .i64 1] 24)).alloc (.cells #[.int .u8 0, .int .u8 101] 5)) = W2 ∧ W1.grownBy W2 none ∧ Calls Try.prog 25 #[.slice (some ⟨W1.heap.size, 0, none⟩) 1 1, .agg #[.int .i64 0, .int .i64 1, .slice (some ⟨W1.heap.size + 1, 0, none⟩) 2 2], .int .i64 7] W2 fun e w' => e = .returned (.tuple #[.agg #[.int .i64 0, .int .i64 7, .int .i64 47, .int .i64 54], .int .i64 0]) ∧ W2.grownBy w' none) := by
    refine Lib.hid ⟨_, rfl, gb_alloc (gb_alloc (gb_refl W1 none) _) _, ?_⟩
    have s2 := (sl_new W1 (senL sn500).toArray 24 _ rfl (by simp [maxLen]) (sz := 8) rfl).by_ (gb_alloc (gb_refl _ none) (.cells #[.int .u8 0, .int .u8 101] 5))
    have s3 := sl_newn (W1.alloc (.cells (senL sn500).toArray 24)) [0, 101] 5 2 _ (World.size_alloc _ _) rfl (by simp [maxLen])
    have hd := pDec_any (.slice (some ⟨W1.heap.size, 0, none⟩) 1 1) [sn500] ⟨0, 1, [0, 101]⟩ (.slice (some ⟨W1.heap.size + 1, 0, none⟩) 2 2) 7 _ s2 s3 (by decide)
    rw [dec500] at hd
    exact hd
  obtain ⟨W2, hW2, g2, hd⟩ := HD.out
  clear HD
  have HE := Lib.hid hW2
  have HD := Lib.hid hd
  have G2 := Lib.hid (gb_none G1.out g2)
  have K2 := Lib.hid (K1.out.of g2 (by simp))
  clear hW2 g2 hd
  go_wp2_with fail
  rw [HE.out]
  refine HD.out.mono ?_
  rintro e W3 ⟨rfl, hg⟩
  have G3 := Lib.hid (gb_none G2.out hg)
  have K3 := Lib.hid (K2.out.of hg (by simp))
  clear hg K1 K2 G1 G2 HE HD k1c
  go_upto_region 3 with fail
  have g4 := gb_alloc (gb_refl W3 none) (.cells #[.int .i64 0, .int .i64 7, .int .i64 47, .int .i64 54] 43)
  have k4 := Bk.new W3 #[.int .i64 0, .int .i64 7, .int .i64 47, .int .i64 54] 43
  have G4 := Lib.hid (gb_none G3.out g4)
  have K4 := Lib.hid (K3.out.of g4 (by simp))
  have M4 := Lib.hid k4
  clear g4 k4 K3 G3
  generalize W3.alloc _ = W4 at *
  have k4c := K4.out.cell
  have CK := Lib.hid (fun w => pCk_any sn500 w)
  have PV := Lib.hid (fun w => pVal_any sn500 101 w (by decide) (by decide))
  rw [ck500] at CK
  rw [val500] at PV
  unfold senL sn500 at CK PV
  dsimp only at CK PV
  go_wp2_with fail
  refine (CK.out _).mono ?_
  rintro e W5 ⟨rfl, hg⟩
  have G5 := Lib.hid (gb_none G4.out hg)
  have K5 := Lib.hid (K4.out.of hg (by simp))
  have M5 := Lib.hid (M4.out.of hg (by simp))
  clear hg K4 M4 G4 k4c
  obtain ⟨na, nb, hno⟩ : ∃ a b, nothingSp = (a, b) := ⟨_, _, rfl⟩
  have PN := Lib.hid (fun w => pnothing_any w)
  have RN := Lib.hid (fun w => nothing_any w)
  rw [hno] at PN RN
  dsimp only at PN RN
  clear hno
  go_wp2_with fail
  refine (PN.out _).mono ?_
  rintro e W6 ⟨rfl, hg⟩
  have G6 := Lib.hid (gb_none G5.out hg)
  have K6 := Lib.hid (K5.out.of hg (by simp))
  have M6 := Lib.hid (M5.out.of hg (by simp))
  clear hg K5 M5 G5
  go_wp2_with fail
  refine (RN.out _).mono ?_
  rintro e W7 ⟨rfl, hg⟩
  have G7 := Lib.hid (gb_none G6.out hg)
  have K7 := Lib.hid (K6.out.of hg (by simp))
  have M7 := Lib.hid (M6.out.of hg (by simp))
  clear hg K6 M6 G6
  have k7c := K7.out.cell
  go_wp2_with fail
  refine (PV.out _).mono ?_
  rintro e W8 ⟨rfl, hg⟩
  have G8 := Lib.hid (gb_none G7.out hg)
  have M8 := Lib.hid (M7.out.of hg (by simp))
  clear hg K7 M7 G7 k7c
  have m8c := M8.out.cell
  go_wp2_with fail
  go_ret
  exact ⟨rfl, G8.out⟩
end Go.Proofs.Ytackckljldpldaa
