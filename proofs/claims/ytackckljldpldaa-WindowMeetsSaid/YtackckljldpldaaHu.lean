/- Stage 6, the program's Hull. -/
import Derived.Test.YtackckljldpldaaMe
namespace Go.Proofs.Ytackckljldpldaa
open Go.RowKit
attribute [local go_sem ↓] Go.wp_at_zero Go.wp_at_succ

def hullL (x y : Int) : List (Int × Int) → Int × Int
  | [] => (x, y)
  | p :: l => if p.2 < p.1 then hullL x y l else hullL (min x p.1) (max y p.2) l
def hullSp (l : List (Int × Int)) : Int × Int :=
  if (hullL 9223372036854775807 (-9223372036854775808) l).2 < (hullL 9223372036854775807 (-9223372036854775808) l).1 then nothingSp else hullL 9223372036854775807 (-9223372036854775808) l

set_option maxRecDepth 100000 in
set_option maxHeartbeats 16000000 in
theorem pHull_any (lv : Value) (l : List (Int × Int)) (w : World) (h : Sl w lv 2 l.length (l.flatMap spL)) :
    Calls Try.prog 38 #[lv] w fun e w' => e = .returned (.agg #[.int .i64 (hullSp l).1, .int .i64 (hullSp l).2]) ∧ w.grownBy w' none := by
  obtain ⟨a, cap, rfl, hn, hm, _⟩ := h.shape
  unfold maxLen at hm
  have HSL := Lib.hid h
  have PN := Lib.hid (fun w => pnothing_any w)
  obtain ⟨na, nb, hno⟩ : ∃ a b, nothingSp = (a, b) := ⟨_, _, rfl⟩
  rw [hno] at PN
  dsimp only at PN
  obtain ⟨r, hr⟩ : ∃ r, hullSp l = r := ⟨_, rfl⟩
  rw [hr]
  unfold hullSp at hr
  rw [hno] at hr
  have HR := Lib.hid hr
  have k2 := Bk.new w #[.int .i64 0, .int .i64 0] 29
  have g2 := gb_alloc (gb_refl w none) (.cells #[.int .i64 0, .int .i64 0] 29)
  have g4 := gb_alloc (gb_refl (w.alloc (.cells #[.int .i64 0, .int .i64 0] 29)) none) (.cells #[.int .i64 9223372036854775807, .int .i64 (-9223372036854775808)] 29)
  have HS4 := Lib.hid (⟨k2.of g4 (by simp), Bk.new _ _ _, k2.lt, gb_none g2 g4⟩ : MeS w (w.alloc (.cells #[.int .i64 0, .int .i64 0] 29)).heap.size 9223372036854775807 (-9223372036854775808) _)
  clear h hno hr k2 g2 g4
  go_enter Try.func38, Try.ntmps38
  go_upto_region 1 with fail
  generalize w.alloc _ = W1 at *
  go_upto_region 2 with fail
  generalize W1.alloc _ = W4 at *
  generalize W1.heap.size = n3 at *
  go_wp2_with fail
  go_loopw [9] (fun i wr => ∃ (k : Nat) (x y : Int), k ≤ l.length ∧ i = .int .i64 k ∧ Hid (hullL 9223372036854775807 (-9223372036854775808) l = hullL x y (l.drop k)) ∧ Hid (MeS w n3 x y wr)) (fun i _ => l.length - (intOf i).toNat)
  case atStart => exact ⟨0, _, _, Nat.zero_le _, rfl, Lib.hid rfl, HS4⟩
  case round =>
    obtain ⟨k, x, y, hk, rfl, HE, HS⟩ := hrel
    clear HS4
    by_cases hlt : k < l.length
    · obtain ⟨g, off, cap', hv, _, e0, e1⟩ := (HSL.out.by_ HS.out.g).sp hlt
      injection hv with hv1 _ hv3
      subst hv1 hv3
      have hd : l.drop k = l.getD k (0, 0) :: l.drop (k + 1) := by
        rw [List.drop_eq_getElem_cons hlt]
        simp [List.getD_eq_getElem?_getD, List.getElem?_eq_getElem hlt]
      obtain ⟨q, hq⟩ : ∃ q, l.getD k (0, 0) = q := ⟨_, rfl⟩
      rw [hq] at e0 e1 hd
      obtain ⟨qx, qy⟩ := q
      have HE2 := Lib.hid (show hullL 9223372036854775807 (-9223372036854775808) l = if qy < qx then hullL x y (l.drop (k + 1)) else hullL (min x qx) (max y qy) (l.drop (k + 1)) by rw [HE.out, hd, hullL])
      have i0 : (0 : Int) ≤ (k : Int) := by omega
      have i1 : (k : Int) < (l.length : Int) := by omega
      clear hq hd HE
      have g7 := gb_alloc (gb_refl wr none) (.cells #[.int .i64 qx, .int .i64 qy] 29)
      have HS7 := Lib.hid (HS.out.by_ g7)
      have HK7 := Lib.hid (Bk.new wr #[.int .i64 qx, .int .i64 qy] 29)
      have hne : n3 ≠ wr.heap.size := Nat.ne_of_lt HS.out.k4.lt
      have HEM := Lib.hid (fun w => empty_any qx qy w)
      clear g7 HS
      go_upto_region 5 with fail
      clear e0 e1
      generalize wr.alloc _ = W7 at *
      generalize wr.heap.size = n6 at *
      have q0 : W7.cell? ⟨n6, 0, none⟩ = some (.int .i64 qx) := HK7.out.cell 0
      have q1 : W7.cell? ⟨n6, 1, none⟩ = some (.int .i64 qy) := HK7.out.cell 1
      go_wp2_with fail
      refine (HEM.out _).mono ?_
      rintro e W8 ⟨rfl, hg8⟩
      have HS8 := Lib.hid (HS7.out.by_ hg8)
      have HK8 := Lib.hid (HK7.out.of hg8 (by simp))
      clear q0 q1 hg8 HS7 HK7 HEM
      by_cases c1 : qy < qx
      · rw [decide_eq_true c1]
        have HE3 := Lib.hid (HE2.out.trans (if_pos c1))
        clear HE2
        go_wp2_with fail
        exact ⟨⟨k + 1, x, y, by omega, by go_num, HE3, HS8⟩, by simp [intOf]; omega⟩
      · rw [decide_eq_false c1]
        have hE3 := HE2.out.trans (if_neg c1)
        obtain ⟨A, hA⟩ : ∃ A, (if qx < x then qx else x) = A := ⟨_, rfl⟩
        obtain ⟨B, hB⟩ : ∃ B, (if y < qy then qy else y) = B := ⟨_, rfl⟩
        have mA : min x qx = A := by rw [← hA]; split <;> omega
        have mB : max y qy = B := by rw [← hB]; split <;> omega
        rw [mA, mB] at hE3
        have HE3 := Lib.hid hE3
        clear HE2 hE3
        have F := (HS8.out.put A B)
        simp only [setC] at F
        have HS9 := Lib.hid (F.by_ (gb_drew (gb_refl _ none)))
        clear F mA mB
        go_upto_region 6 with fail
        have x0 : W8.cell? ⟨n3, 0, none⟩ = some (.int .i64 x) := HS8.out.k4.cell 0
        have x1 : W8.cell? ⟨n3, 1, none⟩ = some (.int .i64 y) := HS8.out.k4.cell 1
        have q0 : W8.cell? ⟨n6, 0, none⟩ = some (.int .i64 qx) := HK8.out.cell 0
        have q1 : W8.cell? ⟨n6, 1, none⟩ = some (.int .i64 qy) := HK8.out.cell 1
        have xf : ∀ o, W8.frozen? ⟨n3, o, none⟩ = false := HS8.out.k4.frozen
        go_region
        clear hA hB x0 x1 q0 q1 xf HS8 HK8
        generalize World.drew _ = W9 at *
        go_wp2_with fail
        exact ⟨⟨k + 1, A, B, by omega, by go_num, HE3, HS9⟩, by simp [intOf]; omega⟩
    · obtain rfl : k = l.length := by omega
      have hE := HE.out
      rw [List.drop_length, hullL] at hE
      have hr := HR.out
      rw [hE] at hr
      dsimp only at hr
      have HR2 := Lib.hid hr
      clear HE hE hr HR
      have x0 : wr.cell? ⟨n3, 0, none⟩ = some (.int .i64 x) := HS.out.k4.cell 0
      have x1 : wr.cell? ⟨n3, 1, none⟩ = some (.int .i64 y) := HS.out.k4.cell 1
      have HEM := Lib.hid (fun w => empty_any x y w)
      go_wp2_with fail
      refine (HEM.out _).mono ?_
      rintro e W7 ⟨rfl, hg7⟩
      have HS7 := Lib.hid (HS.out.by_ hg7)
      clear x0 x1 hg7 HS HEM
      by_cases c1 : y < x
      · rw [decide_eq_true c1]
        have hr : r = (na, nb) := by rw [← HR2.out, if_pos c1]
        subst hr
        go_wp2_with fail
        refine (PN.out _).mono ?_
        rintro e W8 ⟨rfl, hg8⟩
        have HS8 := Lib.hid (HS7.out.by_ hg8)
        clear hg8 HS7
        have k8 := HS8.out.k2
        have F := fin2 k8 (Nat.le_refl _) HS8.out.g na nb
        have k2c := k8.cell
        have k2f := k8.frozen
        simp only [setC] at F
        have HF9 := Lib.hid F
        clear F k8
        go_wp2_with fail
        clear k2c k2f
        generalize World.setCell _ ⟨w.heap.size, 1, none⟩ _ = W9 at *
        have f9c := HF9.out.1.cell
        refine bodyPost_ret (v := .agg #[.int .i64 na, .int .i64 nb]) (by simp [results, Try.results38, go_sem, f9c]) rfl ?_
        exact ⟨rfl, HF9.out.2⟩
      · rw [decide_eq_false c1]
        have hr : r = (x, y) := by rw [← HR2.out, if_neg c1]
        subst hr
        have x0 : W7.cell? ⟨n3, 0, none⟩ = some (.int .i64 x) := HS7.out.k4.cell 0
        have x1 : W7.cell? ⟨n3, 1, none⟩ = some (.int .i64 y) := HS7.out.k4.cell 1
        have k8 := HS7.out.k2
        have F := fin2 k8 (Nat.le_refl _) HS7.out.g x y
        have k2c := k8.cell
        have k2f := k8.frozen
        simp only [setC] at F
        have HF9 := Lib.hid F
        clear F k8
        go_wp2_with fail
        clear k2c k2f x0 x1
        generalize World.setCell _ ⟨w.heap.size, 1, none⟩ _ = W9 at *
        have f9c := HF9.out.1.cell
        refine bodyPost_ret (v := .agg #[.int .i64 x, .int .i64 y]) (by simp [results, Try.results38, go_sem, f9c]) rfl ?_
        exact ⟨rfl, HF9.out.2⟩
end Go.Proofs.Ytackckljldpldaa
