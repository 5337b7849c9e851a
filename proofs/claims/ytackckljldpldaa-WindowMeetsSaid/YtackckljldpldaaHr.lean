/- Stage 6, the document's Meet and Hull. -/
import Derived.Test.YtackckljldpldaaHu
namespace Go.Proofs.Ytackckljldpldaa
open Go.RowKit
attribute [local go_sem ↓] Go.wp_at_zero Go.wp_at_succ

set_option maxRecDepth 100000 in
set_option maxHeartbeats 16000000 in
theorem rMeet_any (lv : Value) (l : List (Int × Int)) (w : World) (h : Sl w lv 2 l.length (l.flatMap spL)) :
    Calls Try.prog 37 #[lv] w fun e w' => e = .returned (.tuple #[.agg #[.int .i64 (meetSp l).1.1, .int .i64 (meetSp l).1.2], .bool (meetSp l).2]) ∧ w.grownBy w' none := by
  obtain ⟨a, cap, rfl, hn, hm, _⟩ := h.shape
  unfold maxLen at hm
  have HSL := Lib.hid h
  have PN := Lib.hid (fun w => nothing_any w)
  obtain ⟨na, nb, hno⟩ : ∃ a b, nothingSp = (a, b) := ⟨_, _, rfl⟩
  have HNO := Lib.hid hno
  rw [hno] at PN
  dsimp only at PN
  have k2 := Bk.new w #[.int .i64 0, .int .i64 0] 29
  have g2 := gb_alloc (gb_refl w none) (.cells #[.int .i64 0, .int .i64 0] 29)
  have K2 := Lib.hid (And.intro k2 g2)
  obtain ⟨r, hr⟩ : ∃ r, meetSp l = r := ⟨_, rfl⟩
  rw [hr]
  have HR := Lib.hid hr
  clear h hno k2 g2 hr
  obtain hl | ⟨p, l', hl⟩ : l = [] ∨ ∃ p l', l = p :: l' := by
    cases l with
    | nil => exact .inl rfl
    | cons p l' => exact .inr ⟨p, l', rfl⟩
  · have hr : r = ((na, nb), true) := by rw [← HR.out, hl, meetSp, HNO.out]
    have h0 : l.length = 0 := by rw [hl]; rfl
    subst hr
    rw [h0]
    clear hn
    go_enter Try.func37, Try.ntmps37
    go_upto_region 1 with fail
    generalize w.alloc _ = W1 at *
    go_wp2_with fail
    refine (PN.out _).mono ?_
    rintro e W8 ⟨rfl, hg8⟩
    have k8 := K2.out.1.of hg8 (by simp)
    have F := fin2 k8 (Nat.le_refl _) (gb_none K2.out.2 hg8) na nb
    have k2c := k8.cell
    have k2f := k8.frozen
    simp only [setC] at F
    have HF9 := Lib.hid F
    clear F k8 hg8
    go_wp2_with fail
    clear k2c k2f
    generalize World.setCell _ ⟨w.heap.size, 1, none⟩ _ = W9 at *
    have f9c := HF9.out.1.cell
    refine bodyPost_ret (v := .tuple #[.agg #[.int .i64 na, .int .i64 nb], .bool true]) (by simp [results, Try.results37, go_sem, f9c]) rfl ?_
    exact ⟨rfl, HF9.out.2⟩
  · have h0 : 0 < l.length := by rw [hl]; simp
    have HR2 := Lib.hid (show r = if (meetL p.1 p.2 (l.drop 1)).2 < (meetL p.1 p.2 (l.drop 1)).1 then ((na, nb), false) else (meetL p.1 p.2 (l.drop 1), true) by rw [← HR.out, hl, List.drop_one, List.tail_cons, meetSp, HNO.out])
    have hp : l.getD 0 (0, 0) = p := by rw [hl]; rfl
    obtain ⟨g, off, cap', hv, _, e0, e1⟩ := HSL.out.sp h0
    injection hv with hv1 _ hv3
    subst hv1 hv3
    rw [hp] at e0 e1
    simp only [Nat.zero_mul, Nat.add_zero] at e0 e1
    have e0' := cell_by e0 K2.out.2
    have e1' := cell_by e1 K2.out.2
    have i1 : (0 : Int) < (l.length : Int) := by omega
    have i2 : ((l.length : Int) == 0) = false := beq_false_of_ne (by omega)
    clear e0 e1 HR hl hp HNO
    go_enter Try.func37, Try.ntmps37
    go_upto_region 1 with fail
    generalize w.alloc _ = W1 at *
    have g4 := gb_alloc (gb_refl W1 none) (.cells #[.int .i64 p.1, .int .i64 p.2] 29)
    have HS4 := Lib.hid (⟨K2.out.1.of g4 (by simp), Bk.new W1 _ _, K2.out.1.lt, gb_none K2.out.2 g4⟩ : MeS w W1.heap.size p.1 p.2 (W1.alloc (.cells #[.int .i64 p.1, .int .i64 p.2] 29)))
    clear g4 K2
    go_upto_region 4 with fail
    clear e0' e1' i1 i2
    generalize W1.alloc _ = W4 at *
    generalize W1.heap.size = n4 at *
    go_wp2_with fail
    go_loopw [5] (fun i wr => ∃ (k : Nat) (x y : Int), k ≤ l.length ∧ i = .int .i64 k ∧ Hid (meetL p.1 p.2 (l.drop 1) = meetL x y (l.drop k)) ∧ Hid (MeS w n4 x y wr)) (fun i _ => l.length - (intOf i).toNat)
    case atStart => exact ⟨1, p.1, p.2, h0, rfl, Lib.hid rfl, HS4⟩
    case round =>
      obtain ⟨k, x, y, hk, rfl, HE, HS⟩ := hrel
      clear HS4
      by_cases hlt : k < l.length
      · have hstart := True.intro
        obtain ⟨g', off', cap', hv, _, e0, e1⟩ := (HSL.out.by_ HS.out.g).sp hlt
        injection hv with hv1 _ hv3
        subst hv3
        injection hv1 with hv1
        injection hv1 with hv4 hv5
        subst hv4 hv5
        have hd : l.drop k = l.getD k (0, 0) :: l.drop (k + 1) := by
          rw [List.drop_eq_getElem_cons hlt]
          simp [List.getD_eq_getElem?_getD, List.getElem?_eq_getElem hlt]
        obtain ⟨q, hq⟩ : ∃ q, l.getD k (0, 0) = q := ⟨_, rfl⟩
        rw [hq] at e0 e1 hd
        obtain ⟨qx, qy⟩ := q
        have i0 : (0 : Int) ≤ (k : Int) := by omega
        have i1 : (k : Int) < (l.length : Int) := by omega
        have i2 : decide ((k : Int) < (l.length : Int)) = true := by simpa using i1
        have HE2 := Lib.hid (show meetL p.1 p.2 (l.drop 1) = meetL (max x qx) (min y qy) (l.drop (k + 1)) by rw [HE.out, hd, meetL])
        clear hq hd HE hstart
        obtain ⟨A, hA⟩ : ∃ A, (if x < qx then qx else x) = A := ⟨_, rfl⟩
        obtain ⟨B, hB⟩ : ∃ B, (if qy < y then qy else y) = B := ⟨_, rfl⟩
        have mA : max x qx = A := by rw [← hA]; split <;> omega
        have mB : min y qy = B := by rw [← hB]; split <;> omega
        rw [mA, mB] at HE2
        have F := (HS.out.put A B)
        simp only [setC] at F
        have HS8 := Lib.hid (F.by_ (gb_drew (gb_refl _ none)))
        clear F mA mB
        go_upto_region 7 with fail
        have x0 : wr.cell? ⟨n4, 0, none⟩ = some (.int .i64 x) := HS.out.k4.cell 0
        have x1 : wr.cell? ⟨n4, 1, none⟩ = some (.int .i64 y) := HS.out.k4.cell 1
        have xf : ∀ o, wr.frozen? ⟨n4, o, none⟩ = false := HS.out.k4.frozen
        go_region
        clear hA hB x0 x1 e0 e1 xf HS
        generalize World.drew _ = W8 at *
        go_wp2_with fail
        exact ⟨⟨k + 1, A, B, by omega, by go_num, HE2, HS8⟩, by simp [intOf]; omega⟩
      · obtain rfl : k = l.length := by omega
        have hE := HE.out
        rw [List.drop_length, meetL] at hE
        have hr := HR2.out
        rw [hE] at hr
        dsimp only at hr
        have HR3 := Lib.hid hr
        clear HE hE hr HR2
        have x0 : wr.cell? ⟨n4, 0, none⟩ = some (.int .i64 x) := HS.out.k4.cell 0
        have x1 : wr.cell? ⟨n4, 1, none⟩ = some (.int .i64 y) := HS.out.k4.cell 1
        by_cases c1 : y < x
        · have c1' : decide (y < x) = true := by simpa using c1
          have hr : r = ((na, nb), false) := by rw [HR3.out, if_pos c1]
          subst hr
          go_wp2_with fail
          refine (PN.out _).mono ?_
          rintro e W8 ⟨rfl, hg8⟩
          have HS8 := Lib.hid (HS.out.by_ hg8)
          clear hg8 HS x0 x1
          have k8 := HS8.out.k2
          have F := fin2 k8 (Nat.le_refl _) HS8.out.g na nb
          have k2c := k8.cell
          have k2f := k8.frozen
          simp only [setC] at F
          have HF9 := Lib.hid F
          clear F k8
          go_wp2_with fail
          clear k2c k2f
          generalize World.setCell _ ⟨w.heap.size, 1, none⟩ _ = W9 at *
          have f9c := HF9.out.1.cell
          refine bodyPost_ret (v := .tuple #[.agg #[.int .i64 na, .int .i64 nb], .bool false]) (by simp [results, Try.results37, go_sem, f9c]) rfl ?_
          exact ⟨rfl, HF9.out.2⟩
        · have c1' : decide (y < x) = false := by simpa using c1
          have hr : r = ((x, y), true) := by rw [HR3.out, if_neg c1]
          subst hr
          have k8 := HS.out.k2
          have F := fin2 k8 (Nat.le_refl _) HS.out.g x y
          have k2c := k8.cell
          have k2f := k8.frozen
          simp only [setC] at F
          have HF9 := Lib.hid F
          clear F k8
          go_wp2_with fail
          clear k2c k2f x0 x1
          generalize World.setCell _ ⟨w.heap.size, 1, none⟩ _ = W9 at *
          have f9c := HF9.out.1.cell
          refine bodyPost_ret (v := .tuple #[.agg #[.int .i64 x, .int .i64 y], .bool true]) (by simp [results, Try.results37, go_sem, f9c]) rfl ?_
          exact ⟨rfl, HF9.out.2⟩

def hullR : Bool → Int → Int → List (Int × Int) → Int × Int
  | _, x, y, [] => (x, y)
  | so, x, y, p :: l => if p.2 < p.1 then hullR so x y l else if so then hullR true (min x p.1) (max y p.2) l else hullR true p.1 p.2 l
theorem hullR_true (l : List (Int × Int)) : ∀ x y, hullR true x y l = hullL x y l := by
  induction l with
  | nil => exact fun _ _ => rfl
  | cons p l ih =>
    intro x y
    unfold hullR hullL
    rw [ih, ih]
    simp
theorem hullL_le (l : List (Int × Int)) : ∀ x y, (hullL x y l).1 ≤ x ∧ y ≤ (hullL x y l).2 := by
  induction l with
  | nil => exact fun x y => ⟨Int.le_refl _, Int.le_refl _⟩
  | cons p l ih =>
    intro x y
    unfold hullL
    split
    · exact ih x y
    · have := ih (min x p.1) (max y p.2)
      omega
theorem hull_eq (l : List (Int × Int)) (hb : ∀ p ∈ l, (-9223372036854775808 ≤ p.1 ∧ p.1 ≤ 9223372036854775807) ∧ (-9223372036854775808 ≤ p.2 ∧ p.2 ≤ 9223372036854775807)) : hullR false nothingSp.1 nothingSp.2 l = hullSp l := by
  induction l with
  | nil =>
    unfold hullSp hullL hullR
    rw [if_pos (by dsimp only; omega)]
  | cons p l ih =>
    have hp := hb p (List.mem_cons_self ..)
    have ih := ih (fun q hq => hb q (List.mem_cons_of_mem _ hq))
    unfold hullSp hullR hullL
    by_cases c : p.2 < p.1
    · rw [if_pos c, if_pos c, ih]; rfl
    · rw [if_neg c, if_neg c, if_neg Bool.false_ne_true, show min 9223372036854775807 p.1 = p.1 by omega, show max (-9223372036854775808) p.2 = p.2 by omega, hullR_true]
      have := hullL_le l p.1 p.2
      rw [if_neg (by omega)]

set_option maxRecDepth 100000 in
set_option maxHeartbeats 16000000 in
theorem rHull_any (lv : Value) (l : List (Int × Int)) (w : World) (h : Sl w lv 2 l.length (l.flatMap spL)) (hb : ∀ p ∈ l, (-9223372036854775808 ≤ p.1 ∧ p.1 ≤ 9223372036854775807) ∧ (-9223372036854775808 ≤ p.2 ∧ p.2 ≤ 9223372036854775807)) :
    Calls Try.prog 39 #[lv] w fun e w' => e = .returned (.agg #[.int .i64 (hullSp l).1, .int .i64 (hullSp l).2]) ∧ w.grownBy w' none := by
  obtain ⟨a, cap, rfl, hn, hm, _⟩ := h.shape
  unfold maxLen at hm
  have HSL := Lib.hid h
  have PN := Lib.hid (fun w => nothing_any w)
  obtain ⟨r, hr⟩ : ∃ r, hullSp l = r := ⟨_, rfl⟩
  rw [hr]
  rw [← hull_eq l hb] at hr
  obtain ⟨na, nb, hno⟩ : ∃ a b, nothingSp = (a, b) := ⟨_, _, rfl⟩
  rw [hno] at PN hr
  dsimp only at PN hr
  have HR := Lib.hid hr
  have K2 := Lib.hid (And.intro (Bk.new w #[.int .i64 0, .int .i64 0] 29) (gb_alloc (gb_refl w none) (.cells #[.int .i64 0, .int .i64 0] 29)))
  clear h hno hr hb
  go_enter Try.func39, Try.ntmps39
  go_upto_region 1 with fail
  generalize w.alloc _ = W1 at *
  go_wp2_with fail
  refine (PN.out _).mono ?_
  rintro e W2 ⟨rfl, hg⟩
  have g4 := gb_alloc hg (.cells #[.int .i64 na, .int .i64 nb] 29)
  have HS4 := Lib.hid (⟨K2.out.1.of g4 (by simp), Bk.new W2 _ _, (K2.out.1.of hg (by simp)).lt, gb_none K2.out.2 g4⟩ : MeS w W2.heap.size na nb (W2.alloc (.cells #[.int .i64 na, .int .i64 nb] 29)))
  clear hg g4 K2 PN
  go_upto_region 2 with fail
  generalize W2.alloc _ = W4 at *
  generalize W2.heap.size = n3 at *
  go_wp2_with fail
  go_loopg [4, 5] l.length (fun kx i4 i5 wr => ∃ (k : Nat) (so : Bool) (x y : Int), k ≤ l.length ∧ l.length - k ≤ kx ∧ i4 = .bool so ∧ i5 = .int .i64 k ∧ Hid (hullR false na nb l = hullR so x y (l.drop k)) ∧ Hid (MeS w n3 x y wr))
  case atStart => exact ⟨0, false, na, nb, Nat.zero_le _, by omega, rfl, rfl, Lib.hid rfl, HS4⟩
  case round =>
    obtain ⟨k, so, x, y, hk, hkx, rfl, rfl, HE, HS⟩ := hrel
    clear HS4
    by_cases hlt : k < l.length
    · have hstart := True.intro
      obtain ⟨g', off', cap', hv, _, e0, e1⟩ := HSL.out.sp hlt
      injection hv with hv1 _ hv3
      subst hv3
      subst hv1
      have hd : l.drop k = l.getD k (0, 0) :: l.drop (k + 1) := by
        rw [List.drop_eq_getElem_cons hlt]
        simp [List.getD_eq_getElem?_getD, List.getElem?_eq_getElem hlt]
      obtain ⟨q, hq⟩ : ∃ q, l.getD k (0, 0) = q := ⟨_, rfl⟩
      rw [hq] at e0 e1 hd
      obtain ⟨qx, qy⟩ := q
      have i0 : (0 : Int) ≤ (k : Int) := by omega
      have i1 : (k : Int) < (l.length : Int) := by omega
      have i2 : decide ((k : Int) < (l.length : Int)) = true := by simpa using i1
      have EW := Lib.hid (And.intro e0 e1)
      have e0 := cell_by e0 HS.out.g
      have e1 := cell_by e1 HS.out.g
      have HE2 := Lib.hid (show hullR false na nb l = if qy < qx then hullR so x y (l.drop (k + 1)) else if so then hullR true (min x qx) (max y qy) (l.drop (k + 1)) else hullR true qx qy (l.drop (k + 1)) by rw [HE.out, hd, hullR])
      clear hq hd HE hstart
      go_upto_region 5 with fail
      go_quiet (fail)
      have HS6 := Lib.hid (HS.out.by_ (gb_drewN (gb_refl wr none) nq))
      have f0 := cell_by EW.out.1 HS6.out.g
      have f1 := cell_by EW.out.2 HS6.out.g
      clear e0 e1 HS
      generalize wr.drewN nq = W6 at *
      by_cases c1 : qy < qx
      · have c1' : decide (qy < qx) = true := by simpa using c1
        have HE3 := Lib.hid (HE2.out.trans (if_pos c1))
        clear HE2 f0 f1
        go_wp2_with fail
        go_roundg (l.length - (k + 1))
        case measure => omega
        case rel => exact ⟨k + 1, so, x, y, by omega, by omega, rfl, by go_num, HE3, HS6⟩
      · have c1' : decide (qy < qx) = false := by simpa using c1
        have hE3 := HE2.out.trans (if_neg c1)
        clear HE2
        cases so with
        | true =>
          obtain ⟨A, hA⟩ : ∃ A, (if qx < x then qx else x) = A := ⟨_, rfl⟩
          obtain ⟨B, hB⟩ : ∃ B, (if y < qy then qy else y) = B := ⟨_, rfl⟩
          have mA : min x qx = A := by rw [← hA]; split <;> omega
          have mB : max y qy = B := by rw [← hB]; split <;> omega
          rw [if_pos rfl, mA, mB] at hE3
          have HE3 := Lib.hid hE3
          have HS7 := HS6
          have F := (HS7.out.put A B)
          simp only [setC] at F
          have HS9 := Lib.hid (F.by_ (gb_drew (gb_refl _ none)))
          clear F mA mB hE3 HS6
          go_upto_region 8 with fail
          have x0 : W6.cell? ⟨n3, 0, none⟩ = some (.int .i64 x) := HS7.out.k4.cell 0
          have x1 : W6.cell? ⟨n3, 1, none⟩ = some (.int .i64 y) := HS7.out.k4.cell 1
          have xf : ∀ o, W6.frozen? ⟨n3, o, none⟩ = false := HS7.out.k4.frozen
          go_region
          clear hA hB x0 x1 f0 f1 xf HS7
          generalize World.drew _ = W9 at *
          go_wp2_with fail
          go_roundg (l.length - (k + 1))
          case measure => omega
          case rel => exact ⟨k + 1, true, A, B, by omega, by omega, rfl, by go_num, HE3, HS9⟩
        | false =>
          obtain ⟨A, hA'⟩ : ∃ A, qx = A := ⟨_, rfl⟩
          obtain ⟨B, hB'⟩ : ∃ B, qy = B := ⟨_, rfl⟩
          subst hA' hB'
          have hA : (if qx < qx then qx else qx) = qx := by simp
          have hB : (if qy < qy then qy else qy) = qy := by simp
          rw [if_neg (by simp)] at hE3
          have HE3 := Lib.hid hE3
          have F0 := (HS6.out.put qx qy)
          simp only [setC] at F0
          have HS7 := Lib.hid F0
          have kc := HS6.out.k4.cell
          have kf := HS6.out.k4.frozen
          clear F0 hE3 HS6
          go_upto_region 8 with fail
          clear kc kf f0 f1
          generalize World.setCell _ ⟨n3, 1, none⟩ _ = W7 at *
          have f0 := cell_by EW.out.1 HS7.out.g
          have f1 := cell_by EW.out.2 HS7.out.g
          have F := (HS7.out.put qx qy)
          simp only [setC] at F
          have HS9 := Lib.hid (F.by_ (gb_drew (gb_refl _ none)))
          clear F
          have x0 : W7.cell? ⟨n3, 0, none⟩ = some (.int .i64 qx) := HS7.out.k4.cell 0
          have x1 : W7.cell? ⟨n3, 1, none⟩ = some (.int .i64 qy) := HS7.out.k4.cell 1
          have xf : ∀ o, W7.frozen? ⟨n3, o, none⟩ = false := HS7.out.k4.frozen
          go_region
          clear hA hB x0 x1 f0 f1 xf HS7
          generalize World.drew _ = W9 at *
          go_wp2_with fail
          go_roundg (l.length - (k + 1))
          case measure => omega
          case rel => exact ⟨k + 1, true, qx, qy, by omega, by omega, rfl, by go_num, HE3, HS9⟩
    · obtain rfl : k = l.length := by omega
      have i2 : decide ((l.length : Int) < (l.length : Int)) = false := by simp
      have hE := HE.out
      rw [List.drop_length, hullR] at hE
      have hr : r = (x, y) := by rw [← HR.out, hE]
      subst hr
      have k3c := HS.out.k4.cell
      have k8 := HS.out.k2
      have F := fin2 k8 (Nat.le_refl _) HS.out.g x y
      have k2c := k8.cell
      have k2f := k8.frozen
      simp only [setC] at F
      have HF9 := Lib.hid F
      clear F k8
      go_wp2_with fail
      clear k2c k2f k3c
      generalize World.setCell _ ⟨w.heap.size, 1, none⟩ _ = W9 at *
      have f9c := HF9.out.1.cell
      refine bodyPost_ret (v := .agg #[.int .i64 x, .int .i64 y]) (by simp [results, Try.results39, go_sem, f9c]) rfl ?_
      exact ⟨rfl, HF9.out.2⟩
end Go.Proofs.Ytackckljldpldaa
