/- Stage 6, the program's Meet. -/
import Derived.Test.YtackckljldpldaaA6
import Derived.BigRegion
namespace Go.Proofs.Ytackckljldpldaa
open Go.RowKit
attribute [local go_sem ↓] Go.wp_at_zero Go.wp_at_succ

def spL (p : Int × Int) : List Value := [.int .i64 p.1, .int .i64 p.2]
def meetL (x y : Int) : List (Int × Int) → Int × Int
  | [] => (x, y)
  | p :: l => meetL (max x p.1) (min y p.2) l
def meetSp : List (Int × Int) → (Int × Int) × Bool
  | [] => (nothingSp, true)
  | p :: l => if (meetL p.1 p.2 l).2 < (meetL p.1 p.2 l).1 then (nothingSp, false) else (meetL p.1 p.2 l, true)
theorem meetSp_cons (p : Int × Int) (l : List (Int × Int)) : meetSp (p :: l) = if (meetL p.1 p.2 (p :: l)).2 < (meetL p.1 p.2 (p :: l)).1 then (nothingSp, false) else (meetL p.1 p.2 (p :: l), true) := by
  unfold meetSp
  rw [meetL, show max p.1 p.1 = p.1 by omega, show min p.2 p.2 = p.2 by omega]
theorem Sl.sp {w : World} {lv : Value} {l : List (Int × Int)} (h : Sl w lv 2 l.length (l.flatMap spL)) {k : Nat} (hk : k < l.length) : ∃ g off cap, lv = .slice (some ⟨g, off, none⟩) l.length cap ∧ cap ≤ maxLen ∧ w.cell? ⟨g, off + k * 2, none⟩ = some (.int .i64 (l.getD k (0, 0)).1) ∧ w.cell? ⟨g, off + k * 2 + 1, none⟩ = some (.int .i64 (l.getD k (0, 0)).2) := by
  obtain ⟨a, cap, rfl, hn, hm, h0⟩ := h.shape
  rcases h0 with h0 | ⟨g, off, rfl, hc⟩
  · omega
  have e := fun j hj => Sl.elem (enc := spL) (sz := 2) (fun _ => rfl) (0, 0) hc k j hk hj
  exact ⟨g, off, cap, rfl, hm, e 0 (by omega), e 1 (by omega)⟩

/-- While spans are met: the result, what is met. -/
structure MeS (w : World) (n4 : Nat) (x y : Int) (W : World) : Prop where
  k2 : Bk W w.heap.size #[.int .i64 0, .int .i64 0] 29
  k4 : Bk W n4 #[.int .i64 x, .int .i64 y] 29
  ln : w.heap.size < n4
  g : w.grownBy W none
theorem MeS.by_ {w : World} {n4 : Nat} {x y : Int} {W W' : World} (h : MeS w n4 x y W) (o : W.grownBy W' none) : MeS w n4 x y W' := ⟨h.k2.of o (by simp), h.k4.of o (by simp), h.ln, gb_none h.g o⟩
theorem MeS.put {w : World} {n4 : Nat} {x y : Int} {W : World} (h : MeS w n4 x y W) (x' y' : Int) : MeS w n4 x' y' (setC W n4 0 [.int .i64 x', .int .i64 y']) := by
  have hl := h.ln
  have o := setC_gb n4 [.int .i64 x', .int .i64 y'] W 0
  exact ⟨h.k2.of o (by simp; omega), h.k4.all [.int .i64 x', .int .i64 y'] rfl, h.ln, gb_new h.g o (by omega)⟩
theorem fin2 {w : World} {n : Nat} {W : World} (h : Bk W n #[.int .i64 0, .int .i64 0] 29) (hn : w.heap.size ≤ n) (g : w.grownBy W none) (x y : Int) : Bk (setC W n 0 [.int .i64 x, .int .i64 y]) n #[.int .i64 x, .int .i64 y] 29 ∧ w.grownBy (setC W n 0 [.int .i64 x, .int .i64 y]) none :=
  ⟨h.all [.int .i64 x, .int .i64 y] rfl, gb_new g (setC_gb _ _ _ _) hn⟩

set_option maxRecDepth 100000 in
set_option maxHeartbeats 16000000 in
theorem pMeet_any (lv : Value) (l : List (Int × Int)) (w : World) (h : Sl w lv 2 l.length (l.flatMap spL)) :
    Calls Try.prog 36 #[lv] w fun e w' => e = .returned (.tuple #[.agg #[.int .i64 (meetSp l).1.1, .int .i64 (meetSp l).1.2], .bool (meetSp l).2]) ∧ w.grownBy w' none := by
  obtain ⟨a, cap, rfl, hn, hm, _⟩ := h.shape
  unfold maxLen at hm
  have HSL := Lib.hid h
  have PN := Lib.hid (fun w => pnothing_any w)
  obtain ⟨na, nb, hno⟩ : ∃ a b, nothingSp = (a, b) := ⟨_, _, rfl⟩
  have HNO := Lib.hid hno
  rw [hno] at PN
  dsimp only at PN
  have k2 := Bk.new w #[.int .i64 0, .int .i64 0] 29
  have g2 := gb_alloc (gb_refl w none) (.cells #[.int .i64 0, .int .i64 0] 29)
  have K2 := Lib.hid (And.intro k2 g2)
  obtain ⟨r, hr⟩ : ∃ r, meetSp l = r := ⟨_, rfl⟩
  rw [hr]
  have HR := Lib.hid hr
  clear h hno k2 g2 hr
  obtain hl | ⟨p, l', hl⟩ : l = [] ∨ ∃ p l', l = p :: l' := by
    cases l with
    | nil => exact .inl rfl
    | cons p l' => exact .inr ⟨p, l', rfl⟩
  · have hr : r = ((na, nb), true) := by rw [← HR.out, hl, meetSp, HNO.out]
    have h0 : l.length = 0 := by rw [hl]; rfl
    subst hr
    rw [h0]
    clear hn
    go_enter Try.func36, Try.ntmps36
    go_upto_region 1 with fail
    generalize w.alloc _ = W1 at *
    go_wp2_with fail
    refine (PN.out _).mono ?_
    rintro e W8 ⟨rfl, hg8⟩
    have k8 := K2.out.1.of hg8 (by simp)
    have F := fin2 k8 (Nat.le_refl _) (gb_none K2.out.2 hg8) na nb
    have k2c := k8.cell
    have k2f := k8.frozen
    simp only [setC] at F
    have HF9 := Lib.hid F
    clear F k8 hg8
    go_wp2_with fail
    clear k2c k2f
    generalize World.setCell _ ⟨w.heap.size, 1, none⟩ _ = W9 at *
    have f9c := HF9.out.1.cell
    refine bodyPost_ret (v := .tuple #[.agg #[.int .i64 na, .int .i64 nb], .bool true]) (by simp [results, Try.results36, go_sem, f9c]) rfl ?_
    exact ⟨rfl, HF9.out.2⟩
  · have h0 : 0 < l.length := by rw [hl]; simp
    have HR2 := Lib.hid (show r = if (meetL p.1 p.2 l).2 < (meetL p.1 p.2 l).1 then ((na, nb), false) else (meetL p.1 p.2 l, true) by rw [← HR.out, hl, meetSp_cons, HNO.out])
    have hp : l.getD 0 (0, 0) = p := by rw [hl]; rfl
    obtain ⟨g, off, cap', hv, _, e0, e1⟩ := HSL.out.sp h0
    injection hv with hv1 _ hv3
    subst hv1 hv3
    rw [hp] at e0 e1
    simp only [Nat.zero_mul, Nat.add_zero] at e0 e1
    have e0' := cell_by e0 K2.out.2
    have e1' := cell_by e1 K2.out.2
    have i1 : (0 : Int) < (l.length : Int) := by omega
    have i2 : ((l.length : Int) == 0) = false := beq_false_of_ne (by omega)
    clear e0 e1 HR hl hp HNO
    go_enter Try.func36, Try.ntmps36
    go_upto_region 1 with fail
    generalize w.alloc _ = W1 at *
    have g4 := gb_alloc (gb_refl W1 none) (.cells #[.int .i64 p.1, .int .i64 p.2] 29)
    have HS4 := Lib.hid (⟨K2.out.1.of g4 (by simp), Bk.new W1 _ _, K2.out.1.lt, gb_none K2.out.2 g4⟩ : MeS w W1.heap.size p.1 p.2 (W1.alloc (.cells #[.int .i64 p.1, .int .i64 p.2] 29)))
    clear g4 K2
    go_upto_region 4 with fail
    clear e0' e1' i1
    generalize W1.alloc _ = W4 at *
    generalize W1.heap.size = n4 at *
    go_wp2_with fail
    go_loopw [16] (fun i wr => ∃ (k : Nat) (x y : Int), k ≤ l.length ∧ i = .int .i64 k ∧ Hid (meetL p.1 p.2 l = meetL x y (l.drop k)) ∧ Hid (MeS w n4 x y wr)) (fun i _ => l.length - (intOf i).toNat)
    case atStart => exact ⟨0, p.1, p.2, Nat.zero_le _, rfl, Lib.hid rfl, HS4⟩
    case round =>
      obtain ⟨k, x, y, hk, rfl, HE, HS⟩ := hrel
      clear HS4
      by_cases hlt : k < l.length
      · obtain ⟨g', off', cap', hv, _, e0, e1⟩ := (HSL.out.by_ HS.out.g).sp hlt
        injection hv with hv1 _ hv3
        subst hv3
        injection hv1 with hv1
        injection hv1 with hv4 hv5
        subst hv4 hv5
        have hd : l.drop k = l.getD k (0, 0) :: l.drop (k + 1) := by
          rw [List.drop_eq_getElem_cons hlt]
          simp [List.getD_eq_getElem?_getD, List.getElem?_eq_getElem hlt]
        obtain ⟨q, hq⟩ : ∃ q, l.getD k (0, 0) = q := ⟨_, rfl⟩
        rw [hq] at e0 e1 hd
        obtain ⟨qx, qy⟩ := q
        have HE2 := Lib.hid (show meetL p.1 p.2 l = meetL (max x qx) (min y qy) (l.drop (k + 1)) by rw [HE.out, hd, meetL])
        have i0 : (0 : Int) ≤ (k : Int) := by omega
        have i1 : (k : Int) < (l.length : Int) := by omega
        clear hq hd HE
        have g7 := gb_alloc (gb_refl wr none) (.cells #[.int .i64 qx, .int .i64 qy] 29)
        have HS7 := Lib.hid (HS.out.by_ g7)
        have HK7 := Lib.hid (Bk.new wr #[.int .i64 qx, .int .i64 qy] 29)
        have hne : n4 ≠ wr.heap.size := Nat.ne_of_lt HS.out.k4.lt
        clear g7 HS
        go_upto_region 7 with fail
        clear e0 e1
        generalize wr.alloc _ = W7 at *
        generalize wr.heap.size = n6 at *
        have x0 : W7.cell? ⟨n4, 0, none⟩ = some (.int .i64 x) := HS7.out.k4.cell 0
        have x1 : W7.cell? ⟨n4, 1, none⟩ = some (.int .i64 y) := HS7.out.k4.cell 1
        have q0 : W7.cell? ⟨n6, 0, none⟩ = some (.int .i64 qx) := HK7.out.cell 0
        have q1 : W7.cell? ⟨n6, 1, none⟩ = some (.int .i64 qy) := HK7.out.cell 1
        have xf : ∀ o, W7.frozen? ⟨n4, o, none⟩ = false := HS7.out.k4.frozen
        obtain ⟨A, hA⟩ : ∃ A, (if x < qx then qx else x) = A := ⟨_, rfl⟩
        obtain ⟨B, hB⟩ : ∃ B, (if qy < y then qy else y) = B := ⟨_, rfl⟩
        have mA : max x qx = A := by rw [← hA]; split <;> omega
        have mB : min y qy = B := by rw [← hB]; split <;> omega
        rw [mA, mB] at HE2
        have F := (HS7.out.put A B)
        simp only [setC] at F
        have HS8 := Lib.hid (F.by_ (gb_drew (gb_refl _ none)))
        clear F mA mB
        go_region

        clear hA hB x0 x1 q0 q1 xf HS7 HK7
        generalize World.drew _ = W8 at *
        go_wp2_with fail
        exact ⟨⟨k + 1, A, B, by omega, by go_num, HE2, HS8⟩, by simp [intOf]; omega⟩
      · obtain rfl : k = l.length := by omega
        have hE := HE.out
        rw [List.drop_length, meetL] at hE
        rw [hE] at HR2
        clear HE hE
        have x0 : wr.cell? ⟨n4, 0, none⟩ = some (.int .i64 x) := HS.out.k4.cell 0
        have x1 : wr.cell? ⟨n4, 1, none⟩ = some (.int .i64 y) := HS.out.k4.cell 1
        have HEM := Lib.hid (fun w => empty_any x y w)
        go_wp2_with fail
        refine (HEM.out _).mono ?_
        rintro e W7 ⟨rfl, hg7⟩
        have HS7 := Lib.hid (HS.out.by_ hg7)
        clear x0 x1 hg7 HS HEM
        by_cases c1 : y < x
        · rw [decide_eq_true c1]
          have hr : r = ((na, nb), false) := by rw [HR2.out, if_pos c1]
          subst hr
          go_wp2_with fail
          refine (PN.out _).mono ?_
          rintro e W8 ⟨rfl, hg8⟩
          have HS8 := Lib.hid (HS7.out.by_ hg8)
          clear hg8 HS7
          have k8 := HS8.out.k2
          have F := fin2 k8 (Nat.le_refl _) HS8.out.g na nb
          have k2c := k8.cell
          have k2f := k8.frozen
          simp only [setC] at F
          have HF9 := Lib.hid F
          clear F k8
          go_wp2_with fail
          clear k2c k2f
          generalize World.setCell _ ⟨w.heap.size, 1, none⟩ _ = W9 at *
          have f9c := HF9.out.1.cell
          refine bodyPost_ret (v := .tuple #[.agg #[.int .i64 na, .int .i64 nb], .bool false]) (by simp [results, Try.results36, go_sem, f9c]) rfl ?_
          exact ⟨rfl, HF9.out.2⟩
        · rw [decide_eq_false c1]
          have hr : r = ((x, y), true) := by rw [HR2.out, if_neg c1]
          subst hr
          have HS8 := HS7
          have x0 : W7.cell? ⟨n4, 0, none⟩ = some (.int .i64 x) := HS7.out.k4.cell 0
          have x1 : W7.cell? ⟨n4, 1, none⟩ = some (.int .i64 y) := HS7.out.k4.cell 1
          clear HS7
          have k8 := HS8.out.k2
          have F := fin2 k8 (Nat.le_refl _) HS8.out.g x y
          have k2c := k8.cell
          have k2f := k8.frozen
          simp only [setC] at F
          have HF9 := Lib.hid F
          clear F k8
          go_wp2_with fail
          clear k2c k2f
          generalize World.setCell _ ⟨w.heap.size, 1, none⟩ _ = W9 at *
          have f9c := HF9.out.1.cell
          refine bodyPost_ret (v := .tuple #[.agg #[.int .i64 x, .int .i64 y], .bool true]) (by simp [results, Try.results36, go_sem, f9c]) rfl ?_
          exact ⟨rfl, HF9.out.2⟩
end Go.Proofs.Ytackckljldpldaa
