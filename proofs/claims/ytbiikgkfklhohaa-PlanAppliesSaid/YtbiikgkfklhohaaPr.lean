/- Parts and CutOff, over the two mines of the sanity check. -/
import Derived.Test.YtbiikgkfklhohaaPt
namespace Go.Proofs.Ytbiikgkfklhohaa
open Go.RowKit
attribute [local go_sem ↓] Go.wp_at_zero Go.wp_at_succ

theorem Try.infoInts : (Try.prog.info? 56).map (fun i => (i.zero, i.size, i.bytes)) = some (some (.slice none 0 0), 1, 24) := by kernel_rfl

theorem own_own' {W : World} {base base' : Nat} {e f : TypeId} {size size' : Nat} {v u : Value} {n n' : Nat} {xs ys : List Value} (h : W.ownsRow base e size v n xs) (k : W.ownsRow base' f size' u n' ys) (hT : e ≠ f) : v.ownBlock = none ∨ v.ownBlock ≠ u.ownBlock := by
  rcases k.2 with ⟨rfl, _⟩ | ⟨g, cap, cur, rfl, _, hg, _⟩
  · by_cases e : v.ownBlock = none
    · exact .inl e
    · exact .inr (by simpa [Value.ownBlock] using e)
  · exact .inr (own_ne h (show Bk W g cur f from hg) hT)

theorem ck_a (c : Bool) : ck (aMn c) = 0 := by cases c <;> decide

structure PrS (w : World) (gs : Nat) (b0 b1 : Bool) (pv rv : Value) (av : Value) (A : List Value) (W : World) : Prop where
  k : Bk W w.heap.size #[pv, rv] 26
  seen : Bk W gs #[.bool b0, .bool b1] 4
  a : W.ownsRow w.heap.size 56 1 av A.length A
  g : w.grownBy W none
  lt : w.heap.size ≤ gs
section
variable {w : World} {gs : Nat} {b0 b1 d0 d1 : Bool} {pv rv av av' : Value} {A : List Value} {W W' : World}
theorem PrS.by_ (h : PrS w gs b0 b1 pv rv av A W) (o : W.grownBy W' none) : PrS w gs b0 b1 pv rv av A W' :=
  ⟨h.k.of o (by simp), h.seen.of o (by simp), own_by h.a o, gb_none h.g o, h.lt⟩
theorem PrS.part (h : PrS w gs b0 b1 pv rv av A W) (o : W.grownBy W' (some gs)) (k : Bk W' gs #[.bool d0, .bool d1] 4) (hn : gs ≠ w.heap.size) : PrS w gs d0 d1 pv rv av A W' :=
  ⟨h.k.of o (by simpa using hn), k, h.a.kept o (.inr (own_ne h.a h.seen (by decide))), gb_new h.g o h.lt, h.lt⟩
theorem PrS.app (h : PrS w gs b0 b1 pv rv av A W) (x : Value) (ho : W'.ownsRow w.heap.size 56 1 av' (A.length + 1) (A ++ [x])) (o : W.grownBy W' av.ownBlock) : PrS w gs b0 b1 pv rv av' (A ++ [x]) W' :=
  ⟨h.k.of o (own_ne h.a h.k (by decide)), h.seen.of o (own_ne h.a h.seen (by decide)), by rw [List.length_append]; exact ho, gb_call h.g o (fun g e => .inr (own_base h.a g e)), h.lt⟩
theorem PrS.list (h : PrS w gs b0 b1 pv rv av A W) {base : Nat} {v : Value} {n : Nat} {xs : List Value} (l : W.ownsRow base 3 1 v n xs) (o : W.grownBy W' av.ownBlock) : W'.ownsRow base 3 1 v n xs :=
  l.kept o (own_own' l h.a (by decide))
end

set_option maxRecDepth 100000 in
set_option maxHeartbeats 4000000 in
theorem parts_closed (w : World) (pa : Option Addr) (pc : Nat) (ra : Option Addr) (rc : Nat) (hm : MnV w (.agg #[.slice pa 2 pc, .slice ra 1 rc]) (aMn true)) :
    Calls Try.prog 32 #[.agg #[.slice pa 2 pc, .slice ra 1 rc]] w fun e w' => ∃ g cap l0 l1, e = .returned (.slice (some ⟨g, 0, none⟩) 2 cap) ∧ w'.cell? ⟨g, 0, none⟩ = some l0 ∧ w'.cell? ⟨g, 1, none⟩ = some l1 ∧ w'.ownsRow w.heap.size 3 1 l0 1 (ints [0]) ∧ w'.ownsRow w.heap.size 3 1 l1 1 (ints [1]) ∧ w.grownBy w' none := by
  obtain ⟨ii, hii, hii1, hii2, hii3⟩ := info_parts Try.infoInts
  have hmk : ∀ w, (Instr.makeSlice 82 (.int .i64 2) (.int .i64 2)).run Try.prog w = .ok (.slice (some ⟨w.heap.size, 0, none⟩) 2 2) (w.alloc (.cells #[.bool false, .bool false] 4)) := fun _ => by kernel_rfl
  have HM := Lib.hid hm
  clear hm
  go_enter Try.func32, Try.ntmps32
  go_wp2_with fail
  have k1 := Bk.new w #[.slice pa 2 pc, .slice ra 1 rc] 26
  have g1 := gb_alloc (gb_refl w none) (.cells #[.slice pa 2 pc, .slice ra 1 rc] 26)
  generalize w.alloc _ = W1 at *
  refine (valid_any _ (aMn true) _ (HM.out.by_ g1)).mono ?_
  rw [ck_a]
  rintro e w2 ⟨rfl, hb⟩
  replace k1 := k1.of (gb_b hb) (by simp)
  replace g1 := gb_none g1 (gb_b hb)
  clear hb
  have c0 : w2.cell? ⟨w.heap.size, 0, none⟩ = some (.slice pa 2 pc) := k1.cell 0
  have c1 : w2.cell? ⟨w.heap.size, 1, none⟩ = some (.slice ra 1 rc) := k1.cell 1
  have hz := k1.lt
  go_wp2_with fail
  clear c0 c1
  have S3 : PrS w w2.heap.size false false (.slice pa 2 pc) (.slice ra 1 rc) (.slice none 0 0) [] (w2.alloc (.cells #[.bool false, .bool false] 4)) :=
    ⟨k1.of (gb_alloc (gb_refl _ none) _) (by simp), Bk.new _ _ _, World.ownsRow_nil _ _ _ _, gb_alloc g1 _, g1.size⟩
  have hne : w2.heap.size ≠ w.heap.size := by omega
  clear k1 g1 hz
  generalize w2.alloc _ = W3 at *
  generalize w2.heap.size = gs at *
  have c0 : W3.cell? ⟨w.heap.size, 0, none⟩ = some (.slice pa 2 pc) := S3.k.cell 0
  have c1 : W3.cell? ⟨w.heap.size, 1, none⟩ = some (.slice ra 1 rc) := S3.k.cell 1
  have c2 : W3.cell? ⟨gs, 0, none⟩ = some (.bool false) := S3.seen.cell 0
  refine wp_loop_rounds 3 ?_
  rw [rounds_succ]
  go_wp2_with fail
  refine (part_closed gs _ 0 0 (by omega) false false _ _ _ _ (HM.out.by_ S3.g) S3.seen).mono ?_
  rintro e w4 ⟨v4, rfl, o4, s4, g4⟩
  have S4 := S3.part g4 s4 hne
  have l0 := own_mono o4 S3.g.size
  obtain ⟨ga, capa, hv, _⟩ := own_open l0 (by decide)
  subst hv
  clear S3 o4 s4 g4 c0 c1 c2
  have HS4 := Lib.hid S4
  have HL0 := Lib.hid l0
  have hz4 : w.heap.size ≤ w4.heap.size := S4.g.size
  clear S4 l0
  go_wp2_with (at_builtin; go_loud (refine wpList_app _ rfl _ _ 61 rfl w.heap.size 56 ii _ 1 24 Try.underlying61 hii hii1 hii2 hii3 rfl (by omega) (.slice none 0 0) 0 [] rfl (World.ownsRow_nil _ _ _ _) (.slice (some ⟨w4.heap.size, 0, none⟩) 1 1) 1 [.slice (some ⟨ga, 0, none⟩) 1 capa] rfl (sl_new _ _ _ _ rfl (by simp [maxLen]) rfl) (by simp [Value.oneCell']) (by simp [maxLen]) (by omega) (by simp; omega) ?_); intro v5 w5 hown hgrow; have S5 := (HS4.out.by_ (gb_alloc (gb_refl _ none) (.cells #[.slice (some ⟨ga, 0, none⟩) 1 capa] 56))).app _ hown hgrow; have l5 := (HS4.out.by_ (gb_alloc (gb_refl _ none) (.cells #[.slice (some ⟨ga, 0, none⟩) 1 capa] 56))).list (own_by HL0.out (gb_alloc (gb_refl _ none) _)) hgrow; clear HS4 HL0 hown hgrow hz4)
  obtain ⟨gp, capp, hv, _⟩ := own_open S5.a (by simp)
  subst hv
  have c0 : w5.cell? ⟨w.heap.size, 0, none⟩ = some (.slice pa 2 pc) := S5.k.cell 0
  have c1 : w5.cell? ⟨w.heap.size, 1, none⟩ = some (.slice ra 1 rc) := S5.k.cell 1
  have c2 : w5.cell? ⟨gs, 1, none⟩ = some (.bool false) := S5.seen.cell 1
  rw [rounds_succ]
  go_wp2_with fail
  refine (part_closed gs _ 1 1 (by omega) true false _ _ _ _ (HM.out.by_ S5.g) S5.seen).mono ?_
  rintro e w6 ⟨v6, rfl, o6, s6, g6⟩
  have S6 := S5.part g6 s6 hne
  have l1 := own_mono o6 S5.g.size
  have l0 := l5.kept g6 (.inr (own_ne l5 S5.seen (by decide)))
  obtain ⟨gb, capb, hv, _⟩ := own_open l1 (by decide)
  subst hv
  clear S5 o6 s6 g6 c0 c1 c2 l5
  have HS6 := Lib.hid S6
  have HL0 := Lib.hid l0
  have HL1 := Lib.hid l1
  have hz6 : w.heap.size ≤ w6.heap.size := S6.g.size
  clear S6 l0 l1
  go_wp2_with (at_builtin; go_loud (refine wpList_app _ rfl _ _ 61 rfl w.heap.size 56 ii _ 1 24 Try.underlying61 hii hii1 hii2 hii3 rfl (by omega) (.slice (some ⟨gp, 0, none⟩) 1 capp) 1 [.slice (some ⟨ga, 0, none⟩) 1 capa] rfl (own_by HS6.out.a (gb_alloc (gb_refl _ none) _)) (.slice (some ⟨w6.heap.size, 0, none⟩) 1 1) 1 [.slice (some ⟨gb, 0, none⟩) 1 capb] rfl (sl_new _ _ _ _ rfl (by simp [maxLen]) rfl) (by simp [Value.oneCell']) (by simp [maxLen]) (by omega) (by simp; omega) ?_); intro v7 w7 hown hgrow; have S7 := (HS6.out.by_ (gb_alloc (gb_refl _ none) (.cells #[.slice (some ⟨gb, 0, none⟩) 1 capb] 56))).app _ hown hgrow; have m0 := (HS6.out.by_ (gb_alloc (gb_refl _ none) (.cells #[.slice (some ⟨gb, 0, none⟩) 1 capb] 56))).list (own_by HL0.out (gb_alloc (gb_refl _ none) _)) hgrow; have m1 := (HS6.out.by_ (gb_alloc (gb_refl _ none) (.cells #[.slice (some ⟨gb, 0, none⟩) 1 capb] 56))).list (own_by HL1.out (gb_alloc (gb_refl _ none) _)) hgrow; clear HS6 HL0 HL1 hown hgrow hz6)
  obtain ⟨gq, capq, hv, _, hq, _⟩ := own_open S7.a (by simp)
  subst hv
  rw [rounds_succ]
  go_wp2_with fail
  go_ret
  exact ⟨_, _, _, _, rfl, hq 0 (by simp), hq 1 (by simp), m0, m1, S7.g⟩
set_option maxRecDepth 100000 in
set_option maxHeartbeats 4000000 in
theorem parts_open (w : World) (pa : Option Addr) (pc : Nat) (ra : Option Addr) (rc : Nat) (hm : MnV w (.agg #[.slice pa 2 pc, .slice ra 1 rc]) (aMn false)) :
    Calls Try.prog 32 #[.agg #[.slice pa 2 pc, .slice ra 1 rc]] w fun e w' => ∃ g cap l0, e = .returned (.slice (some ⟨g, 0, none⟩) 1 cap) ∧ w'.cell? ⟨g, 0, none⟩ = some l0 ∧ w'.ownsRow w.heap.size 3 1 l0 2 (ints [0, 1]) ∧ w.grownBy w' none := by
  obtain ⟨ii, hii, hii1, hii2, hii3⟩ := info_parts Try.infoInts
  have hmk : ∀ w, (Instr.makeSlice 82 (.int .i64 2) (.int .i64 2)).run Try.prog w = .ok (.slice (some ⟨w.heap.size, 0, none⟩) 2 2) (w.alloc (.cells #[.bool false, .bool false] 4)) := fun _ => by kernel_rfl
  have HM := Lib.hid hm
  clear hm
  go_enter Try.func32, Try.ntmps32
  go_wp2_with fail
  have k1 := Bk.new w #[.slice pa 2 pc, .slice ra 1 rc] 26
  have g1 := gb_alloc (gb_refl w none) (.cells #[.slice pa 2 pc, .slice ra 1 rc] 26)
  generalize w.alloc _ = W1 at *
  refine (valid_any _ (aMn false) _ (HM.out.by_ g1)).mono ?_
  rw [ck_a]
  rintro e w2 ⟨rfl, hb⟩
  replace k1 := k1.of (gb_b hb) (by simp)
  replace g1 := gb_none g1 (gb_b hb)
  clear hb
  have c0 : w2.cell? ⟨w.heap.size, 0, none⟩ = some (.slice pa 2 pc) := k1.cell 0
  have c1 : w2.cell? ⟨w.heap.size, 1, none⟩ = some (.slice ra 1 rc) := k1.cell 1
  have hz := k1.lt
  go_wp2_with fail
  clear c0 c1
  have S3 : PrS w w2.heap.size false false (.slice pa 2 pc) (.slice ra 1 rc) (.slice none 0 0) [] (w2.alloc (.cells #[.bool false, .bool false] 4)) :=
    ⟨k1.of (gb_alloc (gb_refl _ none) _) (by simp), Bk.new _ _ _, World.ownsRow_nil _ _ _ _, gb_alloc g1 _, g1.size⟩
  have hne : w2.heap.size ≠ w.heap.size := by omega
  clear k1 g1 hz
  generalize w2.alloc _ = W3 at *
  generalize w2.heap.size = gs at *
  have c0 : W3.cell? ⟨w.heap.size, 0, none⟩ = some (.slice pa 2 pc) := S3.k.cell 0
  have c1 : W3.cell? ⟨w.heap.size, 1, none⟩ = some (.slice ra 1 rc) := S3.k.cell 1
  have c2 : W3.cell? ⟨gs, 0, none⟩ = some (.bool false) := S3.seen.cell 0
  refine wp_loop_rounds 3 ?_
  rw [rounds_succ]
  go_wp2_with fail
  refine (part_open gs _ _ _ _ _ (HM.out.by_ S3.g) S3.seen).mono ?_
  rintro e w4 ⟨v4, rfl, o4, s4, g4⟩
  have S4 := S3.part g4 s4 hne
  have l0 := own_mono o4 S3.g.size
  obtain ⟨ga, capa, hv, _⟩ := own_open l0 (by decide)
  subst hv
  clear S3 o4 s4 g4 c0 c1 c2
  have HS4 := Lib.hid S4
  have HL0 := Lib.hid l0
  have hz4 : w.heap.size ≤ w4.heap.size := S4.g.size
  clear S4 l0
  go_wp2_with (at_builtin; go_loud (refine wpList_app _ rfl _ _ 61 rfl w.heap.size 56 ii _ 1 24 Try.underlying61 hii hii1 hii2 hii3 rfl (by omega) (.slice none 0 0) 0 [] rfl (World.ownsRow_nil _ _ _ _) (.slice (some ⟨w4.heap.size, 0, none⟩) 1 1) 1 [.slice (some ⟨ga, 0, none⟩) 2 capa] rfl (sl_new _ _ _ _ rfl (by simp [maxLen]) rfl) (by simp [Value.oneCell']) (by simp [maxLen]) (by omega) (by simp; omega) ?_); intro v5 w5 hown hgrow; have S5 := (HS4.out.by_ (gb_alloc (gb_refl _ none) (.cells #[.slice (some ⟨ga, 0, none⟩) 2 capa] 56))).app _ hown hgrow; have l5 := (HS4.out.by_ (gb_alloc (gb_refl _ none) (.cells #[.slice (some ⟨ga, 0, none⟩) 2 capa] 56))).list (own_by HL0.out (gb_alloc (gb_refl _ none) _)) hgrow; clear HS4 HL0 hown hgrow hz4)
  obtain ⟨gp, capp, hv, _, hq, _⟩ := own_open S5.a (by simp)
  subst hv
  have c0 : w5.cell? ⟨w.heap.size, 0, none⟩ = some (.slice pa 2 pc) := S5.k.cell 0
  have c1 : w5.cell? ⟨w.heap.size, 1, none⟩ = some (.slice ra 1 rc) := S5.k.cell 1
  have c2 : w5.cell? ⟨gs, 1, none⟩ = some (.bool true) := S5.seen.cell 1
  rw [rounds_succ]
  go_wp2_with fail
  rw [rounds_succ]
  go_wp2_with fail
  go_ret
  exact ⟨_, _, _, rfl, hq 0 (by simp), l5, S5.g⟩
end Go.Proofs.Ytbiikgkfklhohaa
