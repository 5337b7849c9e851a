/- The statement SensorChecks: the walk. -/
import Derived.Test.YtigffmcihkpdkaaWd
namespace Go.Proofs.Ytigffmcihkpdkaa
open Go.RowKit
attribute [local go_sem ↓] Go.wp_at_zero Go.wp_at_succ loadAt_s

theorem refCk_v (s : Sn) (w : World) : Calls Try.prog 12 #[snV s] w fun e w' => e = .returned (.int .i64 (ckSn s)) ∧ w.grownBy w' none := refCk_any s w

/-- Two sensors in variables. -/
structure ChS (w : World) (n7 : Nat) (s r : Sn) (W : World) : Prop where
  s4 : SnAt W w.heap.size 0 r
  s7 : SnAt W n7 0 s
  g : w.grownBy W none
theorem ChS.by_ {w : World} {n7 : Nat} {s r : Sn} {W W' : World} (h : ChS w n7 s r W) (o : W.grownBy W' none) : ChS w n7 s r W' := ⟨h.s4.by_ o, h.s7.by_ o, gb_none h.g o⟩
theorem ChS.all {w : World} {n7 : Nat} {s r : Sn} {W : World} (h : ChS w n7 s r W) : (loadS (.pointer (some ⟨n7, 0, none⟩))).run Try.prog W = .ok (snV s) W ∧ (loadS (.pointer (some ⟨w.heap.size, 0, none⟩))).run Try.prog W = .ok (snV r) W ∧ ChS w n7 s r W := ⟨run_loadS h.s7, run_loadS h.s4, h⟩
theorem made_sl (cv : Value) (l : List Nat) (by_ : Int) (w : World) (h : Sl w cv 1 l.length (bytes l)) (hb : ∀ x ∈ l, x < 256) :
    Calls Try.prog 10 #[cv, .int .i64 by_] w fun e w' => ∃ s : Sn, e = .returned (.agg (senL s).toArray) ∧ w.grownBy w' none := by
  obtain ⟨a, cap, rfl, hn, hm, hx⟩ := h.shape
  refine made_any a l.length cap l by_ w rfl hn hb ?_
  rcases hx with h0 | ⟨g, off, e, hc⟩
  · exact .inl (List.eq_nil_of_length_eq_zero h0)
  · refine .inr ⟨g, off, e, fun j hj => ?_⟩
    rw [hc j (by omega)]
    simp [bytes, List.getD_eq_getElem?_getD, hj]

set_option maxRecDepth 100000 in
set_option maxHeartbeats 8000000 in
theorem checks_walk (cv : Value) (lc : List Nat) (r : Sn) (by_ : Int) (w : World) (hc : Sl w cv 1 lc.length (bytes lc)) (hb : ∀ x ∈ lc, x < 256) :
    Calls Try.prog 3 #[cv, .agg (senL r).toArray, .int .i64 by_] w fun e w' => e = .returned (.bool true) ∧ w.grownBy w' none := by
  obtain ⟨a, cap, rfl, _, _, _⟩ := hc.shape
  have g1 := gb_alloc (gb_refl w none) (.cells (senL r).toArray 24)
  have k1 := Bk.new w (senL r).toArray 24
  have HM := Lib.hid (made_sl _ lc by_ _ (hc.by_ g1) hb)
  have K1 := Lib.hid k1
  have G1 := Lib.hid g1
  clear g1 k1 hc
  unfold senL at HM K1 G1 ⊢
  go_enter Try.func3, Try.ntmps3
  go_upto_region 1 with fail
  generalize w.alloc _ = W1 at *
  go_wp2_with fail
  refine HM.out.mono ?_
  rintro e W2 ⟨s, rfl, hg⟩
  have S3 : ChS w W2.heap.size s r (W2.alloc (.cells (senL s).toArray 24)) := by
    have o := gb_alloc (gb_refl W2 none) (.cells (senL s).toArray 24)
    exact ⟨((Bk.snAt K1.out).by_ hg).by_ o, Bk.snAt (Bk.new _ _ _), gb_none (gb_none G1.out hg) o⟩
  have HS3 := Lib.hid S3
  clear S3 hg K1 G1 HM
  unfold senL at HS3
  go_upto_region 2 with fail
  generalize W2.alloc _ = W3 at *
  generalize W2.heap.size = n7 at *
  have HSd := HS3.out.by_ (gb_drew (gb_refl W3 none))
  have hS0 := ChS.all HSd
  have HCK := Lib.hid pCk_v
  have HRC := Lib.hid refCk_v
  have hbeq : ∀ x : Int, (x == x) = true := fun x => by simp
  clear HSd
  go_region_held3 (fun w' => (loadS (.pointer (some ⟨n7, 0, none⟩))).run Try.prog w' = .ok (snV s) w' ∧ (loadS (.pointer (some ⟨w.heap.size, 0, none⟩))).run Try.prog w' = .ok (snV r) w' ∧ ChS w n7 s r w')
    (first | (with_reducible exact hS6) | (with_reducible exact hS0) | fail)
    ((first
      | (go_at_call 11; (first | (with_reducible refine (HCK.out s _).mono ?_) | (with_reducible refine (HCK.out r _).mono ?_)); rintro e w6 ⟨rfl, hg6⟩; have hS6 := ChS.all (ChS.by_ (And.right (And.right (by assumption))) hg6); clear hg6)
      | (go_at_call 12; (first | (with_reducible refine (HRC.out s _).mono ?_) | (with_reducible refine (HRC.out r _).mono ?_)); rintro e w6 ⟨rfl, hg6⟩; have hS6 := ChS.all (ChS.by_ (And.right (And.right (by assumption))) hg6); clear hg6)
      | (go_at_call 13; (with_reducible refine (awake_any _).mono ?_); rintro e w6 ⟨rfl, hg6⟩; have hS6 := ChS.all (ChS.by_ (And.right (And.right (by assumption))) hg6); clear hg6)
      | fail))
  all_goals
    go_wp2_with fail
    go_ret
    exact ⟨rfl, hS6.2.2.g⟩
end Go.Proofs.Ytigffmcihkpdkaa
