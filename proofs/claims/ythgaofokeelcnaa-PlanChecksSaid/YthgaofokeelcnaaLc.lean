/- PlanChecks: the walk. -/
import Derived.Test.YthgaofokeelcnaaAw
namespace Go.Proofs.Ythgaofokeelcnaa
open Go.RowKit
attribute [local go_sem ↓] Go.wp_at_zero Go.wp_at_succ

/-- The state in PlanChecks: the two boxes, the two mines. -/
structure LcS (w : World) (n9 : Nat) (a0 a1 b0 b1 : Value) (m raw : Mn) (W : World) : Prop where
  k5 : Bk W w.heap.size #[b0, b1] 26
  k9 : Bk W n9 #[a0, a1] 26
  m : MnV W (.agg #[a0, a1]) m
  r : MnV W (.agg #[b0, b1]) raw
  g : w.grownBy W none
section
variable {w : World} {n9 : Nat} {a0 a1 b0 b1 : Value} {m raw : Mn} {W : World}
theorem LcS.by_ {W' : World} (h : LcS w n9 a0 a1 b0 b1 m raw W) (o : W.grownBy W' none) : LcS w n9 a0 a1 b0 b1 m raw W' :=
  ⟨h.k5.of o (by simp), h.k9.of o (by simp), h.m.by_ o, h.r.by_ o, gb_none h.g o⟩
theorem LcS.cells (h : LcS w n9 a0 a1 b0 b1 m raw W) : W.cell? ⟨n9, 0, none⟩ = some a0 ∧ W.cell? ⟨n9, 1, none⟩ = some a1 ∧ W.cell? ⟨w.heap.size, 0, none⟩ = some b0 ∧ W.cell? ⟨w.heap.size, 1, none⟩ = some b1 :=
  ⟨h.k9.cell 0, h.k9.cell 1, h.k5.cell 0, h.k5.cell 1⟩
end

theorem MnV.shape {W : World} {v : Value} {m : Mn} (h : MnV W v m) : ∃ a c b d, v = .agg #[.slice a m.ps.length c, .slice b m.rs.length d] := by
  obtain ⟨x, y, rfl, hp, hr⟩ := h
  obtain ⟨pa, pc, rfl, _⟩ := hp.shape
  obtain ⟨ra, rc, rfl, _⟩ := hr.shape
  exact ⟨_, _, _, _, rfl⟩

set_option maxRecDepth 100000 in
set_option maxHeartbeats 8000000 in
theorem planChecks_walk (ca : Option Addr) (clen ccap : Nat) (l : List Nat) (rv : Value) (raw : Mn) (at_ by_ : Int) (w : World) (hlen : l.length = clen) (hcap : clen ≤ ccap) (hb : ∀ x ∈ l, x < 256)
    (hx : l = [] ∨ ∃ g off, ca = some ⟨g, off, none⟩ ∧ ∀ j, j < l.length → w.cell? ⟨g, off + j, none⟩ = some (.int .u8 (l.getD j 0 : Nat))) (hr : MnV w rv raw)
    (h1 : -9223372036854775808 ≤ at_) (h2 : at_ ≤ 9223372036854775807) :
    Calls Try.prog 3 #[.slice ca clen ccap, rv, .int .i64 at_, .int .i64 by_] w fun e w' => e = .returned (.bool true) ∧ w.grownBy w' none := by
  obtain ⟨ba, bc, bb, bd, rfl⟩ := hr.shape
  have HR := Lib.hid hr
  have HX := Lib.hid hx
  have HL := Lib.hid hlen
  have HB := Lib.hid hb
  clear hr hx hlen hb
  go_enter Try.func3, Try.ntmps3
  go_wp2_with fail
  have k1 := Bk.new w #[.slice ba raw.ps.length bc, .slice bb raw.rs.length bd] 26
  have g1 := gb_alloc (gb_refl w none) (.cells #[.slice ba raw.ps.length bc, .slice bb raw.rs.length bd] 26)
  generalize w.alloc _ = W1 at *
  refine (new_any ca clen ccap l _ HL.out hcap HB.out ?_).mono ?_
  · rcases HX.out with h | ⟨g, off, h, hc⟩
    · exact .inl h
    · refine .inr ⟨g, off, h, fun j hj => ?_⟩
      rw [← hc j hj]
      exact gb_cell g1 (World.block_lt_of_cell? w _ (hc j hj)) (by simp) _
  rintro e w2 ⟨rfl, hC, _, hbl⟩
  have g2 := gb_none g1 (gb_b hbl)
  have k2 := k1.of (gb_b hbl) (by simp)
  have hs1 := g1.size
  have hs1' := k1.lt
  clear k1 g1 hbl
  generalize W1.heap.size = nb at *
  go_wp2_with fail
  refine (mine_any nb _ _ _ hC).mono ?_
  rintro e w3 ⟨m, v, rfl, hm, _, hp2, hp7, hr8, _, g3⟩
  have k3 := k2.of g3 (by simp; omega)
  have G3 := gb_new g2 g3 (by omega)
  clear hC g2 k2 g3
  go_wp2_with fail
  refine (spoilt_any _ m _ _ _ hm (by omega) (by omega) (by omega) h1 h2).mono ?_
  rintro e w4 ⟨m2, v2, rfl, hm2, g4⟩
  obtain ⟨aa, ac, ab, ad, rfl⟩ := hm2.shape
  have k4 := k3.of g4 (by simp)
  have G4 := gb_none G3 g4
  clear hm k3 G3 g4
  have S5 : LcS w w4.heap.size (.slice aa m2.ps.length ac) (.slice ab m2.rs.length ad) (.slice ba raw.ps.length bc) (.slice bb raw.rs.length bd) m2 raw (w4.alloc (.cells #[.slice aa m2.ps.length ac, .slice ab m2.rs.length ad] 26)) :=
    ⟨k4.of (gb_alloc (gb_refl _ none) _) (by simp), Bk.new _ _ _, hm2.by_ (gb_alloc (gb_refl _ none) _), HR.out.by_ (gb_alloc G4 _), gb_alloc G4 _⟩
  clear k4 G4 hm2
  go_wp2_with fail
  generalize w4.alloc _ = W5 at *
  generalize w4.heap.size = n9 at *
  obtain ⟨e0, e1, e2, e3⟩ := S5.cells
  have hSd := S5.by_ (gb_drew (gb_refl _ _))
  clear S5
  have hz : ∀ c : Int, (c = 0 ∧ True) ∨ ((c == 0) = false ∧ decide (c = 0) = false) := fun c => by
    by_cases h : c = 0
    · exact .inl ⟨h, trivial⟩
    · exact .inr ⟨beq_eq_false_iff_ne.2 h, decide_eq_false h⟩
  have z1 := hz (ck m2)
  have z2 := hz (ck raw)
  clear hz
  rcases z1 with ⟨z1, _⟩ | ⟨z1, z1'⟩ <;> rcases z2 with ⟨z2, _⟩ | ⟨z2, z2'⟩
  all_goals
    go_region_held3 (fun w' => w'.cell? ⟨n9, 0, none⟩ = some (.slice aa m2.ps.length ac) ∧ w'.cell? ⟨n9, 1, none⟩ = some (.slice ab m2.rs.length ad) ∧ w'.cell? ⟨w.heap.size, 0, none⟩ = some (.slice ba raw.ps.length bc) ∧ w'.cell? ⟨w.heap.size, 1, none⟩ = some (.slice bb raw.rs.length bd))
      (first | (exact ⟨e0, e1, e2, e3⟩) | go_keep)
      ((first
        | (go_at_call_of 12 (Value.agg #[.slice aa m2.ps.length ac, .slice ab m2.rs.length ad]); refine (check_any _ m2 _ (LcS.m (by assumption))).mono ?_; rintro e w6 ⟨rfl, hb⟩; have hS6 := LcS.by_ (by assumption) (gb_b hb); clear hb; obtain ⟨e0, e1, e2, e3⟩ := hS6.cells)
        | (go_at_call_of 13 (Value.agg #[.slice aa m2.ps.length ac, .slice ab m2.rs.length ad]); refine (refCheck_any _ m2 _ (LcS.m (by assumption))).mono ?_; rintro e w6 ⟨rfl, hb⟩; have hS6 := LcS.by_ (by assumption) (gb_b hb); clear hb; obtain ⟨e0, e1, e2, e3⟩ := hS6.cells)
        | (go_at_call_of 14 (Value.agg #[.slice aa m2.ps.length ac, .slice ab m2.rs.length ad]); refine (valid_any _ m2 _ (LcS.m (by assumption))).mono ?_; rintro e w6 ⟨rfl, hb⟩; have hS6 := LcS.by_ (by assumption) (gb_b hb); clear hb; obtain ⟨e0, e1, e2, e3⟩ := hS6.cells)
        | (go_at_call_of 12 (Value.agg #[.slice ba raw.ps.length bc, .slice bb raw.rs.length bd]); refine (check_any _ raw _ (LcS.r (by assumption))).mono ?_; rintro e w6 ⟨rfl, hb⟩; have hS6 := LcS.by_ (by assumption) (gb_b hb); clear hb; obtain ⟨e0, e1, e2, e3⟩ := hS6.cells)
        | (go_at_call_of 13 (Value.agg #[.slice ba raw.ps.length bc, .slice bb raw.rs.length bd]); refine (refCheck_any _ raw _ (LcS.r (by assumption))).mono ?_; rintro e w6 ⟨rfl, hb⟩; have hS6 := LcS.by_ (by assumption) (gb_b hb); clear hb; obtain ⟨e0, e1, e2, e3⟩ := hS6.cells)
        | (go_at_call_of 14 (Value.agg #[.slice ba raw.ps.length bc, .slice bb raw.rs.length bd]); refine (valid_any _ raw _ (LcS.r (by assumption))).mono ?_; rintro e w6 ⟨rfl, hb⟩; have hS6 := LcS.by_ (by assumption) (gb_b hb); clear hb; obtain ⟨e0, e1, e2, e3⟩ := hS6.cells)
        | (go_at_call 15; refine (awake_any _).mono ?_; rintro e w6 ⟨rfl, hb⟩; have hS6 := LcS.by_ (by assumption) hb; clear hb; obtain ⟨e0, e1, e2, e3⟩ := hS6.cells)))
    go_wp2_with fail
    go_ret
    exact ⟨rfl, LcS.g (by assumption)⟩
end Go.Proofs.Ythgaofokeelcnaa
