/- Stage 11: bounds that are found, and that are drawn. -/
import Derived.Test.YtnoeblpanfbpjaaGreatXJ
import Derived.Test.YtnoeblpanfbpjaaGreatXDu
import Derived.Test.YtnoeblpanfbpjaaGreatXt
import Derived.Test.YtnoeblpanfbpjaaGreatXks
namespace Go.Proofs.YtnoeblpanfbpjaaGreat.Ab
open Go

theorem PrsOK.set {a : SAir} {l : Sq Int} (h : PrsOK a l) (k : Nat) {v : Int} (v0 : -70368744177664 ≤ v) (v1 : v ≤ 70368744177664) : PrsOK a ⟨l.n, fun j => cond (Nat.beq j k) v (l.f j)⟩ := by
  refine ⟨h.n, fun j hj => ?_⟩
  show _ ≤ cond _ _ _ ∧ cond _ _ _ ≤ _
  by_cases c : j = k
  · rw [beq_t c]; exact ⟨v0, v1⟩
  · rw [beq_f c]; exact h.f j hj
theorem relax_l11_ex {a : SAir} {s : SSetting} (rt : rightB a s = true) (up : Bool) (st : Sq Int) {t : Sq Bool} (tn : t.n = a.Mine.Places.n) (n : Int) {l : Sq Int} (hl : PrsOK a l) :
    ∃ z, ref12_relax_l11 up st a.Mine.Places a.Mine.Roads a.Fans a.Doors s.Fans s.Doors t n 0 false l = some z ∧ ((∃ y, z = .inl y ∧ PrsOK a y.2) ∨ ∃ y, z = .inr y) := by
  have ok := right_ok rt
  have np := ok.m.np
  rw [ref12_relax_l11_eq]
  refine loop_ex (step := fun v : Int × Bool × Sq Int => ref12_relax_l11_step up st a.Mine.Places a.Mine.Roads a.Fans a.Doors s.Fans s.Doors t n v.1 v.2.1 v.2.2)
    (fun v => ∃ k : Nat, v.1 = k ∧ k ≤ a.Mine.Places.n ∧ PrsOK a v.2.2) (fun v => a.Mine.Places.n - v.1.toNat)
    (fun z => (∃ y, z = .inl y ∧ PrsOK a y.2) ∨ ∃ y, z = .inr y) (fun v hv => ?_) (0, false, l) ⟨0, rfl, Nat.zero_le _, hl⟩
  obtain ⟨x, ch, l⟩ := v
  obtain ⟨k, h1, hk, hl⟩ := hv
  dsimp only at h1 hl ⊢
  subst h1
  have ln := hl.n
  unfold ref12_relax_l11_step
  rcases Nat.lt_or_ge k a.Mine.Places.n with hi | hi
  · have ms : a.Mine.Places.n - (wr ((k : Int) + 1)).toNat < a.Mine.Places.n - (k : Int).toNat := by rw [wr_next (by omega)]; omega
    have nk : wr ((k : Int) + 1) = ((k + 1 : Nat) : Int) := wr_next (by omega)
    have own := hl.f k (by omega)
    have pr : PrOK a s l k := ⟨rt, hl, by omega, by omega⟩
    rw [get_t (dlt (by omega)), get_t (dix (by omega)), toNat_nat]
    by_cases c : t.f k = true
    · rw [get_t c]
      exact ⟨_, rfl, ⟨k + 1, nk, hi, hl⟩, ms⟩
    · rw [get_f (by simpa using c)]
      have fin : ∀ (r : Int × Bool), ∃ x, (DT.ite (!r.2) (.leaf (.r (ch, l))) (.ite ch (.ite (decide ((0 : Int) ≤ (k : Int) ∧ (k : Int) < ((l.n : Nat) : Int))) (.leaf (.next ((wr ((k : Int) + 1)), true, (Sq.mk l.n (fun j => (cond (Nat.beq j k) r.1 (l.f j))))))) .fail)
            (.ite (decide ((0 : Int) ≤ (k : Int) ∧ (k : Int) < ((l.n : Nat) : Int))) (.ite (decide ((0 : Int) ≤ (k : Int) ∧ (k : Int) < ((l.n : Nat) : Int))) (.leaf (.next ((wr ((k : Int) + 1)), (r.1 != l.f k), (Sq.mk l.n (fun j => (cond (Nat.beq j k) r.1 (l.f j))))))) .fail) .fail)) : DT (LR (Int × Bool × Sq Int) (Bool × Sq Int) (Bool × Sq Int))).get = some x ∧
          ((r.2 = true ∧ ∃ c', x = .next (wr ((k : Int) + 1), c', ⟨l.n, fun j => cond (Nat.beq j k) r.1 (l.f j)⟩)) ∨ ∃ y, x = .r y) := fun r => by
        cases e : r.2 with
        | false =>
          rw [get_t (b := !false) rfl]
          exact ⟨_, rfl, .inr ⟨_, rfl⟩⟩
        | true =>
          rw [get_f (b := !true) rfl]
          cases ch with
          | true =>
            rw [get_t rfl, get_t (dix (by omega))]
            exact ⟨_, rfl, .inl ⟨rfl, _, rfl⟩⟩
          | false =>
            rw [get_f rfl, get_t (dix (by omega)), get_t (dix (by omega))]
            exact ⟨_, rfl, .inl ⟨rfl, _, rfl⟩⟩
      cases up with
      | true =>
        obtain ⟨r, er, hr⟩ := ref10_Up_ex pr
        rw [toNat_nat] at hr
        obtain ⟨x, hx, ⟨e, c', rfl⟩ | ⟨y, rfl⟩⟩ := fin r
        · rw [get_t rfl]
          have b : -70368744177664 ≤ r.1 ∧ r.1 ≤ 70368744177664 := by
            rcases hr with ⟨_, a1, a2, _⟩ | ⟨a1, _⟩
            · omega
            · rw [a1] at e; cases e
          exact ⟨_, (get_bind er).trans hx, ⟨k + 1, nk, hi, hl.set k b.1 b.2⟩, ms⟩
        · rw [get_t rfl]
          exact ⟨_, (get_bind er).trans hx, .inr ⟨_, rfl⟩⟩
      | false =>
        obtain ⟨r, er, hr⟩ := ref10_Down_ex pr
        rw [toNat_nat] at hr
        obtain ⟨x, hx, ⟨e, c', rfl⟩ | ⟨y, rfl⟩⟩ := fin r
        · rw [get_f rfl]
          have b : -70368744177664 ≤ r.1 ∧ r.1 ≤ 70368744177664 := by
            rcases hr with ⟨_, a1, a2, _⟩ | ⟨a1, _⟩
            · omega
            · rw [a1] at e; cases e
          exact ⟨_, (get_bind er).trans hx, ⟨k + 1, nk, hi, hl.set k b.1 b.2⟩, ms⟩
        · rw [get_f rfl]
          exact ⟨_, (get_bind er).trans hx, .inr ⟨_, rfl⟩⟩
  · obtain rfl : k = a.Mine.Places.n := by omega
    rw [get_f (dge (by omega))]
    exact ⟨_, rfl, .inl ⟨_, rfl, hl⟩⟩
theorem relax_l7_ex {a : SAir} {s : SSetting} (rt : rightB a s = true) (up : Bool) (st : Sq Int) {t : Sq Bool} (tn : t.n = a.Mine.Places.n) {l : Sq Int} (hl : PrsOK a l) :
    ∃ z, ref12_relax_l7 up st a.Mine.Places a.Mine.Roads a.Fans a.Doors s.Fans s.Doors t 0 l = some z ∧ ((∃ y, z = .inl y) ∨ (∃ y, z = .inr (.inl y) ∧ PrsOK a y) ∨ ∃ y, z = .inr (.inr y)) := by
  rw [ref12_relax_l7_eq]
  refine loop_ex (step := fun v : Int × Sq Int => ref12_relax_l7_step up st a.Mine.Places a.Mine.Roads a.Fans a.Doors s.Fans s.Doors t v.1 v.2)
    (fun v => 0 ≤ v.1 ∧ v.1 ≤ 200 ∧ PrsOK a v.2) (fun v => 200 - v.1.toNat)
    (fun z => (∃ y, z = .inl y) ∨ (∃ y, z = .inr (.inl y) ∧ PrsOK a y) ∨ ∃ y, z = .inr (.inr y)) (fun v hv => ?_) (0, l) ⟨Int.le_refl _, by omega, hl⟩
  obtain ⟨n, l⟩ := v
  obtain ⟨h0, h1, hl⟩ := hv
  dsimp only at h0 h1 hl ⊢
  unfold ref12_relax_l7_step
  by_cases c : n < 200
  · rw [get_t (decide_eq_true c), wr_ok (x := n + 1) (by omega) (by omega)]
    obtain ⟨z, ez, ⟨y, rfl, hy⟩ | ⟨y, rfl⟩⟩ := relax_l11_ex rt up st tn n hl
    · rw [get_sum ez]
      dsimp only [Sum.elim]
      cases y.1 with
      | false =>
        rw [get_t (b := !false) rfl]
        exact ⟨_, rfl, .inr (.inl ⟨_, rfl, hy⟩)⟩
      | true =>
        rw [get_f (b := !true) rfl]
        exact ⟨_, rfl, ⟨by dsimp only; omega, by dsimp only; omega, hy⟩, by dsimp only; omega⟩
    · rw [get_sum ez]
      exact ⟨_, rfl, .inr (.inr ⟨_, rfl⟩)⟩
  · rw [get_f (decide_eq_false c)]
    exact ⟨_, rfl, .inl ⟨_, rfl⟩⟩
theorem ref12_check_ex {a : SAir} {s : SSetting} (rt : rightB a s = true) (st : Sq Int) : ∃ e, ref12_check a s st = some e ∧ (e = 0 → PrsOK a st) := by
  have ok := right_ok rt
  have np := ok.m.np
  rw [ref12_check_eq]; unfold ref12_check_t
  rw [get_bind (ref09_Check_v a), rightB_air rt, get_f (show ((0 : Int) != 0) = false from rfl), get_bind (ref09_Right_v a s), rt, get_f (b := !true) rfl]
  by_cases h : st.n = a.Mine.Places.n
  · rw [get_f (by rw [h]; simp)]
    obtain ⟨x, ex, hx⟩ := Ranged_ex st (by omega)
    rw [get_bind ex]
    cases x with
    | false => rw [get_t (b := !false) rfl]; exact ⟨_, rfl, fun q => by cases q⟩
    | true =>
      have rg := hx.1 rfl
      obtain ⟨t, et, tn, _⟩ := Fixed_ex ok.m
      rw [get_f (b := !true) rfl, get_bind et]
      have el : ref12_check_l12 st t 0 = some (sumO (firstN (gQ fun i => t.f i = true → st.f i = 0) st.n 0)) := by
        rw [ref12_check_l12_eq, ← sumO_eq]
        refine loop_first (step := fun v => ref12_check_l12_step st t v) (gQ fun i => t.f i = true → st.f i = 0) (fun i hi => ?_) ?_ st.n 0 (Nat.zero_add _)
        · unfold ref12_check_l12_step gQ
          rw [get_t (dlt hi), get_t (dix (by omega)), toNat_nat, wr_next (by omega)]
          by_cases c : t.f i = true
          · rw [get_t c, get_t (dix hi)]
            by_cases c2 : st.f i = 0
            · rw [get_f (by rw [c2]; rfl), if_pos fun _ => c2]; rfl
            · rw [get_t (by simp [c2]), if_neg fun q => c2 (q c)]; rfl
          · rw [get_f (by simpa using c), if_pos fun q => absurd q c]; rfl
        · unfold ref12_check_l12_step
          rw [get_f (dge (Nat.le_refl _))]; rfl
      cases ef : firstN (gQ fun i => t.f i = true → st.f i = 0) st.n 0 with
      | none =>
        rw [ef] at el
        rw [get_sum el]
        exact ⟨_, rfl, fun _ => ⟨h, rg⟩⟩
      | some b =>
        rw [ef] at el
        rw [get_sum el]
        exact ⟨_, rfl, fun q => by cases q⟩
  · rw [get_t (by simp; omega)]
    exact ⟨_, rfl, fun q => by cases q⟩
theorem ref12_relax_ex {a : SAir} {s : SSetting} (rt : rightB a s = true) (st : Sq Int) (up : Bool) : ∃ l e, ref12_relax a s st up = some (l, e) ∧ (e = 0 → PrsOK a l) := by
  have ok := right_ok rt
  have np := ok.m.np
  obtain ⟨e, ee, he⟩ := ref12_check_ex rt st
  rw [ref12_relax_eq]; unfold ref12_relax_t
  rw [get_bind ee]
  by_cases c : e = 0
  · have hl := he c
    have ln := hl.n
    obtain ⟨t, et, tn, _⟩ := Fixed_ex ok.m
    rw [get_f (by rw [c]; rfl), get_t (decide_eq_true ⟨by omega, by omega⟩), get_bind et]
    obtain ⟨z, ez, ⟨y, rfl⟩ | ⟨y, rfl, hy⟩ | ⟨y, rfl⟩⟩ := relax_l7_ex rt up st tn hl
    · rw [get_sum ez]
      exact ⟨_, _, rfl, fun q => by cases q⟩
    · rw [get_sum ez]
      exact ⟨_, _, rfl, fun _ => hy⟩
    · rw [get_sum ez]
      exact ⟨_, _, rfl, fun q => by cases q⟩
  · rw [get_t (by simp [c])]
    exact ⟨_, _, rfl, fun q => absurd q c⟩
/-- Bounds of the air's places. -/
structure BdOK (a : SAir) (b : SBounds) : Prop where
  l : PrsOK a b.Low
  h : PrsOK a b.High
theorem Solved_ex {a : SAir} {s : SSetting} (rt : rightB a s = true) : ∃ b o, Solved a s = some (b, o) ∧ (o = true → BdOK a b) := by
  have ok := right_ok rt
  have np := ok.m.np
  have key : ∃ b e, ref12_Solve a s = some (b, e) ∧ (e = 0 → BdOK a b) := by
    rw [ref12_Solve_eq]; unfold ref12_Solve_t
    have fall : ∀ st, ∃ l e, ref12_Fall a s st = some (l, e) ∧ (e = 0 → PrsOK a l) := fun st => by
      obtain ⟨l, e, h, q⟩ := ref12_relax_ex rt st false
      exact ⟨l, e, by rw [ref12_Fall_eq]; unfold ref12_Fall_t; rw [get_bind h]; rfl, q⟩
    have rise : ∀ st, ∃ l e, ref12_Rise a s st = some (l, e) ∧ (e = 0 → PrsOK a l) := fun st => by
      obtain ⟨l, e, h, q⟩ := ref12_relax_ex rt st true
      exact ⟨l, e, by rw [ref12_Rise_eq]; unfold ref12_Rise_t; rw [get_bind h]; rfl, q⟩
    rw [get_t (decide_eq_true ⟨by omega, by omega, by omega, by omega⟩), toNat_nat]
    obtain ⟨l1, e1, h1, q1⟩ := fall ⟨a.Mine.Places.n, fun _ => 0⟩
    rw [get_bind h1]
    dsimp only
    by_cases c1 : e1 = 0
    · rw [get_f (by rw [c1]; rfl)]
      obtain ⟨l2, e2, h2, q2⟩ := rise l1
      rw [get_bind h2]
      dsimp only
      by_cases c2 : e2 = 0
      · rw [get_f (by rw [c2]; rfl)]
        obtain ⟨l3, e3, h3, q3⟩ := fall l2
        rw [get_bind h3]
        dsimp only
        by_cases c3 : e3 = 0
        · rw [get_f (by rw [c3]; rfl)]
          exact ⟨_, _, rfl, fun _ => ⟨q3 c3, q2 c2⟩⟩
        · rw [get_t (by simp [c3])]
          exact ⟨_, _, rfl, fun q => absurd q c3⟩
      · rw [get_t (by simp [c2])]
        exact ⟨_, _, rfl, fun q => absurd q c2⟩
    · rw [get_t (by simp [c1])]
      exact ⟨_, _, rfl, fun q => absurd q c1⟩
  obtain ⟨b, e, h, q⟩ := key
  rw [Solved_eq]; unfold Solved_t
  rw [get_bind h]
  exact ⟨_, _, rfl, fun z => q (by simpa using z)⟩
end Go.Proofs.YtnoeblpanfbpjaaGreat.Ab
