/- Stage 11: the document's Check and Flows. -/
import Derived.Test.YtnoeblpanfbpjaaGreatXH
import Derived.Test.YtnoeblpanfbpjaaGreatXI
import Derived.Test.YtnoeblpanfbpjaaGreatXC
namespace Go.Proofs.YtnoeblpanfbpjaaGreat.Ab
open Go

theorem ex_bind {A B : Type} {o : Option A} {x : A} {f : A → DT B} {Q : B → Prop} (h : o = some x) (q : ∃ y, (f x).get = some y ∧ Q y) : ∃ y, (DT.bind o f).get = some y ∧ Q y := by
  rw [get_bind h]; exact q
/-- Numbers that are pressures. -/
def Rng (l : Sq Int) : Prop := ∀ k, k < l.n → -70368744177664 ≤ l.f k ∧ l.f k ≤ 70368744177664
open Classical in
noncomputable def gQ (Q : Nat → Prop) (i : Nat) : Option Unit := if Q i then none else some ()
theorem gQ_all {Q : Nat → Prop} {n : Nat} (h : ∀ i, i < n → Q i) : firstN (gQ Q) n 0 = none := by
  cases e : firstN (gQ Q) n 0 with
  | none => rfl
  | some u =>
    obtain ⟨j, _, hj, g, _⟩ := firstN_some e
    unfold gQ at g
    rw [if_pos (h j (by omega))] at g
    cases g
theorem gQ_not {Q : Nat → Prop} {n : Nat} (h : ¬ ∀ i, i < n → Q i) : firstN (gQ Q) n 0 = some () := by
  cases e : firstN (gQ Q) n 0 with
  | some u => rfl
  | none =>
    refine absurd (fun i hi => ?_) h
    have := firstN_none e i (Nat.zero_le _) (by omega)
    unfold gQ at this
    split at this
    · assumption
    · cases this
theorem Ranged_ex (l : Sq Int) (h : l.n ≤ 64) : ∃ b, ref11_Ranged l = some b ∧ (b = true ↔ Rng l) := by
  have e : ref11_Ranged_l2 l 0 = some (sumO (firstN (gQ fun i => -70368744177664 ≤ l.f i ∧ l.f i ≤ 70368744177664) l.n 0)) := by
    rw [ref11_Ranged_l2_eq, ← sumO_eq]
    refine loop_first (step := fun v => ref11_Ranged_l2_step l v) (gQ fun i => -70368744177664 ≤ l.f i ∧ l.f i ≤ 70368744177664) (fun i hi => ?_) ?_ l.n 0 (Nat.zero_add _)
    · unfold ref11_Ranged_l2_step gQ
      rw [get_t (dlt hi), get_t (dix hi), toNat_nat, wr_next (by omega)]
      by_cases c : l.f i < -70368744177664
      · rw [get_t (decide_eq_true c), if_neg (by omega)]; rfl
      · rw [get_f (decide_eq_false c), get_t (dix hi)]
        by_cases c2 : l.f i > 70368744177664
        · rw [get_t (decide_eq_true c2), if_neg (by omega)]; rfl
        · rw [get_f (decide_eq_false c2), if_pos (by omega)]; rfl
    · unfold ref11_Ranged_l2_step
      rw [get_f (dge (Nat.le_refl _))]; rfl
  rw [ref11_Ranged_eq]; unfold ref11_Ranged_t
  by_cases c : Rng l
  · rw [gQ_all c] at e
    rw [get_sum e]
    exact ⟨true, rfl, fun _ => c, fun _ => rfl⟩
  · rw [gQ_not c] at e
    rw [get_sum e]
    exact ⟨false, rfl, fun h => by (cases h), fun h => absurd h c⟩
/-- What is asked of bounds at a place. -/
def AccAt (a : SAir) (s : SSetting) (L H : Sq Int) (i : Nat) : Prop :=
  ((a.Mine.Places.f i).Surface = true ∨ ¬ Aw a.Mine i → L.f i = 0 ∧ H.f i = 0) ∧ (¬ ((a.Mine.Places.f i).Surface = true ∨ ¬ Aw a.Mine i) → 0 ≤ NL a s H i (H.f i) ∧ NH a s L i (L.f i) ≤ 0)
open Classical in
/-- The error of bounds. -/
noncomputable def certE (a : SAir) (s : SSetting) (b : SBounds) : Int :=
  if airE a ≠ 0 then airE a else if rightB a s = false then 21 else if b.Low.n ≠ a.Mine.Places.n then 11 else if b.High.n ≠ a.Mine.Places.n then 11
  else if ¬ Rng b.Low then 1 else if ¬ Rng b.High then 1 else if ∀ i, i < a.Mine.Places.n → AccAt a s b.Low b.High i then 0 else 12
theorem ref11_Check_l13_v {a : SAir} {s : SSetting} (ok : RtOK a s) {L H : Sq Int} (ln : L.n = a.Mine.Places.n) (hn : H.n = a.Mine.Places.n) (lr : Rng L) (hr : Rng H) {t : Sq Bool} (tn : t.n = a.Mine.Places.n) (ht : ∀ v : Nat, v < a.Mine.Places.n → (t.f v = true ↔ (a.Mine.Places.f v).Surface = true ∨ ¬ Aw a.Mine v)) :
    ref11_Check_l13 a.Mine.Places a.Mine.Roads a.Fans a.Doors s.Fans s.Doors L H t 0 = some (sumO (firstN (gQ (AccAt a s L H)) a.Mine.Places.n 0)) := by
  have np := ok.m.np
  have pL : PrsOK a L := ⟨ln, lr⟩
  have pH : PrsOK a H := ⟨hn, hr⟩
  rw [ref11_Check_l13_eq, ← sumO_eq]
  refine loop_first (step := fun v => ref11_Check_l13_step a.Mine.Places a.Mine.Roads a.Fans a.Doors s.Fans s.Doors L H t v) (gQ (AccAt a s L H)) (fun i hi => ?_) ?_ a.Mine.Places.n 0 (Nat.zero_add _)
  · unfold ref11_Check_l13_step gQ
    have at' := ht i hi
    rw [get_t (dlt hi), get_t (dix (by omega)), toNat_nat, wr_next (by omega)]
    by_cases c : t.f i = true
    · have fx := at'.1 c
      rw [get_t c, get_t (dix (by omega))]
      by_cases c1 : L.f i = 0
      · rw [get_f (by rw [c1]; rfl), get_t (dix (by omega))]
        by_cases c2 : H.f i = 0
        · rw [get_f (by rw [c2]; rfl), if_pos ⟨fun _ => ⟨c1, c2⟩, fun n => absurd fx n⟩]; rfl
        · rw [get_t (by simp [c2]), if_neg fun q => c2 (q.1 fx).2]; rfl
      · rw [get_t (by simp [c1]), if_neg fun q => c1 (q.1 fx).1]; rfl
    · have nf : ¬ ((a.Mine.Places.f i).Surface = true ∨ ¬ Aw a.Mine i) := fun q => c (at'.2 q)
      rw [get_f (by simpa using c)]
      refine (get_bind (ref10_Lowest_v ok pH (pl := (i : Int)) (p := H.f i) (by rw [toNat_nat]))).trans ?_
      by_cases c1 : NL a s H i (H.f i) < 0
      · rw [get_t (decide_eq_true c1), if_neg fun q => by have := (q.2 nf).1; omega]; rfl
      · rw [get_f (decide_eq_false c1)]
        refine (get_bind (ref10_Highest_v ok pL (pl := (i : Int)) (p := L.f i) (by rw [toNat_nat]))).trans ?_
        by_cases c2 : NH a s L i (L.f i) > 0
        · rw [get_t (decide_eq_true c2), if_neg fun q => by have := (q.2 nf).2; omega]; rfl
        · rw [get_f (decide_eq_false c2), if_pos ⟨fun q => absurd q nf, fun _ => ⟨by omega, by omega⟩⟩]; rfl
  · unfold ref11_Check_l13_step
    rw [get_f (dge (Nat.le_refl _))]; rfl
theorem ref11_Check_v (a : SAir) (s : SSetting) (b : SBounds) : ref11_Check a s b = some (certE a s b) := by
  rw [ref11_Check_eq]; unfold ref11_Check_t certE
  rw [get_bind (ref09_Check_v a)]
  by_cases h1 : airE a = 0
  · rw [get_f (by rw [h1]; rfl), if_neg (not_not_intro h1), get_bind (ref09_Right_v a s)]
    by_cases h2 : rightB a s = true
    · have ok := right_ok h2
      have np := ok.m.np
      rw [h2, get_f (b := !true) rfl, if_neg (by simp)]
      by_cases h3 : b.Low.n = a.Mine.Places.n
      · rw [get_f (by rw [h3]; simp), if_neg (not_not_intro h3)]
        by_cases h4 : b.High.n = a.Mine.Places.n
        · rw [get_f (by rw [h4]; simp), if_neg (not_not_intro h4)]
          obtain ⟨x, ex, hx⟩ := Ranged_ex b.Low (by omega)
          obtain ⟨y, ey, hy⟩ := Ranged_ex b.High (by omega)
          rw [get_bind ex]
          by_cases h5 : Rng b.Low
          · rw [hx.2 h5, get_f (b := !true) rfl, if_neg (not_not_intro h5), get_bind ey]
            by_cases h6 : Rng b.High
            · obtain ⟨t, et, tn, ht⟩ := Fixed_ex ok.m
              have el := ref11_Check_l13_v ok h3 h4 h5 h6 tn ht
              rw [hy.2 h6, get_f (b := !true) rfl, if_neg (not_not_intro h6), get_bind et]
              by_cases h7 : ∀ i, i < a.Mine.Places.n → AccAt a s b.Low b.High i
              · rw [gQ_all h7] at el
                rw [get_sum el, if_pos h7]; rfl
              · rw [gQ_not h7] at el
                rw [get_sum el, if_neg h7]; rfl
            · have : y = false := by cases y with
                | false => rfl
                | true => exact absurd (hy.1 rfl) h6
              rw [this, get_t (b := !false) rfl, if_pos h6]; rfl
          · have : x = false := by cases x with
              | false => rfl
              | true => exact absurd (hx.1 rfl) h5
            rw [this, get_t (b := !false) rfl, if_pos h5]; rfl
        · rw [get_t (by simp; omega), if_pos h4]; rfl
      · rw [get_t (by simp; omega), if_pos h3]; rfl
    · have h2 : rightB a s = false := by simpa using h2
      rw [h2, get_t (b := !false) rfl, if_pos rfl]; rfl
  · rw [get_t (by simp [h1]), if_pos h1]; rfl
theorem certE_ok {a : SAir} {s : SSetting} {b : SBounds} (h : certE a s b = 0) : rightB a s = true ∧ AccOK a s b.Low b.High := by
  unfold certE at h
  split at h
  · rename_i c; exact absurd h c
  · split at h
    · cases h
    · rename_i h2
      have h2 : rightB a s = true := by simpa using h2
      split at h
      · cases h
      · rename_i h3
        split at h
        · cases h
        · rename_i h4
          split at h
          · cases h
          · rename_i h5
            split at h
            · cases h
            · rename_i h6
              split at h
              · rename_i h7
                refine ⟨h2, right_ok h2, Classical.not_not.1 h3, Classical.not_not.1 h4, Classical.not_not.1 h5, Classical.not_not.1 h6, fun i hi q => (h7 i hi).1 q, fun i hi ns aw => (h7 i hi).2 fun q => q.elim (fun e => by rw [ns] at e; cases e) fun n => n aw⟩
              · cases h
theorem AccOK.at {a : SAir} {s : SSetting} {L H : Sq Int} (h : AccOK a s L H) {i : Nat} (hi : i < a.Mine.Places.n) : AccAt a s L H i := by
  refine ⟨h.z i hi, fun n => h.u i hi ?_ ?_⟩
  · cases e : (a.Mine.Places.f i).Surface with
    | false => rfl
    | true => exact absurd (.inl e) n
  · exact Classical.byContradiction fun q => n (.inr q)
theorem certE_of {a : SAir} {s : SSetting} {b : SBounds} (rt : rightB a s = true) (ln : b.Low.n = a.Mine.Places.n) (hn : b.High.n = a.Mine.Places.n) (lr : Rng b.Low) (hr : Rng b.High) (h : ∀ i, i < a.Mine.Places.n → AccAt a s b.Low b.High i) : certE a s b = 0 := by
  unfold certE
  rw [if_neg (not_not_intro (rightB_air rt)), if_neg (by rw [rt]; simp), if_neg (not_not_intro ln), if_neg (not_not_intro hn), if_neg (not_not_intro lr), if_neg (not_not_intro hr), if_pos h]
open Classical in
/-- What accepted bounds say of a road. -/
noncomputable def flowP (a : SAir) (s : SSetting) (b : SBounds) (j : Nat) : SSpan :=
  if (a.Mine.Roads.f j).Closed = true then ⟨0, 0⟩ else if Aw a.Mine (a.Mine.Roads.f j).From then
    ⟨flL a s j (b.Low.f (a.Mine.Roads.f j).From.toNat - b.High.f (a.Mine.Roads.f j).To.toNat), flH a s j (b.High.f (a.Mine.Roads.f j).From.toNat - b.Low.f (a.Mine.Roads.f j).To.toNat)⟩ else ⟨-1125899906842624, 1125899906842624⟩
theorem ref11_Flows_ex (a : SAir) (s : SSetting) (b : SBounds) : ∃ l, ref11_Flows a s b = some l ∧ (certE a s b ≠ 0 → l.n = 0) ∧ (certE a s b = 0 → l.n = a.Mine.Roads.n ∧ ∀ j, j < a.Mine.Roads.n → l.f j = flowP a s b j) := by
  rw [ref11_Flows_eq]; unfold ref11_Flows_t
  rw [get_bind (ref11_Check_v a s b)]
  by_cases c : certE a s b = 0
  · obtain ⟨_, h⟩ := certE_ok c
    have ok := h.r
    have nr := ok.m.nr
    have np := ok.m.np
    have ln := h.ln
    have hn := h.hn
    obtain ⟨t, et, tn, ht⟩ := Airy_ex ok.m
    have key := loop_ex (step := fun v : Sq SSpan × Int => ref11_Flows_l6_step a.Mine.Places a.Mine.Roads a.Fans a.Doors s.Fans s.Doors b.Low b.High t v.1 v.2)
      (fun v => ∃ k : Nat, v.2 = k ∧ k ≤ a.Mine.Roads.n ∧ v.1.n = k ∧ ∀ j, j < k → v.1.f j = flowP a s b j) (fun v => a.Mine.Roads.n - v.2.toNat)
      (fun z => ∃ y, z = .inl y ∧ y.n = a.Mine.Roads.n ∧ ∀ j, j < a.Mine.Roads.n → y.f j = flowP a s b j) (fun v hv => by
        obtain ⟨l, x⟩ := v
        obtain ⟨k, h1, hk, hl, hf⟩ := hv
        dsimp only at h1 hl hf ⊢
        subst h1
        unfold ref11_Flows_l6_step
        rcases Nat.lt_or_ge k a.Mine.Roads.n with hi | hi
        · have re := road_ends ok.m hi
          have g3 : decide ((l.n + 1) * 16 ≤ 140737488355328 ∧ (l.n + 1) ≤ 1099511627776) = true := decide_eq_true ⟨by omega, by omega⟩
          have ms : a.Mine.Roads.n - (wr ((k : Int) + 1)).toNat < a.Mine.Roads.n - (k : Int).toNat := by rw [wr_next (by omega)]; omega
          have nx : ∀ S : SSpan, S = flowP a s b k → ∃ k2 : Nat, wr ((k : Int) + 1) = k2 ∧ k2 ≤ a.Mine.Roads.n ∧ l.n + 1 = k2 ∧ ∀ j, j < k2 → SSpan.mk (cond (Nat.blt j l.n) (l.f j).Low S.Low) (cond (Nat.blt j l.n) (l.f j).High S.High) = flowP a s b j := fun S hS => by
            refine ⟨k + 1, wr_next (by omega), hi, by omega, fun j hj => ?_⟩
            by_cases q : j < l.n
            · rw [blt_t q]; exact hf j (by omega)
            · rw [blt_f (by omega), show j = k by omega, ← hS]; rfl
          rw [get_t (dlt hi), get_t (dix hi), toNat_nat]
          by_cases ec : (a.Mine.Roads.f k).Closed = true
          · rw [get_f (by rw [ec]; rfl), get_t g3]
            exact ⟨_, rfl, nx ⟨0, 0⟩ (by unfold flowP; rw [if_pos ec]), ms⟩
          · have bF := h.lr (a.Mine.Roads.f k).From.toNat (by omega)
            have bT := h.lr (a.Mine.Roads.f k).To.toNat (by omega)
            have cF := h.hr (a.Mine.Roads.f k).From.toNat (by omega)
            have cT := h.hr (a.Mine.Roads.f k).To.toNat (by omega)
            have at' := ht (a.Mine.Roads.f k).From.toNat (by omega)
            rw [show (((a.Mine.Roads.f k).From.toNat : Nat) : Int) = (a.Mine.Roads.f k).From by omega] at at'
            rw [get_t (by simpa using ec), get_bind (show ref05_Nothing = some ⟨-1125899906842624, 1125899906842624⟩ by rw [ref05_Nothing_eq]; rfl), get_t (decide_eq_true ⟨re.1, by omega⟩)]
            by_cases aw : t.f (a.Mine.Roads.f k).From.toNat = true
            · rw [get_t aw, get_t (decide_eq_true ⟨re.1, by omega⟩), get_t (decide_eq_true ⟨re.2.2.1, by omega⟩), wr_ok (x := b.Low.f (a.Mine.Roads.f k).From.toNat - b.High.f (a.Mine.Roads.f k).To.toNat) (by omega) (by omega)]
              refine ex_bind (flL_c ok hi _).1 ?_
              rw [get_t (decide_eq_true ⟨re.1, by omega⟩), get_t (decide_eq_true ⟨re.2.2.1, by omega⟩), wr_ok (x := b.High.f (a.Mine.Roads.f k).From.toNat - b.Low.f (a.Mine.Roads.f k).To.toNat) (by omega) (by omega)]
              refine ex_bind (flH_c ok hi _).1 ?_
              rw [get_t g3]
              exact ⟨_, rfl, nx ⟨flL a s k (b.Low.f (a.Mine.Roads.f k).From.toNat - b.High.f (a.Mine.Roads.f k).To.toNat), flH a s k (b.High.f (a.Mine.Roads.f k).From.toNat - b.Low.f (a.Mine.Roads.f k).To.toNat)⟩ (by unfold flowP; rw [if_neg ec, if_pos (at'.1 aw)]), ms⟩
            · rw [get_f (by simpa using aw), get_t g3]
              exact ⟨_, rfl, nx ⟨_, _⟩ (by unfold flowP; rw [if_neg ec, if_neg fun q => aw (at'.2 q)]), ms⟩
        · obtain rfl : k = a.Mine.Roads.n := by omega
          rw [get_f (dge (Nat.le_refl _))]
          exact ⟨_, rfl, _, rfl, hl, hf⟩)
      (⟨0, fun _ => ⟨0, 0⟩⟩, 0) ⟨0, rfl, Nat.zero_le _, rfl, fun j hj => absurd hj (Nat.not_lt_zero _)⟩
    obtain ⟨z, hz, y, rfl, yn, yf⟩ := key
    rw [c, get_f (show ((0 : Int) != 0) = false from rfl), get_bind et, get_sum (by rw [ref11_Flows_l6_eq]; exact hz)]
    exact ⟨y, rfl, fun n => absurd rfl n, fun _ => ⟨yn, yf⟩⟩
  · rw [get_t (by simp [c])]
    exact ⟨_, rfl, fun _ => rfl, fun n => absurd n c⟩
end Go.Proofs.YtnoeblpanfbpjaaGreat.Ab
