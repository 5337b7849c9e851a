/- Stage 11: the program's Check and Flows; the sanity check. -/
import Derived.Test.YtnoeblpanfbpjaaGreatXY
import Derived.Test.YtnoeblpanfbpjaaGreatXFp
import Derived.Test.YtnoeblpanfbpjaaGreatXkv
namespace Go.Proofs.YtnoeblpanfbpjaaGreat.Ab
open Go

theorem Cont_ex (l : Sq Int) (v : Int) (hn : l.n ≤ 1000) : ∃ b, slices_Contains l v = some b ∧ (b = true ↔ In l v) := by
  have e1 : ∃ z, slices_Index l v = some z ∧ ((z = -1 ∧ ¬ In l v) ∨ (0 ≤ z ∧ In l v)) := by
    have key := loop_ex (step := fun x : Int => slices_Index_l2_step l v x)
      (fun x => ∃ j : Nat, x = j ∧ j ≤ l.n ∧ ∀ k, k < j → l.f k ≠ v) (fun x => l.n - x.toNat)
      (fun z => (z = .inl () ∧ ¬ In l v) ∨ ∃ y : Int, z = .inr y ∧ 0 ≤ y ∧ In l v) (fun x hx => by
        obtain ⟨j, rfl, hj, h⟩ := hx
        unfold slices_Index_l2_step
        by_cases c : j < l.n
        · rw [get_t (dlt c), get_t (dix c), toNat_nat, wr_next (by omega)]
          by_cases e : l.f j = v
          · rw [get_t (by rw [e]; simp)]
            exact ⟨_, rfl, .inr ⟨_, rfl, by omega, j, c, e⟩⟩
          · rw [get_f (by simp; omega)]
            exact ⟨_, rfl, ⟨j + 1, rfl, c, fun k hk => by
              by_cases q : k = j
              · rw [q]; exact e
              · exact h k (by omega)⟩, by omega⟩
        · obtain rfl : j = l.n := by omega
          rw [get_f (dge (Nat.le_refl _))]
          exact ⟨_, rfl, .inl ⟨rfl, fun ⟨k, hk, e⟩ => h k hk e⟩⟩)
      0 ⟨0, rfl, Nat.zero_le _, fun k hk => absurd hk (Nat.not_lt_zero _)⟩
    obtain ⟨z, hz, ⟨rfl, r⟩ | ⟨y, rfl, y0, r⟩⟩ := key
    · rw [slices_Index_eq]; unfold slices_Index_t
      rw [get_sum (by rw [slices_Index_l2_eq]; exact hz)]
      exact ⟨_, rfl, .inl ⟨rfl, r⟩⟩
    · rw [slices_Index_eq]; unfold slices_Index_t
      rw [get_sum (by rw [slices_Index_l2_eq]; exact hz)]
      exact ⟨_, rfl, .inr ⟨y0, r⟩⟩
  obtain ⟨z, ez, h⟩ := e1
  rw [slices_Contains_eq]; unfold slices_Contains_t
  rw [get_bind ez]
  refine ⟨_, rfl, ?_⟩
  rcases h with ⟨z1, h⟩ | ⟨z0, h⟩
  · rw [z1]; exact ⟨fun e => by { cases e }, fun e => absurd e h⟩
  · exact ⟨fun _ => h, fun _ => decide_eq_true z0⟩
theorem odd_ex (l : Sq Int) (hn : l.n ≤ 64) : ∃ b, slices_ContainsFunc_odd l = some b ∧ (b = true ↔ ¬ Rng l) := by
  have too : ∀ p : Int, ∃ b, certify_tooGreat p = some b ∧ (b = true ↔ ¬ (-70368744177664 ≤ p ∧ p ≤ 70368744177664)) := fun p => by
    rw [certify_tooGreat_eq]; unfold certify_tooGreat_t
    by_cases c : p < -70368744177664
    · rw [get_t (decide_eq_true c)]; exact ⟨_, rfl, fun _ => by omega, fun _ => rfl⟩
    · rw [get_f (decide_eq_false c)]
      refine ⟨_, rfl, fun h => ?_, fun h => decide_eq_true (by omega)⟩
      have := of_decide_eq_true h
      omega
  have e1 : ∃ z, slices_IndexFunc_odd l = some z ∧ ((z = -1 ∧ Rng l) ∨ (0 ≤ z ∧ ¬ Rng l)) := by
    have key := loop_ex (step := fun x : Int => slices_IndexFunc_odd_l2_step l x)
      (fun x => ∃ j : Nat, x = j ∧ j ≤ l.n ∧ ∀ k, k < j → -70368744177664 ≤ l.f k ∧ l.f k ≤ 70368744177664) (fun x => l.n - x.toNat)
      (fun z => (z = .inl () ∧ Rng l) ∨ ∃ y : Int, z = .inr y ∧ 0 ≤ y ∧ ¬ Rng l) (fun x hx => by
        obtain ⟨j, rfl, hj, h⟩ := hx
        unfold slices_IndexFunc_odd_l2_step
        by_cases c : j < l.n
        · obtain ⟨b, eb, hb⟩ := too (l.f j)
          rw [get_t (dlt c), get_t (dix c), toNat_nat, wr_next (by omega), get_bind eb]
          cases b with
          | true =>
            rw [get_t rfl]
            exact ⟨_, rfl, .inr ⟨_, rfl, by omega, fun r => hb.1 rfl (r j c)⟩⟩
          | false =>
            rw [get_f rfl]
            have e : -70368744177664 ≤ l.f j ∧ l.f j ≤ 70368744177664 := Classical.byContradiction fun n => by cases hb.2 n
            exact ⟨_, rfl, ⟨j + 1, rfl, c, fun k hk => by
              by_cases q : k = j
              · rw [q]; exact e
              · exact h k (by omega)⟩, by omega⟩
        · obtain rfl : j = l.n := by omega
          rw [get_f (dge (Nat.le_refl _))]
          exact ⟨_, rfl, .inl ⟨rfl, h⟩⟩)
      0 ⟨0, rfl, Nat.zero_le _, fun k hk => absurd hk (Nat.not_lt_zero _)⟩
    obtain ⟨z, hz, ⟨rfl, r⟩ | ⟨y, rfl, y0, r⟩⟩ := key
    · rw [slices_IndexFunc_odd_eq]; unfold slices_IndexFunc_odd_t
      rw [get_sum (by rw [slices_IndexFunc_odd_l2_eq]; exact hz)]
      exact ⟨_, rfl, .inl ⟨rfl, r⟩⟩
    · rw [slices_IndexFunc_odd_eq]; unfold slices_IndexFunc_odd_t
      rw [get_sum (by rw [slices_IndexFunc_odd_l2_eq]; exact hz)]
      exact ⟨_, rfl, .inr ⟨y0, r⟩⟩
  obtain ⟨z, ez, h⟩ := e1
  rw [slices_ContainsFunc_odd_eq]; unfold slices_ContainsFunc_odd_t
  rw [get_bind ez]
  refine ⟨_, rfl, ?_⟩
  rcases h with ⟨z1, h⟩ | ⟨z0, h⟩
  · rw [z1]; exact ⟨fun e => by { cases e }, fun e => absurd h e⟩
  · exact ⟨fun _ => h, fun _ => decide_eq_true z0⟩
/-- The places that are cut off, as the program lists them. -/
theorem lost_ex {m : SMine} (ok : MineOK m) (h12 : m.Places.n ≤ 12) : ∃ c, plan_CutOff m = some c ∧ c.n ≤ 1000 ∧ ∀ v : Int, 0 ≤ v → v < m.Places.n → (In c v ↔ ¬ Aw m v) := by
  obtain ⟨c, ec, dc, hc⟩ := CutOff_ex ok h12
  have r : ∀ i, i < c.n → 0 ≤ c.f i ∧ c.f i < m.Places.n := fun i hi => by
    have := (hc (c.f i)).1 ⟨i, hi, rfl⟩
    exact ⟨this.1, this.2.1⟩
  have := php m.Places.n c.n (fun i => (c.f i).toNat) (fun i hi => by have := r i hi; omega) (fun i j hi hj e => dc i j hi hj (by have := r i hi; have := r j hj; omega))
  exact ⟨c, ec, by omega, fun v v0 v1 => (hc v).trans (cutM_aw v0 v1)⟩
theorem proved_ex {a : SAir} {s : SSetting} (rt : rightB a s = true) (h12 : a.Mine.Places.n ≤ 12) {b : SBounds} (pL : PrsOK a b.Low) (pH : PrsOK a b.High) :
    ∃ z, certify_proved a s b = some z ∧ (z = true ↔ ∀ i, i < a.Mine.Places.n → AccAt a s b.Low b.High i) := by
  have ok := right_ok rt
  have ln := pL.n
  have hn := pH.n
  obtain ⟨c, ec, cn, hc⟩ := lost_ex ok.m h12
  have el : certify_proved_l3 a.Mine.Places a.Mine.Roads a.Fans a.Doors s.Fans s.Doors b.Low b.High c 0 = some (sumO (firstN (gQ (AccAt a s b.Low b.High)) a.Mine.Places.n 0)) := by
    rw [certify_proved_l3_eq, ← sumO_eq]
    refine loop_first (step := fun v => certify_proved_l3_step a.Mine.Places a.Mine.Roads a.Fans a.Doors s.Fans s.Doors b.Low b.High c v) (gQ (AccAt a s b.Low b.High)) (fun i hi => ?_) ?_ a.Mine.Places.n 0 (Nat.zero_add _)
    · unfold certify_proved_l3_step gQ
      rw [get_t (dlt hi), get_t (dix hi), toNat_nat, wr_next (by omega)]
      have pr : ∀ l, PrsOK a l → PrOK a s l i := fun l hl => ⟨rt, hl, by omega, by have := hl.n; omega⟩
      have fixed : (a.Mine.Places.f i).Surface = true ∨ ¬ Aw a.Mine i → ∀ fl,
          (AccAt a s b.Low b.High i ∧ (DT.ite (decide ((0 : Int) ≤ (i : Int) ∧ (i : Int) < ((b.Low.n : Nat) : Int))) (.ite (b.Low.f i != (0 : Int)) (.leaf (.r ())) (.ite (decide ((0 : Int) ≤ (i : Int) ∧ (i : Int) < ((b.High.n : Nat) : Int))) (.ite (b.High.f i != (0 : Int)) (.leaf (.r ())) (.leaf (.next ((i + 1 : Nat) : Int)))) .fail)) fl : DT (LR Int Unit Unit)).get = some (.next ((i + 1 : Nat) : Int)))
          ∨ (¬ AccAt a s b.Low b.High i ∧ (DT.ite (decide ((0 : Int) ≤ (i : Int) ∧ (i : Int) < ((b.Low.n : Nat) : Int))) (.ite (b.Low.f i != (0 : Int)) (.leaf (.r ())) (.ite (decide ((0 : Int) ≤ (i : Int) ∧ (i : Int) < ((b.High.n : Nat) : Int))) (.ite (b.High.f i != (0 : Int)) (.leaf (.r ())) (.leaf (.next ((i + 1 : Nat) : Int)))) .fail)) fl : DT (LR Int Unit Unit)).get = some (.r ())) := fun fx fl => by
        rw [get_t (dix (by omega))]
        by_cases c1 : b.Low.f i = 0
        · rw [get_f (by rw [c1]; rfl), get_t (dix (by omega))]
          by_cases c2 : b.High.f i = 0
          · rw [get_f (by rw [c2]; rfl)]; exact .inl ⟨⟨fun _ => ⟨c1, c2⟩, fun n => absurd fx n⟩, rfl⟩
          · rw [get_t (by simp [c2])]; exact .inr ⟨fun q => c2 (q.1 fx).2, rfl⟩
        · rw [get_t (by simp [c1])]; exact .inr ⟨fun q => c1 (q.1 fx).1, rfl⟩
      cases hs : (a.Mine.Places.f i).Surface with
      | true =>
        rw [get_t rfl]
        rcases fixed (.inl hs) .fail with ⟨h, e⟩ | ⟨h, e⟩
        · rw [if_pos h]; exact e
        · rw [if_neg h]; exact e
      | false =>
        rw [get_f rfl]
        obtain ⟨z, ez, hz⟩ := Cont_ex c i cn
        have hz' := hz.trans (hc i (by omega) (by omega))
        rw [get_bind ez]
        cases z with
        | true =>
          rw [get_t rfl]
          rcases fixed (.inr (hz'.1 rfl)) .fail with ⟨h, e⟩ | ⟨h, e⟩
          · rw [if_pos h]; exact e
          · rw [if_neg h]; exact e
        | false =>
          have nf : ¬ ((a.Mine.Places.f i).Surface = true ∨ ¬ Aw a.Mine i) := fun q => q.elim (fun e => by rw [hs] at e; cases e) fun n => by cases hz'.2 n
          rw [get_f rfl]
          refine (get_bind (balance_Net_v (pr b.High pH))).trans ?_
          unfold netS
          dsimp only
          rw [toNat_nat]
          by_cases c1 : NL a s b.High i (b.High.f i) < 0
          · rw [get_t (decide_eq_true c1), if_neg fun q => by have := (q.2 nf).1; omega]; rfl
          · rw [get_f (decide_eq_false c1)]
            refine (get_bind (balance_Net_v (pr b.Low pL))).trans ?_
            unfold netS
            dsimp only
            rw [toNat_nat]
            by_cases c2 : NH a s b.Low i (b.Low.f i) > 0
            · rw [get_t (decide_eq_true c2), if_neg fun q => by have := (q.2 nf).2; omega]; rfl
            · rw [get_f (decide_eq_false c2), if_pos ⟨fun q => absurd q nf, fun _ => ⟨by omega, by omega⟩⟩]; rfl
    · unfold certify_proved_l3_step
      rw [get_f (dge (Nat.le_refl _))]; rfl
  rw [certify_proved_eq]; unfold certify_proved_t
  rw [get_bind ec]
  by_cases h7 : ∀ i, i < a.Mine.Places.n → AccAt a s b.Low b.High i
  · rw [gQ_all h7] at el
    rw [get_sum el]
    exact ⟨true, rfl, fun _ => h7, fun _ => rfl⟩
  · rw [gQ_not h7] at el
    rw [get_sum el]
    exact ⟨false, rfl, fun h => by (cases h), fun h => absurd h h7⟩
theorem certify_Check_v (a : SAir) (s : SSetting) (b : SBounds) (h12 : a.Mine.Places.n ≤ 12) : certify_Check a s b = some (certE a s b) := by
  rw [certify_Check_eq]; unfold certify_Check_t certE
  rw [get_bind (branch_Check_v a)]
  by_cases h1 : airE a = 0
  · rw [get_f (by rw [h1]; rfl), if_neg (not_not_intro h1), get_bind (branch_Right_v a s)]
    by_cases h2 : rightB a s = true
    · rw [h2, get_f (b := !true) rfl, if_neg (by simp)]
      by_cases h3 : b.Low.n = a.Mine.Places.n
      · rw [get_f (by rw [h3]; simp), if_neg (not_not_intro h3)]
        by_cases h4 : b.High.n = a.Mine.Places.n
        · rw [get_f (by rw [h4]; simp), if_neg (not_not_intro h4)]
          obtain ⟨x, ex, hx⟩ := odd_ex b.Low (by omega)
          obtain ⟨y, ey, hy⟩ := odd_ex b.High (by omega)
          rw [get_bind ex]
          by_cases h5 : Rng b.Low
          · have : x = false := by cases x with
              | false => rfl
              | true => exact absurd h5 (hx.1 rfl)
            rw [this, get_f rfl, if_neg (not_not_intro h5), get_bind ey]
            by_cases h6 : Rng b.High
            · have : y = false := by cases y with
                | false => rfl
                | true => exact absurd h6 (hy.1 rfl)
              obtain ⟨z, ez, hz⟩ := proved_ex (b := b) h2 h12 ⟨h3, h5⟩ ⟨h4, h6⟩
              rw [this, get_f rfl, if_neg (not_not_intro h6), get_bind ez]
              by_cases h7 : ∀ i, i < a.Mine.Places.n → AccAt a s b.Low b.High i
              · rw [hz.2 h7, get_f (b := !true) rfl, if_pos h7]; rfl
              · have : z = false := by cases z with
                  | false => rfl
                  | true => exact absurd (hz.1 rfl) h7
                rw [this, get_t (b := !false) rfl, if_neg h7]; rfl
            · rw [hy.2 h6, get_t rfl, if_pos h6]; rfl
          · rw [hx.2 h5, get_t rfl, if_pos h5]; rfl
        · rw [get_t (by simp; omega), if_pos h4]; rfl
      · rw [get_t (by simp; omega), if_pos h3]; rfl
    · have h2 : rightB a s = false := by simpa using h2
      rw [h2, get_t (b := !false) rfl, if_pos rfl]; rfl
  · rw [get_t (by simp [h1]), if_pos h1]; rfl
theorem flow_pick {a : SAir} {s : SSetting} (rt : rightB a s = true) {j : Nat} (hj : j < a.Mine.Roads.n) (hc : (a.Mine.Roads.f j).Closed = false) (p : Int) : ∃ S, branch_Flow a s (j : Int) p = some S ∧ S.Low = flL a s j p ∧ S.High = flH a s j p := by
  have ok := right_ok rt
  rcases branch_Flow_ex a s (j : Int) p with ⟨_, S, eS, hS⟩ | ⟨n, _⟩
  · rw [toNat_nat] at hS
    refine ⟨S, eS, ?_, (flH_c ok hj p).2.eq hS.h ▸ rfl⟩
    have := (flL_c ok hj p).2.eq hS.l
    omega
  · exact absurd ⟨rt, by omega, by omega, by rw [toNat_nat]; exact hc⟩ n
theorem certify_Flows_ex (a : SAir) (s : SSetting) (b : SBounds) (h12 : a.Mine.Places.n ≤ 12) : ∃ l, certify_Flows a s b = some l ∧ (certE a s b ≠ 0 → l.n = 0) ∧ (certE a s b = 0 → l.n = a.Mine.Roads.n ∧ ∀ j, j < a.Mine.Roads.n → l.f j = flowP a s b j) := by
  rw [certify_Flows_eq]; unfold certify_Flows_t
  rw [get_bind (certify_Check_v a s b h12)]
  by_cases c : certE a s b = 0
  · obtain ⟨rt, h⟩ := certE_ok c
    have ok := h.r
    have nr := ok.m.nr
    have np := ok.m.np
    have ln := h.ln
    have hn := h.hn
    obtain ⟨lo, elo, cn, hlo⟩ := lost_ex ok.m h12
    have key := loop_ex (step := fun v : Sq SSpan × Int => certify_Flows_l6_step a.Mine.Roads a.Mine.Places a.Fans a.Doors s.Fans s.Doors b.Low b.High lo v.1 v.2)
      (fun v => ∃ k : Nat, v.2 = k ∧ k ≤ a.Mine.Roads.n ∧ v.1.n = a.Mine.Roads.n ∧ ∀ j, j < k → v.1.f j = flowP a s b j) (fun v => a.Mine.Roads.n - v.2.toNat)
      (fun z => ∃ y, z = .inl y ∧ y.n = a.Mine.Roads.n ∧ ∀ j, j < a.Mine.Roads.n → y.f j = flowP a s b j) (fun v hv => by
        obtain ⟨l, x⟩ := v
        obtain ⟨k, h1, hk, hl, hf⟩ := hv
        dsimp only at h1 hl hf ⊢
        subst h1
        unfold certify_Flows_l6_step
        rcases Nat.lt_or_ge k a.Mine.Roads.n with hi | hi
        · have re := road_ends ok.m hi
          have ms : a.Mine.Roads.n - (wr ((k : Int) + 1)).toNat < a.Mine.Roads.n - (k : Int).toNat := by rw [wr_next (by omega)]; omega
          have nx : ∀ S : SSpan, S = flowP a s b k → ∃ k2 : Nat, wr ((k : Int) + 1) = k2 ∧ k2 ≤ a.Mine.Roads.n ∧ l.n = a.Mine.Roads.n ∧ ∀ j, j < k2 → SSpan.mk (cond (Nat.beq j k) S.Low (l.f j).Low) (cond (Nat.beq j k) S.High (l.f j).High) = flowP a s b j := fun S hS => by
            refine ⟨k + 1, wr_next (by omega), hi, hl, fun j hj => ?_⟩
            by_cases q : j = k
            · rw [beq_t q, q, ← hS]; rfl
            · rw [beq_f q]; exact hf j (by omega)
          rw [get_t (dlt hi), get_t (dix hi), toNat_nat]
          cases ec : (a.Mine.Roads.f k).Closed with
          | true =>
            rw [get_t rfl, get_t (dix (by omega))]
            exact ⟨_, rfl, nx ⟨0, 0⟩ (by unfold flowP; rw [if_pos ec]), ms⟩
          | false =>
            have bF := h.lr (a.Mine.Roads.f k).From.toNat (by omega)
            have bT := h.lr (a.Mine.Roads.f k).To.toNat (by omega)
            have cF := h.hr (a.Mine.Roads.f k).From.toNat (by omega)
            have cT := h.hr (a.Mine.Roads.f k).To.toNat (by omega)
            obtain ⟨z, ez, hz⟩ := Cont_ex lo (a.Mine.Roads.f k).From cn
            have hz' := hz.trans (hlo _ re.1 re.2.1)
            have nc : ¬ (a.Mine.Roads.f k).Closed = true := by rw [ec]; simp
            rw [get_f rfl, get_bind ez]
            cases z with
            | true =>
              rw [get_t rfl, get_t (dix (by omega))]
              exact ⟨_, rfl, nx ⟨-1125899906842624, 1125899906842624⟩ (by unfold flowP; rw [if_neg nc, if_neg (hz'.1 rfl)]), ms⟩
            | false =>
              have aw : Aw a.Mine (a.Mine.Roads.f k).From := Classical.byContradiction fun n => by cases hz'.2 n
              have ef : ∃ S, certify_flow a s b (k : Int) = some S ∧ S.Low = flL a s k (b.Low.f (a.Mine.Roads.f k).From.toNat - b.High.f (a.Mine.Roads.f k).To.toNat) ∧ S.High = flH a s k (b.High.f (a.Mine.Roads.f k).From.toNat - b.Low.f (a.Mine.Roads.f k).To.toNat) := by
                rw [certify_flow_eq]; unfold certify_flow_t
                rw [get_t (dix hi), toNat_nat, get_t (decide_eq_true ⟨re.1, by omega⟩), get_t (decide_eq_true ⟨re.2.2.1, by omega⟩), wr_ok (x := b.Low.f (a.Mine.Roads.f k).From.toNat - b.High.f (a.Mine.Roads.f k).To.toNat) (by omega) (by omega)]
                obtain ⟨S1, e1, l1, h1⟩ := flow_pick rt hi ec (b.Low.f (a.Mine.Roads.f k).From.toNat - b.High.f (a.Mine.Roads.f k).To.toNat)
                obtain ⟨S2, e2, l2, h2⟩ := flow_pick rt hi ec (b.High.f (a.Mine.Roads.f k).From.toNat - b.Low.f (a.Mine.Roads.f k).To.toNat)
                rw [get_bind e1, get_t (decide_eq_true ⟨re.1, by omega⟩), get_t (decide_eq_true ⟨re.2.2.1, by omega⟩), wr_ok (x := b.High.f (a.Mine.Roads.f k).From.toNat - b.Low.f (a.Mine.Roads.f k).To.toNat) (by omega) (by omega), get_bind e2]
                exact ⟨_, rfl, l1, h2⟩
              obtain ⟨S, eS, Sl, Sh⟩ := ef
              rw [get_f rfl]
              refine ex_bind (x := S) eS ?_
              rw [get_t (dix (by omega))]
              refine ⟨_, rfl, nx S ?_, ms⟩
              unfold flowP
              rw [if_neg nc, if_pos aw, ← Sl, ← Sh]
        · obtain rfl : k = a.Mine.Roads.n := by omega
          rw [get_f (dge (by omega))]
          exact ⟨_, rfl, _, rfl, hl, hf⟩)
      (⟨a.Mine.Roads.n, fun _ => ⟨0, 0⟩⟩, 0) ⟨0, rfl, Nat.zero_le _, rfl, fun j hj => absurd hj (Nat.not_lt_zero _)⟩
    obtain ⟨z, hz, y, rfl, yn, yf⟩ := key
    rw [c, get_f (show ((0 : Int) != 0) = false from rfl), get_bind elo, get_t (decide_eq_true ⟨by omega, by omega, by omega, by omega⟩), toNat_nat, get_sum (by rw [certify_Flows_l6_eq]; exact hz)]
    exact ⟨y, rfl, fun n => absurd rfl n, fun _ => ⟨yn, yf⟩⟩
  · rw [get_t (by simp [c])]
    exact ⟨_, rfl, fun _ => rfl, fun n => absurd n c⟩
theorem Spans_same {k l : Sq SSpan} (hn : k.n ≤ 1000) (h : k.n = l.n) (hf : ∀ j, j < k.n → k.f j = l.f j) : ref01_Spans k l = some true := by
  rw [ref01_Spans_eq]; unfold ref01_Spans_t
  have e : ref01_Spans_l4 k l 0 = some (.inl ()) := by
    rw [ref01_Spans_l4_eq]
    refine (loop_first (step := fun v => ref01_Spans_l4_step k l v) (n := k.n) (fun _ => none) (fun i hi => ?_) ?_ k.n 0 (Nat.zero_add _)).trans ?_
    · unfold ref01_Spans_l4_step
      rw [get_t (dlt hi), get_t (dix hi), get_t (dix (by omega)), toNat_nat, hf i hi, get_f (by simp), wr_next (by omega)]; rfl
    · unfold ref01_Spans_l4_step
      rw [get_f (dge (Nat.le_refl _))]; rfl
    · rw [firstN_all fun _ _ _ => rfl]
  rw [get_f (by rw [h]; simp), get_sum e]; rfl
theorem Flows_same (a : SAir) (s : SSetting) (b : SBounds) (h12 : a.Mine.Places.n ≤ 12) : ∃ k l, certify_Flows a s b = some k ∧ ref11_Flows a s b = some l ∧ ref01_Spans k l = some true := by
  obtain ⟨k, ek, k0, k1⟩ := certify_Flows_ex a s b h12
  obtain ⟨l, el, l0, l1⟩ := ref11_Flows_ex a s b
  refine ⟨k, l, ek, el, ?_⟩
  by_cases c : certE a s b = 0
  · obtain ⟨kn, kf⟩ := k1 c
    obtain ⟨ln, lf⟩ := l1 c
    have nr := (certE_ok c).2.r.m.nr
    exact Spans_same (by omega) (by omega) fun j hj => by rw [kf j (by omega), lf j (by omega)]
  · have := k0 c
    have := l0 c
    exact Spans_same (by omega) (by omega) fun j hj => by omega
theorem awake_true : law11_awake = some true := by
  obtain ⟨l, el, _, l1⟩ := certify_Flows_ex A0 S0 ⟨H0 100, H0 100⟩ (by decide)
  obtain ⟨ln, lf⟩ := l1 A0_good
  have k1 : certify_Check A0 S0 ⟨H0 100, H0 100⟩ = some 0 := by rw [certify_Check_v _ _ _ (by decide), A0_good]
  have k2 : certify_Check A0 S0 ⟨H0 100, H0 99⟩ = some 12 := by rw [certify_Check_v _ _ _ (by decide), A0_bad]
  have f0 : l.f 0 = ⟨0, 0⟩ := (lf 0 (by decide)).trans A0_flow
  have l1 : l.n = 1 := ln
  have es : ref01_Spans l ⟨1, fun _ => ⟨0, 0⟩⟩ = some true := Spans_same (by omega) l1 fun j hj => by
    obtain rfl : j = 0 := by omega
    exact f0
  rw [law11_awake_eq]; unfold law11_awake_t
  refine (get_bind el).trans ?_
  refine (get_bind k1).trans ?_
  rw [get_t (show ((0 : Int) == 0) = true from rfl)]
  refine (get_bind k2).trans ?_
  rw [get_t (show ((12 : Int) == 12) = true from rfl), get_bind es]; rfl
end Go.Proofs.YtnoeblpanfbpjaaGreat.Ab
