/- Stage 9: Fits. -/
import Derived.Test.YtbmbhgkjpdpcjaaYl4
import Derived.Test.YtbmbhgkjpdpcjaaYv
import Derived.Test.YtbmbhgkjpdpcjaaYlt
import Derived.Test.YtbmbhgkjpdpcjaaYlg
namespace Go.Proofs.Ytbmbhgkjpdpcjaa.Ab
open Go Go.ChangeShapes Go.WideShapes Go.ChangeAt Go.RowKit Go.Deep Go.Joins

theorem ref_l20_ex {a : SAir} {s : SSetting} {x : SState} (h : Bds a s x) : ∃ z, ref09_Fits_l20 a.Mine.Places a.Mine.Roads a.Fans a.Doors s.Fans s.Doors x.Pressures x.Flows ⟨a.Mine.Places.n, fun _ => 0⟩ 0 = some z ∧
    ((∃ N, z = .inl N ∧ NtS a.Mine.Roads x.Flows N a.Mine.Places.n a.Mine.Roads.n ∧ ∀ j, j < a.Mine.Roads.n → roadP a s x j) ∨ (∃ N, z = .inr N ∧ ∃ j, j < a.Mine.Roads.n ∧ ¬ roadP a s x j)) := by
  have ok := right_ok h.r
  have hnr := ok.m.nr
  have hnp := ok.m.np
  have hp := h.p
  have hq := h.q
  rw [ref09_Fits_l20_eq]
  refine loop_ex (step := fun v : Sq Int × Int => ref09_Fits_l20_step a.Mine.Places a.Mine.Roads a.Fans a.Doors s.Fans s.Doors x.Pressures x.Flows v.1 v.2)
    (fun v => ∃ k : Nat, v.2 = k ∧ k ≤ a.Mine.Roads.n ∧ NtS a.Mine.Roads x.Flows v.1 a.Mine.Places.n k ∧ ∀ j, j < k → roadP a s x j) (fun v => a.Mine.Roads.n - v.2.toNat)
    (fun z => (∃ N, z = .inl N ∧ NtS a.Mine.Roads x.Flows N a.Mine.Places.n a.Mine.Roads.n ∧ ∀ j, j < a.Mine.Roads.n → roadP a s x j) ∨ (∃ N, z = .inr N ∧ ∃ j, j < a.Mine.Roads.n ∧ ¬ roadP a s x j)) (fun v hv => ?_) _ ⟨0, rfl, Nat.zero_le _, ⟨rfl, fun i _ => rfl⟩, fun j hj => by omega⟩
  obtain ⟨N, _⟩ := v
  obtain ⟨k, rfl, hk, hN, hr⟩ := hv
  dsimp only at hN ⊢
  have hn := hN.nn
  unfold ref09_Fits_l20_step
  by_cases hi : k < a.Mine.Roads.n
  · obtain ⟨_, _, _, _, _, _, f0, f1, g0, g1⟩ := road_rest ok.m hi
    have pF := h.pb (a.Mine.Roads.f k).From.toNat (by omega)
    have pT := h.pb (a.Mine.Roads.f k).To.toNat (by omega)
    have qb := h.qb k (by omega)
    have nx := hN.next (by omega) (fun j hj => h.qb j (by omega)) f0 f1 g0 g1 (road_ne ok.m hi)
    have up : roadP a s x k → ∀ j, j < k + 1 → roadP a s x j := fun q j hj => by
      by_cases c : j = k
      · rw [c]; exact q
      · exact hr j (by omega)
    rw [get_t (dlt (by omega)), get_t (dix hi), toNat_nat, wr_next (by omega)]
    have G1 : decide ((0 : Int) ≤ (a.Mine.Roads.f k).From ∧ (a.Mine.Roads.f k).From < ((N.n : Nat) : Int)) = true := decide_eq_true ⟨by omega, by omega⟩
    have G2 : decide ((0 : Int) ≤ (a.Mine.Roads.f k).To ∧ (a.Mine.Roads.f k).To < ((N.n : Nat) : Int)) = true := decide_eq_true ⟨by omega, by omega⟩
    have G3 : decide ((0 : Int) ≤ (a.Mine.Roads.f k).From ∧ (a.Mine.Roads.f k).From < ((x.Pressures.n : Nat) : Int)) = true := decide_eq_true ⟨by omega, by omega⟩
    have G4 : decide ((0 : Int) ≤ (a.Mine.Roads.f k).To ∧ (a.Mine.Roads.f k).To < ((x.Pressures.n : Nat) : Int)) = true := decide_eq_true ⟨by omega, by omega⟩
    have G5 : decide ((0 : Int) ≤ ((k : Nat) : Int) ∧ ((k : Nat) : Int) < ((x.Flows.n : Nat) : Int)) = true := decide_eq_true ⟨by omega, by omega⟩
    cases hs : (a.Mine.Roads.f k).Closed with
    | true =>
      rw [get_t rfl, get_t G5]
      by_cases c : x.Flows.f k = 0
      · rw [get_f (by simp [c]), get_t G3, get_t G4, get_t G5, get_bind (ref09_Drop_v _ _ _ _), get_f (b := !true) rfl, get_t G1, get_t G5, get_t G1, get_t G2, get_t G5, get_t G2]
        exact ⟨_, rfl, ⟨k + 1, rfl, by omega, nx, up ⟨fun _ => c, fun q => by { rw [hs] at q; cases q }⟩⟩, by dsimp only; omega⟩
      · rw [get_t (by simp [c])]
        exact ⟨_, rfl, .inr ⟨_, rfl, k, hi, fun q => c (q.1 hs)⟩⟩
    | false =>
      have op : opB a s k := ⟨h.r, by omega, by omega, by rw [toNat_nat]; exact hs⟩
      have dv : dropV a s k (x.Flows.f k) = spS (dropP a s k (x.Flows.f k)) := by
        have := dropV_t op (x := x.Flows.f k) (by omega) (by omega)
        rw [toNat_nat] at this
        exact this
      rw [get_f rfl, get_t G3, get_t G4, get_t G5, get_bind (ref09_Drop_v _ _ _ _), dv, get_t (b := !false) rfl, wr_ok (x := x.Pressures.f (a.Mine.Roads.f k).From.toNat - x.Pressures.f (a.Mine.Roads.f k).To.toNat) (by omega) (by omega)]
      by_cases c1 : x.Pressures.f (a.Mine.Roads.f k).From.toNat - x.Pressures.f (a.Mine.Roads.f k).To.toNat < (spS (dropP a s k (x.Flows.f k))).Low
      · rw [get_t (decide_eq_true c1)]
        exact ⟨_, rfl, .inr ⟨_, rfl, k, hi, fun q => absurd (q.2 hs).1 (Int.not_le.2 c1)⟩⟩
      · rw [get_f (decide_eq_false c1)]
        by_cases c2 : x.Pressures.f (a.Mine.Roads.f k).From.toNat - x.Pressures.f (a.Mine.Roads.f k).To.toNat > (spS (dropP a s k (x.Flows.f k))).High
        · rw [get_t (decide_eq_true c2)]
          exact ⟨_, rfl, .inr ⟨_, rfl, k, hi, fun q => absurd (q.2 hs).2 (Int.not_le.2 c2)⟩⟩
        · rw [get_f (decide_eq_false c2), get_t G1, get_t G5, get_t G1, get_t G2, get_t G5, get_t G2]
          exact ⟨_, rfl, ⟨k + 1, rfl, by omega, nx, up ⟨fun q => by { rw [hs] at q; cases q }, fun _ => ⟨Int.not_lt.1 c1, Int.not_lt.1 c2⟩⟩⟩, by dsimp only; omega⟩
  · obtain rfl : k = a.Mine.Roads.n := by omega
    rw [get_f (dge (by omega))]
    exact ⟨_, rfl, .inl ⟨N, rfl, hN, hr⟩⟩
def csP (P : Sq SPlace) (p : Sq Int) (R : Sq SRoad) (q : Sq Int) (i : Nat) : Prop := calmP P p i ∧ sumP P R q i
theorem ref_l32_v {a : SAir} {s : SSetting} {x : SState} (h : Bds a s x) {N : Sq Int} (hN : NtS a.Mine.Roads x.Flows N a.Mine.Places.n a.Mine.Roads.n) :
    ref09_Fits_l32 a.Mine.Places a.Mine.Roads a.Fans a.Doors x.Pressures x.Flows N 0 = some (sumO (firstN (gP' (csP a.Mine.Places x.Pressures a.Mine.Roads x.Flows)) a.Mine.Places.n 0)) := by
  have ok := right_ok h.r
  have hnp := ok.m.np
  have hp := h.p
  have hn := hN.nn
  rw [ref09_Fits_l32_eq, ← sumO_eq]
  refine loop_first (step := fun v => ref09_Fits_l32_step a.Mine.Places a.Mine.Roads a.Fans a.Doors x.Pressures x.Flows N v) (gP' (csP a.Mine.Places x.Pressures a.Mine.Roads x.Flows)) (fun i hi => ?_) ?_ a.Mine.Places.n 0 (Nat.zero_add _)
  · unfold ref09_Fits_l32_step gP'
    have e := hN.e i hi
    have pos : calmP a.Mine.Places x.Pressures i → sumP a.Mine.Places a.Mine.Roads x.Flows i → csP a.Mine.Places x.Pressures a.Mine.Roads x.Flows i := fun u v => ⟨u, v⟩
    rw [get_t (dlt (by omega)), get_t (dix hi), toNat_nat, wr_next (by omega)]
    cases hs : (a.Mine.Places.f i).Surface with
    | true =>
      rw [get_t rfl, get_t (dix (by omega))]
      by_cases c : x.Pressures.f i = 0
      · rw [get_f (by simp [c]), get_t (dix hi), get_f (b := !true) rfl, if_pos (pos (fun _ => c) fun q => by { rw [hs] at q; cases q })]; rfl
      · rw [get_t (by simp [c]), if_neg (show ¬ csP a.Mine.Places x.Pressures a.Mine.Roads x.Flows i from fun q => c (q.1 hs))]; rfl
    | false =>
      rw [get_f rfl, get_t (dix hi), get_t (b := !false) rfl, get_t (dix (by omega))]
      by_cases c : N.f i = 0
      · rw [get_f (by simp [c]), if_pos (pos (fun q => by { rw [hs] at q; cases q }) fun _ => by { rw [← e]; exact c })]; rfl
      · rw [get_t (by simp [c]), if_neg (show ¬ csP a.Mine.Places x.Pressures a.Mine.Roads x.Flows i from fun q => c (by { rw [e]; exact q.2 hs }))]; rfl
  · unfold ref09_Fits_l32_step
    rw [get_f (dge (by omega))]; rfl
open Classical in
/-- The error of a state. -/
noncomputable def fitsE (a : SAir) (s : SSetting) (x : SState) : Int :=
  if airE a ≠ 0 then airE a else if rightB a s = false then 21 else if x.Pressures.n ≠ a.Mine.Places.n then 11 else if x.Flows.n ≠ a.Mine.Roads.n then 11
  else if firstN (gW x.Pressures 70368744177664) x.Pressures.n 0 ≠ none then 1 else if firstN (gW x.Flows 1048576) x.Flows.n 0 ≠ none then 1
  else if (∀ i, i < a.Mine.Places.n → calmP a.Mine.Places x.Pressures i) ∧ (∀ j, j < a.Mine.Roads.n → roadP a s x j) ∧ ∀ i, i < a.Mine.Places.n → sumP a.Mine.Places a.Mine.Roads x.Flows i then 0 else 10
theorem gW_none {l : Sq Int} {m : Int} (h : firstN (gW l m) l.n 0 = none) : ∀ i, i < l.n → -m ≤ l.f i ∧ l.f i ≤ m := by
  intro i hi
  have := firstN_none h i (Nat.zero_le _) (by omega)
  unfold gW at this
  split at this
  · assumption
  · cases this
theorem unit_none {o : Option Unit} (h : o ≠ none) : o.isNone = false := by cases o with
  | none => exact absurd rfl h
  | some u => rfl
theorem unit_sum {o : Option Unit} (h : o ≠ none) : sumO o = .inr () := by cases o with
  | none => exact absurd rfl h
  | some u => rfl
theorem not_gP' {Q : Nat → Prop} {n : Nat} (h : ¬ ∀ i, i < n → Q i) : (firstN (gP' Q) n 0).isNone = false := by
  cases e : (firstN (gP' Q) n 0).isNone with
  | false => rfl
  | true => exact absurd (gP'_none.1 e) h
theorem branch_Fits_v (a : SAir) (s : SSetting) (x : SState) : branch_Fits a s x = some (fitsE a s x) := by
  rw [branch_Fits_eq]; unfold branch_Fits_t fitsE
  rw [get_bind (branch_Check_v a)]
  by_cases h1 : ¬ (airE a = 0)
  · rw [get_t (by simp [h1]), if_pos h1]; rfl
  have h1 := Classical.not_not.1 h1
  rw [get_f (by simp [h1]), if_neg (not_not_intro h1), get_bind (branch_belongs_v a s h1)]
  cases h2 : rightB a s with
  | false => rw [get_t (b := !false) rfl, if_pos rfl]; rfl
  | true =>
    have ok := right_ok h2
    have hnp := ok.m.np
    have hnr := ok.m.nr
    rw [get_f (b := !true) rfl, if_neg (by simp)]
    by_cases h3 : ¬ (x.Pressures.n = a.Mine.Places.n)
    · rw [get_t (by simp; omega), if_pos h3]; rfl
    have h3 := Classical.not_not.1 h3
    rw [get_f (by simp [h3]), if_neg (not_not_intro h3)]
    by_cases h4 : ¬ (x.Flows.n = a.Mine.Roads.n)
    · rw [get_t (by simp; omega), if_pos h4]; rfl
    have h4 := Classical.not_not.1 h4
    rw [get_f (by simp [h4]), if_neg (not_not_intro h4), get_bind (branch_reachTo_v _ _ (by omega) (by omega) (by omega))]
    by_cases h5 : ¬ (firstN (gW x.Pressures 70368744177664) x.Pressures.n 0 = none)
    · rw [unit_none h5, get_t (b := !false) rfl, if_pos h5]; rfl
    have h5 := Classical.not_not.1 h5
    rw [h5, get_f (b := !(none : Option Unit).isNone) rfl, if_neg (not_not_intro rfl), get_bind (branch_reachTo_v _ _ (by omega) (by omega) (by omega))]
    by_cases h6 : ¬ (firstN (gW x.Flows 1048576) x.Flows.n 0 = none)
    · rw [unit_none h6, get_t (b := !false) rfl, if_pos h6]; rfl
    have h6 := Classical.not_not.1 h6
    have B : Bds a s x := ⟨h2, h3, h4, gW_none h5, gW_none h6⟩
    rw [h6, get_f (b := !(none : Option Unit).isNone) rfl, if_neg (not_not_intro rfl), get_bind (calm_v a.Mine x.Pressures h3 hnp)]
    by_cases h7 : ¬ (∀ i, i < a.Mine.Places.n → calmP a.Mine.Places x.Pressures i)
    · rw [not_gP' h7, get_t (b := !false) rfl, if_neg (fun q => h7 q.1)]; rfl
    have h7 := Classical.not_not.1 h7
    rw [gP'_none.2 h7, get_f (b := !true) rfl, get_bind (fit_v B)]
    by_cases h8 : ¬ (∀ j, j < a.Mine.Roads.n → roadP a s x j)
    · rw [not_gP' h8, get_t (b := !false) rfl, if_neg (fun q => h8 q.2.1)]; rfl
    have h8 := Classical.not_not.1 h8
    rw [gP'_none.2 h8, get_f (b := !true) rfl, get_bind (addUp_v B)]
    by_cases h9 : ¬ (∀ i, i < a.Mine.Places.n → sumP a.Mine.Places a.Mine.Roads x.Flows i)
    · rw [not_gP' h9, get_t (b := !false) rfl, if_neg (fun q => h9 q.2.2)]; rfl
    have h9 := Classical.not_not.1 h9
    rw [gP'_none.2 h9, get_f (b := !true) rfl, if_pos ⟨h7, h8, h9⟩]; rfl
theorem ref09_Fits_v (a : SAir) (s : SSetting) (x : SState) : ref09_Fits a s x = some (fitsE a s x) := by
  rw [ref09_Fits_eq]; unfold ref09_Fits_t fitsE
  rw [get_bind (ref09_Check_v a)]
  by_cases h1 : ¬ (airE a = 0)
  · rw [get_t (by simp [h1]), if_pos h1]; rfl
  have h1 := Classical.not_not.1 h1
  rw [get_f (by simp [h1]), if_neg (not_not_intro h1), get_bind (ref09_Right_v a s)]
  cases h2 : rightB a s with
  | false => rw [get_t (b := !false) rfl, if_pos rfl]; rfl
  | true =>
    have ok := right_ok h2
    have hnp := ok.m.np
    have hnr := ok.m.nr
    rw [get_f (b := !true) rfl, if_neg (by simp)]
    by_cases h3 : ¬ (x.Pressures.n = a.Mine.Places.n)
    · rw [get_t (by simp; omega), if_pos h3]; rfl
    have h3 := Classical.not_not.1 h3
    rw [get_f (by simp [h3]), if_neg (not_not_intro h3)]
    by_cases h4 : ¬ (x.Flows.n = a.Mine.Roads.n)
    · rw [get_t (by simp; omega), if_pos h4]; rfl
    have h4 := Classical.not_not.1 h4
    rw [get_f (by simp [h4]), if_neg (not_not_intro h4), get_sum (ref09_l9_v _ _ _ _ _ _ _ _ (by omega))]
    by_cases h5 : ¬ (firstN (gW x.Pressures 70368744177664) x.Pressures.n 0 = none)
    · rw [unit_sum h5, if_pos h5]; rfl
    have h5 := Classical.not_not.1 h5
    rw [h5, if_neg (not_not_intro rfl)]
    show DT.get (DT.sum _ _ _) = _
    rw [get_sum (ref09_l14_v _ _ _ _ _ _ _ _ (by omega))]
    by_cases h6 : ¬ (firstN (gW x.Flows 1048576) x.Flows.n 0 = none)
    · rw [unit_sum h6, if_pos h6]; rfl
    have h6 := Classical.not_not.1 h6
    have B : Bds a s x := ⟨h2, h3, h4, gW_none h5, gW_none h6⟩
    rw [h6, if_neg (not_not_intro rfl)]
    show DT.get (DT.ite _ _ _) = _
    rw [get_t (decide_eq_true ⟨by omega, by omega, by omega, by omega⟩), toNat_nat, h3]
    obtain ⟨z, e, hz⟩ := ref_l20_ex B
    rw [get_sum e]
    rcases hz with ⟨N, rfl, hN, h8⟩ | ⟨N, rfl, j, hj, h8⟩
    · show DT.get (DT.sum _ _ _) = _
      rw [get_sum (ref_l32_v B hN)]
      by_cases h7 : ∀ i, i < a.Mine.Places.n → csP a.Mine.Places x.Pressures a.Mine.Roads x.Flows i
      · have e := gP'_none.2 h7
        rw [if_pos ⟨fun i hi => (h7 i hi).1, h8, fun i hi => (h7 i hi).2⟩]
        cases o : firstN (gP' (csP a.Mine.Places x.Pressures a.Mine.Roads x.Flows)) a.Mine.Places.n 0 with
        | none => rfl
        | some u => rw [o] at e; cases e
      · have e := not_gP' h7
        rw [if_neg (fun q => h7 fun i hi => ⟨q.1 i hi, q.2.2 i hi⟩)]
        cases o : firstN (gP' (csP a.Mine.Places x.Pressures a.Mine.Roads x.Flows)) a.Mine.Places.n 0 with
        | none => rw [o] at e; cases e
        | some u => rfl
    · rw [if_neg (fun q => h8 (q.2.1 j hj))]; rfl
theorem MdD.zero {a : SAir} {s : SSetting} {x : SState} (h : MdD a s x) : fitsE a s x = 0 := by
  obtain ⟨sh, s0, _, _, hP, hp, hq, hE, _⟩ := h.e
  have hqn := hq.qn
  have hpn := hp.nn
  unfold fitsE
  rw [if_neg (not_not_intro (hE.air h.mine)), if_neg (by rw [h.right]; simp), if_neg (not_not_intro hpn), if_neg (not_not_intro hqn), firstN_all fun i _ hi => ?_, if_neg (not_not_intro rfl), firstN_all fun i _ hi => ?_, if_neg (not_not_intro rfl), if_pos]
  · refine ⟨fun i hi c => ?_, fun j hj => ⟨fun c => ?_, fun _ => h.fits hj⟩, fun i hi c => ?_⟩
    · rw [(hP.f i hi).1] at c
      exact hp.z i (Nat.le_of_ble_eq_true c)
    · exact (hq.r j hj).z c
    · rw [(hP.f i hi).1] at c
      refine hq.e i ?_ hi
      by_cases d : i < sh
      · rw [blt_t d] at c; cases c
      · omega
  · unfold gW
    have := (hq.r i (by omega)).q0
    have := (hq.r i (by omega)).q1
    rw [if_pos (by omega)]
  · unfold gW
    have := hp.f i (by omega)
    rw [if_pos (by omega)]
theorem room8 {n : Nat} (h : n ≤ 1000) : decide (n * 8 ≤ 140737488355328 ∧ n ≤ 1099511627776) = true := decide_eq_true ⟨by omega, by omega⟩
theorem branchFits_true (codes : Sq Int) (hb : ∀ k, 0 ≤ codes.f k ∧ codes.f k ≤ 255) (raw : SState) (at_ by_ : Int) : (law09_BranchFits_t codes raw at_ by_).get = some true := by
  obtain ⟨c, e0, hc⟩ := New_ex codes hb
  obtain ⟨a, s, x, b, e1, b0, b1, md⟩ := Codes_Made_ex hc
  have hnr := md.nr
  have hnp := md.np
  obtain ⟨sh, s0, hs1, _, hP, hp, hq, _⟩ := md.e
  have hPn := hP.n
  have hqn := hq.qn
  have hpn := hp.nn
  unfold law09_BranchFits_t
  rw [get_bind e0, get_bind e1]
  dsimp only
  rw [get_bind (branch_Fits_v a s x), md.zero, get_f (by simp), get_t (room8 (by omega)), get_t (room8 (by omega)), wr_ok (x := (x.Pressures.n : Int) + x.Flows.n) (by omega) (by omega)]
  obtain ⟨v, e2, _, k⟩ := Mod_ex at_ ((x.Pressures.n : Int) + x.Flows.n) (by omega)
  have k := k (by omega)
  rw [get_bind e2]
  by_cases c1 : v < (x.Pressures.n : Int)
  · obtain ⟨u, e3, _⟩ := Mod_ex by_ 200 (by omega)
    rw [get_t (decide_eq_true c1), get_t (decide_eq_true ⟨k.1, c1⟩), get_bind e3, get_t (decide_eq_true ⟨k.1, c1⟩), get_bind (branch_Fits_v _ _ _), get_bind (ref09_Fits_v _ _ _), get_t (beq_self_eq_true _), get_bind (branch_Fits_v _ _ _), get_bind (ref09_Fits_v _ _ _), get_t (beq_self_eq_true _)]
    rfl
  · obtain ⟨u, e3, _⟩ := Mod_ex by_ 5 (by omega)
    rw [get_f (decide_eq_false c1), wr_ok (x := v - (x.Pressures.n : Int)) (by omega) (by omega), get_t (decide_eq_true ⟨by omega, by omega⟩), get_bind e3, get_t (decide_eq_true ⟨by omega, by omega⟩), get_bind (branch_Fits_v _ _ _), get_bind (ref09_Fits_v _ _ _), get_t (beq_self_eq_true _), get_bind (branch_Fits_v _ _ _), get_bind (ref09_Fits_v _ _ _), get_t (beq_self_eq_true _)]
    rfl
theorem branchFits_calls (codes : Sq Int) (hb : ∀ k, 0 ≤ codes.f k ∧ codes.f k ≤ 255) (raw : SState) (at_ by_ : Int) {w : World} {vs : Array Value} (hl : vs.size = 4)
    (hv : ∀ j, j < 4 → ∀ (M : Nat → Prop) (σ : Nat → Value) (V : Nat → Option Nat), (∀ g, ¬ M g) → VR w M σ V ((law09_BranchFits_encC codes raw at_ by_).1.getD j .undef) (vs.getD j undef)) : Calls Try.prog 6 vs w fun e w' => e = .returned (.bool true) ∧ Below w.heap.size w w' :=
  law_told law09_BranchFits_tells law09_BranchFits_inj rfl (codes, raw, at_, by_) rfl (branchFits_true codes hb raw at_ by_) hl hv
end Go.Proofs.Ytbmbhgkjpdpcjaa.Ab
