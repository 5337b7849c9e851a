/- Stage 9: Checks. -/
import Derived.Test.YtbmbhgkjpdpcjaaYl1
import Derived.Test.YtbmbhgkjpdpcjaaYv
import Derived.Test.YtbmbhgkjpdpcjaaYt
namespace Go.Proofs.Ytbmbhgkjpdpcjaa.Ab
open Go Go.ChangeShapes Go.WideShapes Go.ChangeAt Go.RowKit Go.Deep Go.Joins

theorem small_ex (raw : SAir) : ∃ v, law09_small raw = some v := by
  rw [law09_small_eq]; unfold law09_small_t
  simp only [DT.get_ite, DT.get_leaf]
  split
  · split
    · split
      · exact ⟨_, rfl⟩
      · exact ⟨_, rfl⟩
    · exact ⟨_, rfl⟩
  · exact ⟨_, rfl⟩
theorem checks_tail (raw A : SAir) (s t : SSetting) : DT.get (.bind (law09_small raw) fun z => .ite (!z) (.leaf true) (.bind (branch_Check A) fun z1 => .bind (ref09_Check A) fun z2 => .ite (z1 == z2) (.bind (branch_Check raw) fun z3 => .bind (ref09_Check raw) fun z4 => .ite (z3 == z4) (
    .bind (branch_Right A t) fun z5 => .bind (ref09_Right A t) fun z6 => .ite (z5 == z6) (.bind (branch_Right raw s) fun z7 => .bind (ref09_Right raw s) fun z8 => .ite (z7 == z8) (.bind (branch_Right A s) fun z9 => .bind (ref09_Right A s) fun z10 => .ite (z9 == z10) (.leaf true) (.leaf false)) (.leaf false)) (.leaf false)) (.leaf false)) (.leaf false))) = some true := by
  obtain ⟨v, e⟩ := small_ex raw
  rw [get_bind e]
  cases v with
  | false => exact get_t (b := !false) rfl
  | true =>
    rw [get_f (b := !true) rfl, get_bind (branch_Check_v _), get_bind (ref09_Check_v _), get_t (beq_self_eq_true _), get_bind (branch_Check_v _), get_bind (ref09_Check_v _), get_t (beq_self_eq_true _),
      get_bind (branch_Right_v _ _), get_bind (ref09_Right_v _ _), get_t (beq_self_eq_true _), get_bind (branch_Right_v _ _), get_bind (ref09_Right_v _ _), get_t (beq_self_eq_true _), get_bind (branch_Right_v _ _), get_bind (ref09_Right_v _ _), get_t (beq_self_eq_true _)]
    rfl
theorem room {n : Nat} (k : Nat) (h : n ≤ 1000) (hk : k ≤ 1000) : decide ((n + 1) * k ≤ 140737488355328 ∧ (n + 1) ≤ 1099511627776) = true := by
  refine decide_eq_true ⟨?_, by omega⟩
  have := Nat.mul_le_mul (show n + 1 ≤ 1001 by omega) hk
  omega
theorem branchChecks_true (codes : Sq Int) (hb : ∀ k, 0 ≤ codes.f k ∧ codes.f k ≤ 255) (raw : SAir) (s : SSetting) (by_ : Int) : (law09_BranchChecks_t codes raw s by_).get = some true := by
  obtain ⟨c, e0, hc⟩ := New_ex codes hb
  obtain ⟨a, st, x, b, e1, b0, b1, md⟩ := Codes_Made_ex hc
  obtain ⟨sh, s0, hs1, _, hP, _, _, hE, dF, dD, _⟩ := md.e
  have hfn := hE.fn
  have hdn := hE.dn
  have hF := hE.f.n
  have hD := hE.d.n
  have tF := dF.n
  have tD := dD.n
  have hPn := hP.n
  obtain ⟨w, b2, e2, l2, u2, _⟩ := Codes_Next_ex (hc.at b0 b1) 6 (by omega)
  unfold law09_BranchChecks_t
  rw [get_bind e0, get_bind e1]
  dsimp only
  rw [get_bind e2]
  dsimp only
  by_cases c1 : w = 1
  · obtain ⟨cv, b3, e3, _⟩ := Codes_Curve_ex (hc.at l2 u2)
    rw [get_t (by simp [c1]), get_bind e3, get_t (room 40 (by omega) (by omega)), get_t (room 8 (by omega) (by omega))]
    exact checks_tail _ _ _ _
  rw [get_f (by simp [c1])]
  by_cases c2 : w = 2
  · obtain ⟨dr, b3, e3, _⟩ := Codes_Door_ex (hc.at l2 u2) by_
    rw [get_t (by simp [c2]), get_bind e3, get_t (room 40 (by omega) (by omega)), get_t (room 8 (by omega) (by omega))]
    exact checks_tail _ _ _ _
  rw [get_f (by simp [c2])]
  by_cases c3 : w = 3
  · rw [get_t (by simp [c3]), get_t (room 8 (by omega) (by omega))]
    exact checks_tail _ _ _ _
  rw [get_f (by simp [c3])]
  by_cases c4 : w = 4
  · rw [get_t (by simp [c4]), get_t (decide_eq_true ⟨by omega, by omega⟩)]
    exact checks_tail _ _ _ _
  rw [get_f (by simp [c4])]
  exact checks_tail _ _ _ _
theorem branchChecks_calls (codes : Sq Int) (hb : ∀ k, 0 ≤ codes.f k ∧ codes.f k ≤ 255) (raw : SAir) (s : SSetting) (by_ : Int) {w : World} {vs : Array Value} (hl : vs.size = 4)
    (hv : ∀ j, j < 4 → ∀ (M : Nat → Prop) (σ : Nat → Value) (V : Nat → Option Nat), (∀ g, ¬ M g) → VR w M σ V ((law09_BranchChecks_encC codes raw s by_).1.getD j .undef) (vs.getD j undef)) : Calls Try.prog 3 vs w fun e w' => e = .returned (.bool true) ∧ Below w.heap.size w w' :=
  law_told law09_BranchChecks_tells law09_BranchChecks_inj rfl (codes, raw, s, by_) rfl (branchChecks_true codes hb raw s by_) hl hv
end Go.Proofs.Ytbmbhgkjpdpcjaa.Ab
