/- Stage 9: Flows. -/
import Derived.Test.YtbmbhgkjpdpcjaaYl3
import Derived.Test.YtbmbhgkjpdpcjaaYu
import Derived.Test.YtbmbhgkjpdpcjaaYz
namespace Go.Proofs.Ytbmbhgkjpdpcjaa.Ab
open Go Go.ChangeShapes Go.WideShapes Go.ChangeAt Go.RowKit Go.Deep Go.Joins

/-! ### Flows -/
theorem branchFlows_true (codes : Sq Int) (hb : ∀ k, 0 ≤ codes.f k ∧ codes.f k ≤ 255) (road pressure : Int) : (law09_BranchFlows_t codes road pressure).get = some true := by
  obtain ⟨c, e0, hc⟩ := New_ex codes hb
  obtain ⟨a, s, x, b, e1, b0, b1, md⟩ := Codes_Made_ex hc
  have hnr := md.nr
  obtain ⟨sh, s0, _, _, _, _, _, hE, _⟩ := md.e
  have hfn := hE.fn
  have hdn := hE.dn
  obtain ⟨t, b2, e2, _⟩ := Codes_Setting_ex (hc.at b0 b1) a (by omega) (by omega) (fun i hi => by have := (hE.d.f i hi).1.n1; omega)
  obtain ⟨v1, e3, _⟩ := Mod_ex road (wr (((a.Mine.Roads.n : Nat) : Int) + 1)) (by rw [wr_ok (by omega) (by omega)]; omega)
  obtain ⟨v2, e4, _⟩ := Mod_ex pressure 100000 (by omega)
  obtain ⟨v3, e5⟩ : ∃ v, Mod pressure 281474976710657 = some v := by
    rw [Mod_eq]; unfold Mod_t
    rw [get_f (by simp), get_t (by simp)]
    by_cases c2 : pressure.tmod 281474976710657 < 0
    · rw [get_t (decide_eq_true c2)]; exact ⟨_, rfl⟩
    · rw [get_f (decide_eq_false c2)]; exact ⟨_, rfl⟩
  unfold law09_BranchFlows_t
  rw [get_bind e0, get_bind e1]
  dsimp only
  rw [get_bind e2]
  dsimp only
  rw [get_bind e3, get_bind e4, get_bind e5]
  have key : ∀ F : Sq Int, F.n = 4 → law09_BranchFlows_l6 road v1 s.Fans s.Doors a.Mine.Places a.Mine.Roads a.Fans a.Doors t.Fans t.Doors F 0 = some (.inl ()) := by
    intro F hF
    rw [law09_BranchFlows_l6_eq]
    refine (loop_first (step := fun v => law09_BranchFlows_l6_step road v1 s.Fans s.Doors a.Mine.Places a.Mine.Roads a.Fans a.Doors t.Fans t.Doors F v) (n := 4) (fun _ => none) (fun i hi => ?_) ?_ 4 0 rfl).trans ?_
    · unfold law09_BranchFlows_l6_step
      obtain ⟨S1, f1, g1⟩ := Flow_same a s v1 (F.f (Int.toNat (i : Int)))
      obtain ⟨S2, f2, g2⟩ := Flow_same a t v1 (F.f (Int.toNat (i : Int)))
      rw [get_t (decide_eq_true (by omega)), get_t (decide_eq_true (by omega)), get_bind f1, get_bind g1, get_f (by rw [span_eq]; rfl), get_bind f2, get_bind g2, get_f (by rw [span_eq]; rfl), wr_next (by omega)]
      rfl
    · unfold law09_BranchFlows_l6_step
      rw [get_f (decide_eq_false (by omega))]; rfl
    · rw [firstN_all fun _ _ _ => rfl]
  obtain ⟨S, f1, g1⟩ := Flow_same a s road 0
  rw [get_sum (key _ rfl)]
  dsimp only [Sum.elim]
  rw [get_bind f1, get_bind g1, get_t (span_eq S)]
  rfl
theorem branchFlows_calls (codes : Sq Int) (hb : ∀ k, 0 ≤ codes.f k ∧ codes.f k ≤ 255) (road pressure : Int) {w : World} {vs : Array Value} (hl : vs.size = 3)
    (hv : ∀ j, j < 3 → ∀ (M : Nat → Prop) (σ : Nat → Value) (V : Nat → Option Nat), (∀ g, ¬ M g) → VR w M σ V ((law09_BranchFlows_encC codes road pressure).1.getD j .undef) (vs.getD j undef)) : Calls Try.prog 5 vs w fun e w' => e = .returned (.bool true) ∧ Below w.heap.size w w' :=
  law_told law09_BranchFlows_tells law09_BranchFlows_inj rfl (codes, road, pressure) rfl (branchFlows_true codes hb road pressure) hl hv
end Go.Proofs.Ytbmbhgkjpdpcjaa.Ab
