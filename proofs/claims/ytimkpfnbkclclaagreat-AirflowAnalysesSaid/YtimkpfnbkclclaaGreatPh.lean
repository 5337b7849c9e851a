/- A part of the proof, what is needed of it. -/
import Derived.Test.YtimkpfnbkclclaaGreatPh39
namespace Go.Proofs.YtimkpfnbkclclaaGreat.Ab
open Go Go.ChangeShapes Go.WideShapes Go.ChangeAt Go.RowKit Go.Deep Go.Joins
theorem ar2 (s0 : Sq Int) (b0 : ∀ k, 0 ≤ s0.f k ∧ s0.f k ≤ 255) (s1 : qz) {w : World} {vs : Array Value} (hl : vs.size = 2)
    (hv : ∀ j, j < 2 → ∀ (M : Nat → Prop) (σ : Nat → Value) (V : Nat → Option Nat), (∀ g, ¬ M g) → VR w M σ V ((qY.enc (s0, s1)).1.getD j .undef) (vs.getD j undef)) : Calls Tryz.prog 3 vs w fun e w' => e = .returned (.bool true) ∧ Below w.heap.size w w' :=
  ap2 (g := fun p => (qY.t p).get) aaV abV rfl (s0, s1) rfl (ar4 s0 b0 s1) hl hv
end Go.Proofs.YtimkpfnbkclclaaGreat.Ab
namespace Go.Proofs.YtimkpfnbkclclaaGreat
open Go.ChangeShapes Go.WideShapes Go.ChangeAt Go.RowKit Go.Joins
open Ab (own laidOut aps aoX)
set_option maxRecDepth 100000 in
theorem lifted_airflowAnalyses (os : Os) (started : os.Started) (H : Type) (enc : TypeId × Value → H) :
    ReturnsInHanded {} Tryz.checked os 3 .any (Rows.airflowAnalysesSpec.pre6 enc Tryz.prog Tryz.f3 Rows.airflowAnalysesRow.domain false) (Rows.airflowAnalysesSpec.post enc Tryz.prog Tryz.f3 false true false false) := by
  refine returnsInHanded_of_change (C := Tryz.checked) own started (by kernel_rfl) Tryz.func3
    (ChangeSpec.witness6 (enc := enc) (C := Tryz.checked) false ⟨#[], #[.slice none 0 0, .agg #[.slice none 0 0, .slice none 0 0]], []⟩ 8 (by kernel_rfl) (by kernel_rfl) (by kernel_rfl) (by kernel_rfl)) ?_
  intro W base args ds gs before hval0 hW hcnd _
  have hval : ∀ (j : Nat) t v, Tryz.f3.params[j]? = some t → args[j]? = some v → Value.okWide Tryz.prog W .any base t v := hval0
  have hW' := hW
  obtain ⟨p, q, hA0, hV, rfl, hfz, hnd⟩ := hW
  have hA : DataW.TrodAll enc Tryz.prog W 0 (fun _ => true) true Tryz.f3.params.toList args.toList ds p := hA0
  rw [Tryz.params3] at hA hval
  obtain ⟨v0, vs0, d0, ds0, p0, q0, hargs, rfl, rfl, h0, r0⟩ := trodAll_cons hA
  obtain ⟨v1, vs1, d1, ds1, p1, q1, rfl, rfl, rfl, h1, r1⟩ := trodAll_cons r0
  obtain ⟨rfl, rfl, rfl⟩ := trodAll_nil r1
  obtain rfl : args = #[v0, v1] := by cases args; simp_all
  obtain ⟨rfl, rfl⟩ := trodVars_none hV
  obtain ⟨a0, len0, cap0, hv0⟩ := okWide_slice Tryz.underlying22 (hval 0 22 v0 rfl rfl)
  have k0 := h0
  have lt0 : ∀ x ∈ p0, x.block < W.heap.size := by obtain ⟨m, hm⟩ := k0; exact DataW.trod_lt m _ _ _ hm
  obtain ⟨s0, sb0, pr0⟩ := aps hv0 h0
  have k1 := h1
  have lt1 : ∀ x ∈ p1, x.block < W.heap.size := by obtain ⟨m, hm⟩ := k1; exact DataW.trod_lt m _ _ _ hm
  obtain ⟨s1, pr1⟩ := aoX (hval 1 25 v1 rfl rfl) h1
  clear hA0 hval0
  refine (Ab.ar2 s0 sb0 s1 rfl (fun j hj M σ V hM => ?_)).mono fun e W' ⟨he, bel⟩ => ?_
  · match j, hj with
    | 0, _ => exact pr0 M σ V hM
    | 1, _ => exact pr1 M σ V hM
  · subst he
    exact ⟨_, rfl, _, _, _, [], _, [], hW', trodAll_mk1 (shut_bool Tryz.underlying4 _),
      (trodAll_cons_mk (Below.trod laidOut (by kernel_rfl) (of_decide_eq_true (by kernel_rfl)) k0 bel lt0) (trodAll_cons_mk (Below.trod laidOut (by kernel_rfl) (of_decide_eq_true (by kernel_rfl)) k1 bel lt1) trodAll_mk0)), rfl, bel.frame _, fun h => by cases h⟩
theorem over_airflowAnalyses : Rows.airflowAnalysesRow.holds Tryz.pinned (OpenSpec.ofChange Rows.airflowAnalysesSpec) :=
  OpenClaim.holds_of_wide 3 Tryz.f3 rfl rfl rfl rfl rfl rfl rfl ⟨rfl, rfl, rfl, rfl, rfl⟩ rfl rfl rfl rfl rfl (by kernel_rfl) Tryz.func3 (by kernel_rfl)
    (of_decide_eq_true (by kernel_rfl)) (by unfold Func.isWrapper; first | (rw [if_pos (by decide +kernel)]; kernel_rfl) | (rw [if_neg (by decide +kernel)]; exact ⟨rfl, rfl⟩))
    (fun os started H enc _ => lifted_airflowAnalyses os started H enc)
theorem airflowAnalyses_holds : Rows.AirflowAnalysesSaid := over_airflowAnalyses
#print axioms airflowAnalyses_holds
end Go.Proofs.YtimkpfnbkclclaaGreat
