/- RelaxErrors is true for every input. Each argument reads afterwards as before. No condition. -/
import Derived.Test.YtmfiagdelnddkaaGreatTj
import Derived.Test.YtmfiagdelnddkaaGreatXv
namespace Go.Proofs.YtmfiagdelnddkaaGreat.Ab
open Go Go.ChangeShapes Go.WideShapes Go.ChangeAt Go.RowKit Go.Deep Go.Joins
theorem alx (s0 : SAir) (s1 : au) (s2 : Sq Int) (s3 : Sq Int) (b3 : ∀ k, 0 ≤ s3.f k ∧ s3.f k ≤ 255) {w : World} {vs : Array Value} (hl : vs.size = 4)
    (hv : ∀ j, j < 4 → ∀ (M : Nat → Prop) (σ : Nat → Value) (V : Nat → Option Nat), (∀ g, ¬ M g) → VR w M σ V ((fu.enc (s0, s1, s2, s3)).1.getD j .undef) (vs.getD j undef)) : Calls Tryz.prog 5 vs w fun e w' => e = .returned (.bool true) ∧ Below w.heap.size w w' :=
  ak4 (g := fun p => (fu.t p).get) abF adn rfl (s0, s1, s2, s3) rfl (agv s0 s1 s2 s3 b3) hl hv
end Go.Proofs.YtmfiagdelnddkaaGreat.Ab
namespace Go.Proofs.YtmfiagdelnddkaaGreat
open Go.ChangeShapes Go.WideShapes Go.ChangeAt Go.RowKit Go.Joins
open Ab (own laidOut aj4 akm ak6 ajk)
set_option maxRecDepth 100000 in
theorem lifted_relaxErrors (os : Os) (started : os.Started) (H : Type) (enc : TypeId × Value → H) :
    ReturnsInHanded {} Tryz.checked os 5 .any (Rows.relaxErrorsSpec.pre6 enc Tryz.prog Tryz.f5 Rows.relaxErrorsRow.domain false) (Rows.relaxErrorsSpec.post enc Tryz.prog Tryz.f5 false true false false) := by
  refine returnsInHanded_of_change (C := Tryz.checked) own started (by kernel_rfl) Tryz.func5
    (ChangeSpec.witness6 (enc := enc) (C := Tryz.checked) false ⟨#[], #[.agg #[.slice none 0 0, .slice none 0 0, .slice none 0 0, .slice none 0 0], .agg #[.slice none 0 0, .slice none 0 0], .slice none 0 0, .slice none 0 0], []⟩ 8 (by kernel_rfl) (by kernel_rfl) (by kernel_rfl) (by kernel_rfl)) ?_
  intro W base args ds gs before hval0 hW hcnd _
  have hval : ∀ (j : Nat) t v, Tryz.f5.params[j]? = some t → args[j]? = some v → Value.okWide Tryz.prog W .any base t v := hval0
  have hW' := hW
  obtain ⟨p, q, hA0, hV, rfl, hfz, hnd⟩ := hW
  have hA : DataW.TrodAll enc Tryz.prog W 0 (fun _ => true) true Tryz.f5.params.toList args.toList ds p := hA0
  rw [Tryz.params5] at hA hval
  obtain ⟨v0, vs0, d0, ds0, p0, q0, hargs, rfl, rfl, h0, r0⟩ := trodAll_cons hA
  obtain ⟨v1, vs1, d1, ds1, p1, q1, rfl, rfl, rfl, h1, r1⟩ := trodAll_cons r0
  obtain ⟨v2, vs2, d2, ds2, p2, q2, rfl, rfl, rfl, h2, r2⟩ := trodAll_cons r1
  obtain ⟨v3, vs3, d3, ds3, p3, q3, rfl, rfl, rfl, h3, r3⟩ := trodAll_cons r2
  obtain ⟨rfl, rfl, rfl⟩ := trodAll_nil r3
  obtain rfl : args = #[v0, v1, v2, v3] := by cases args; simp_all
  obtain ⟨rfl, rfl⟩ := trodVars_none hV
  have k0 := h0
  have lt0 : ∀ x ∈ p0, x.block < W.heap.size := by obtain ⟨m, hm⟩ := k0; exact DataW.trod_lt m _ _ _ hm
  obtain ⟨s0, pr0⟩ := ak6 (hval 0 33 v0 rfl rfl) h0
  have k1 := h1
  have lt1 : ∀ x ∈ p1, x.block < W.heap.size := by obtain ⟨m, hm⟩ := k1; exact DataW.trod_lt m _ _ _ hm
  obtain ⟨s1, pr1⟩ := ajk (hval 1 35 v1 rfl rfl) h1
  obtain ⟨a2, len2, cap2, hv2⟩ := okWide_slice Tryz.underlying23 (hval 2 23 v2 rfl rfl)
  have k2 := h2
  have lt2 : ∀ x ∈ p2, x.block < W.heap.size := by obtain ⟨m, hm⟩ := k2; exact DataW.trod_lt m _ _ _ hm
  obtain ⟨s2, pr2⟩ := akm hv2 h2
  obtain ⟨a3, len3, cap3, hv3⟩ := okWide_slice Tryz.underlying22 (hval 3 22 v3 rfl rfl)
  have k3 := h3
  have lt3 : ∀ x ∈ p3, x.block < W.heap.size := by obtain ⟨m, hm⟩ := k3; exact DataW.trod_lt m _ _ _ hm
  obtain ⟨s3, sb3, pr3⟩ := aj4 hv3 h3
  clear hA0 hval0
  refine (Ab.alx s0 s1 s2 s3 sb3 rfl (fun j hj M σ V hM => ?_)).mono fun e W' ⟨he, bel⟩ => ?_
  · match j, hj with
    | 0, _ => exact pr0 M σ V hM
    | 1, _ => exact pr1 M σ V hM
    | 2, _ => exact pr2 M σ V hM
    | 3, _ => exact pr3 M σ V hM
  · subst he
    exact ⟨_, rfl, _, _, _, [], _, [], hW', trodAll_mk1 (shut_bool Tryz.underlying4 _),
      (trodAll_cons_mk (Below.trod laidOut (by kernel_rfl) (of_decide_eq_true (by kernel_rfl)) k0 bel lt0) (trodAll_cons_mk (Below.trod laidOut (by kernel_rfl) (of_decide_eq_true (by kernel_rfl)) k1 bel lt1) (trodAll_cons_mk (Below.trod laidOut (by kernel_rfl) (of_decide_eq_true (by kernel_rfl)) k2 bel lt2) (trodAll_cons_mk (Below.trod laidOut (by kernel_rfl) (of_decide_eq_true (by kernel_rfl)) k3 bel lt3) trodAll_mk0)))), rfl, bel.frame _, fun h => by cases h⟩
theorem over_relaxErrors : Rows.relaxErrorsRow.holds Tryz.pinned (OpenSpec.ofChange Rows.relaxErrorsSpec) :=
  OpenClaim.holds_of_wide 5 Tryz.f5 rfl rfl rfl rfl rfl rfl rfl ⟨rfl, rfl, rfl, rfl, rfl⟩ rfl rfl rfl rfl rfl (by kernel_rfl) Tryz.func5 (by kernel_rfl)
    (of_decide_eq_true (by kernel_rfl)) (by unfold Func.isWrapper; first | (rw [if_pos (by decide +kernel)]; kernel_rfl) | (rw [if_neg (by decide +kernel)]; exact ⟨rfl, rfl⟩))
    (fun os started H enc _ => lifted_relaxErrors os started H enc)
theorem relaxErrors_holds : Rows.RelaxErrorsSaid := over_relaxErrors
#print axioms relaxErrors_holds
end Go.Proofs.YtmfiagdelnddkaaGreat
