/- RelaxSurfaces is true for every input. Each argument reads afterwards as before. No condition. -/
import Derived.Test.YtmfiagdelnddkaaGreatTx
import Derived.Test.YtmfiagdelnddkaaGreatXv
namespace Go.Proofs.YtmfiagdelnddkaaGreat.Ab
open Go Go.ChangeShapes Go.WideShapes Go.ChangeAt Go.RowKit Go.Deep Go.Joins
theorem alv (s0 : Sq Int) (b0 : ∀ k, 0 ≤ s0.f k ∧ s0.f k ≤ 255) (s1 : Int) (s2 : Int) (zb1 : 0 ≤ s1 ∧ s1 ≤ 65535) (zb2 : 0 ≤ s2 ∧ s2 ≤ 65535) {w : World} {vs : Array Value} (hl : vs.size = 3)
    (hv : ∀ j, j < 3 → ∀ (M : Nat → Prop) (σ : Nat → Value) (V : Nat → Option Nat), (∀ g, ¬ M g) → VR w M σ V ((cZ.enc (s0, s1, s2)).1.getD j .undef) (vs.getD j undef)) : Calls Tryz.prog 9 vs w fun e w' => e = .returned (.bool true) ∧ Below w.heap.size w w' :=
  ak4 (g := fun p => (cZ.t p).get) ZU abH rfl (s0, s1, s2) rfl (afq s0 b0 s1 s2 zb1 zb2) hl hv
end Go.Proofs.YtmfiagdelnddkaaGreat.Ab
namespace Go.Proofs.YtmfiagdelnddkaaGreat
open Go.ChangeShapes Go.WideShapes Go.ChangeAt Go.RowKit Go.Joins
open Ab (own laidOut aj4)
set_option maxRecDepth 100000 in
theorem lifted_relaxSurfaces (os : Os) (started : os.Started) (H : Type) (enc : TypeId × Value → H) :
    ReturnsInHanded {} Tryz.checked os 9 .any (Rows.relaxSurfacesSpec.pre6 enc Tryz.prog Tryz.f9 Rows.relaxSurfacesRow.domain false) (Rows.relaxSurfacesSpec.post enc Tryz.prog Tryz.f9 false true false false) := by
  refine returnsInHanded_of_change (C := Tryz.checked) own started (by kernel_rfl) Tryz.func9
    (ChangeSpec.witness6 (enc := enc) (C := Tryz.checked) false ⟨#[], #[.slice none 0 0, .int .u16 0, .int .u16 0], []⟩ 8 (by kernel_rfl) (by kernel_rfl) (by kernel_rfl) (by kernel_rfl)) ?_
  intro W base args ds gs before hval0 hW hcnd _
  have hval : ∀ (j : Nat) t v, Tryz.f9.params[j]? = some t → args[j]? = some v → Value.okWide Tryz.prog W .any base t v := hval0
  have hW' := hW
  obtain ⟨p, q, hA0, hV, rfl, hfz, hnd⟩ := hW
  have hA : DataW.TrodAll enc Tryz.prog W 0 (fun _ => true) true Tryz.f9.params.toList args.toList ds p := hA0
  rw [Tryz.params9] at hA hval
  obtain ⟨v0, vs0, d0, ds0, p0, q0, hargs, rfl, rfl, h0, r0⟩ := trodAll_cons hA
  obtain ⟨v1, vs1, d1, ds1, p1, q1, rfl, rfl, rfl, h1, r1⟩ := trodAll_cons r0
  obtain ⟨v2, vs2, d2, ds2, p2, q2, rfl, rfl, rfl, h2, r2⟩ := trodAll_cons r1
  obtain ⟨rfl, rfl, rfl⟩ := trodAll_nil r2
  obtain rfl : args = #[v0, v1, v2] := by cases args; simp_all
  obtain ⟨rfl, rfl⟩ := trodVars_none hV
  obtain ⟨a0, len0, cap0, hv0⟩ := okWide_slice Tryz.underlying22 (hval 0 22 v0 rfl rfl)
  have k0 := h0
  have lt0 : ∀ x ∈ p0, x.block < W.heap.size := by obtain ⟨m, hm⟩ := k0; exact DataW.trod_lt m _ _ _ hm
  obtain ⟨s0, sb0, pr0⟩ := aj4 hv0 h0
  obtain ⟨z1, rfl, rfl, rfl, w1⟩ := open_int Tryz.underlying59 (hval 1 59 v1 rfl rfl) h1
  obtain ⟨z2, rfl, rfl, rfl, w2⟩ := open_int Tryz.underlying59 (hval 2 59 v2 rfl rfl) h2
  have zb1 := Ab.bounds_u16 w1
  have zb2 := Ab.bounds_u16 w2
  clear hA0 hval0
  refine (Ab.alv s0 sb0 z1 z2 zb1 zb2 rfl (fun j hj M σ V hM => ?_)).mono fun e W' ⟨he, bel⟩ => ?_
  · match j, hj with
    | 0, _ => exact pr0 M σ V hM
    | 1, _ => exact .pure (.int _ _)
    | 2, _ => exact .pure (.int _ _)
  · subst he
    exact ⟨_, rfl, _, _, _, [], _, [], hW', trodAll_mk1 (shut_bool Tryz.underlying4 _),
      (trodAll_cons_mk (Below.trod laidOut (by kernel_rfl) (of_decide_eq_true (by kernel_rfl)) k0 bel lt0) (trodAll_cons_mk (shut_int Tryz.underlying59 w1) (trodAll_cons_mk (shut_int Tryz.underlying59 w2) trodAll_mk0))), rfl, bel.frame _, fun h => by cases h⟩
theorem over_relaxSurfaces : Rows.relaxSurfacesRow.holds Tryz.pinned (OpenSpec.ofChange Rows.relaxSurfacesSpec) :=
  OpenClaim.holds_of_wide 9 Tryz.f9 rfl rfl rfl rfl rfl rfl rfl ⟨rfl, rfl, rfl, rfl, rfl⟩ rfl rfl rfl rfl rfl (by kernel_rfl) Tryz.func9 (by kernel_rfl)
    (of_decide_eq_true (by kernel_rfl)) (by unfold Func.isWrapper; first | (rw [if_pos (by decide +kernel)]; kernel_rfl) | (rw [if_neg (by decide +kernel)]; exact ⟨rfl, rfl⟩))
    (fun os started H enc _ => lifted_relaxSurfaces os started H enc)
theorem relaxSurfaces_holds : Rows.RelaxSurfacesSaid := over_relaxSurfaces
#print axioms relaxSurfaces_holds
end Go.Proofs.YtmfiagdelnddkaaGreat
