/- WalkWays is true for every input. Each argument reads afterwards as before. No condition. -/
import Derived.Test.YtfedelfcdjldlaaDoorN3q
import Derived.Test.YtfedelfcdjldlaaDoorN3g
namespace Go.Proofs.YtfedelfcdjldlaaDoor.Ab
open Go Go.ChangeShapes Go.WideShapes Go.ChangeAt Go.RowKit Go.Deep Go.Joins
theorem walkWays_calls (s0 : Sq Int) (b0 : ∀ k, 0 ≤ s0.f k ∧ s0.f k ≤ 255) (s1 : Int) (s2 : Int) {w : World} {vs : Array Value} (hl : vs.size = 3)
    (hv : ∀ j, j < 3 → ∀ (M : Nat → Prop) (σ : Nat → Value) (V : Nat → Option Nat), (∀ g, ¬ M g) → VR w M σ V ((law03_WalkWays_m.enc (s0, s1, s2)).1.getD j .undef) (vs.getD j undef)) (hgl : GlobOK w (fun _ => False) (fun _ => False)) : Calls Tryd.prog 3 vs w fun e w' => e = .returned (.bool true) ∧ Below w.heap.size w w' :=
  law_told (g := fun p => (law03_WalkWays_m.t p).get) law03_WalkWays_tells law03_WalkWays_inj rfl (s0, s1, s2) rfl (walkWays_true s0 b0 s1 s2) hl hv hgl
end Go.Proofs.YtfedelfcdjldlaaDoor.Ab
namespace Go.Proofs.YtfedelfcdjldlaaDoor
open Go.ChangeShapes Go.WideShapes Go.ChangeAt Go.RowKit Go.Joins
open Ab (own laidOut open_bytesB)

/-! ### THE ROW's STEP -/
set_option maxRecDepth 100000 in
theorem lifted_walkWays (os : Os) (started : os.Started) (H : Type) (enc : TypeId × Value → H) :
    ReturnsInHanded {} Tryd.checked os 3 .any (fun w args => (Rows.walkWaysSpec.pre enc Tryd.prog Tryd.f3 [] false w args ∧ laidMetH Tryd.prog [("minecontrol/walk.clearAir", Rows.laid_minecontrol_walk_clearAir), ("minecontrol/walk.inSmoke", Rows.laid_minecontrol_walk_inSmoke)] w) ∧ sizedMet enc Tryd.prog Tryd.f3 (OpenSpec.ofChange Rows.walkWaysSpec) false w args)
      (Rows.walkWaysSpec.post enc Tryd.prog Tryd.f3 false true false false) := by
  refine returnsInHanded_of_change_and (C := Tryd.checked) (X := fun w _ => laidMetH Tryd.prog [("minecontrol/walk.clearAir", Rows.laid_minecontrol_walk_clearAir), ("minecontrol/walk.inSmoke", Rows.laid_minecontrol_walk_inSmoke)] w) (fun _ _ _ hh h => h.of_heap hh) own started (by kernel_rfl) Tryd.func3
    (ChangeSpec.witness_shaped (enc := enc) (C := Tryd.checked) (os := os) (X := fun w _ => laidMetH Tryd.prog [("minecontrol/walk.clearAir", Rows.laid_minecontrol_walk_clearAir), ("minecontrol/walk.inSmoke", Rows.laid_minecontrol_walk_inSmoke)] w) false (World.laidAll Tryd.prog os [("minecontrol/walk.clearAir", Rows.laid_minecontrol_walk_clearAir), ("minecontrol/walk.inSmoke", Rows.laid_minecontrol_walk_inSmoke)]) #[.slice none 0 0, .int .i64 0, .int .i64 0] 8 rfl (World.shaped_of_ZipB (by kernel_rfl) (by kernel_rfl)) (by kernel_rfl) (by kernel_rfl) (by kernel_rfl) (door_met os _)) ?_
  intro W base args ds gs before hval0 hW _ _ hL _
  have hval : ∀ (j : Nat) t v, Tryd.f3.params[j]? = some t → args[j]? = some v → Value.okWide Tryd.prog W .any base t v := hval0
  have hW' := hW
  obtain ⟨p, q, hA0, hV, rfl, hfz, hnd⟩ := hW
  have hA : DataW.TrodAll enc Tryd.prog W 0 (fun _ => true) true Tryd.f3.params.toList args.toList ds p := hA0
  rw [Tryd.params3] at hA hval
  obtain ⟨v0, vs0, d0, ds0, p0, q0, hargs, rfl, rfl, h0, r0⟩ := trodAll_cons hA
  obtain ⟨v1, vs1, d1, ds1, p1, q1, rfl, rfl, rfl, h1, r1⟩ := trodAll_cons r0
  obtain ⟨v2, vs2, d2, ds2, p2, q2, rfl, rfl, rfl, h2, r2⟩ := trodAll_cons r1
  obtain ⟨rfl, rfl, rfl⟩ := trodAll_nil r2
  obtain rfl : args = #[v0, v1, v2] := by cases args; simp_all
  obtain ⟨rfl, rfl⟩ := trodVars_none hV
  obtain ⟨a0, len0, cap0, hv0⟩ := okWide_slice Tryd.underlying22 (hval 0 22 v0 rfl rfl)
  have k0 := h0
  have lt0 : ∀ x ∈ p0, x.block < W.heap.size := by obtain ⟨m, hm⟩ := k0; exact DataW.trod_lt m _ _ _ hm
  obtain ⟨s0, sb0, pr0⟩ := open_bytesB hv0 h0
  obtain ⟨z1, rfl, rfl, rfl, w1⟩ := open_int Tryd.underlying3 (hval 1 3 v1 rfl rfl) h1
  obtain ⟨z2, rfl, rfl, rfl, w2⟩ := open_int Tryd.underlying3 (hval 2 3 v2 rfl rfl) h2
  clear hA0 hval0
  refine (Ab.walkWays_calls s0 sb0 z1 z2 rfl (fun j hj M σ V hM => ?_) (glob_of_laid hL)).mono fun e W' ⟨he, bel⟩ => ?_
  · match j, hj with
    | 0, _ => exact pr0 M σ V hM
    | 1, _ => exact .pure (.int _ _)
    | 2, _ => exact .pure (.int _ _)
  · subst he
    exact ⟨_, rfl, _, _, _, [], _, [], hW', trodAll_mk1 (shut_bool Tryd.underlying4 _),
      (trodAll_cons_mk (Below.trod laidOut (by kernel_rfl) (of_decide_eq_true (by kernel_rfl)) k0 bel lt0) (trodAll_cons_mk (shut_int Tryd.underlying3 w1) (trodAll_cons_mk (shut_int Tryd.underlying3 w2) trodAll_mk0))), rfl, bel.frame _, fun h => by cases h⟩

theorem over_walkWays : Rows.WalkWaysSaid :=
  OpenClaim.holds_of_wide 3 Tryd.f3 rfl rfl rfl rfl rfl rfl rfl ⟨rfl, rfl, rfl, rfl, rfl⟩ rfl rfl rfl rfl rfl (by kernel_rfl) Tryd.func3 (by kernel_rfl)
    (of_decide_eq_true (by kernel_rfl)) (by unfold Func.isWrapper; first | (rw [if_pos (by decide +kernel)]; kernel_rfl) | (rw [if_neg (by decide +kernel)]; exact ⟨rfl, rfl⟩))
    (fun os started H enc _ => lifted_walkWays os started H enc)

/-- The statement. -/
theorem walkWays_card : Rows.WalkWaysCardSaid :=
  Claim7.holds_tied_plain_at .later [] [.wider, .data] true Rows.walkWaysCard.stood.harness false
    over_walkWays (fun _ h => by cases h) (by kernel_rfl) (fun _ h => by cases h) walkWays_row_tie rfl ⟨rfl, rfl⟩ (by kernel_rfl) rfl
    (fun f fn hf hfn => by
      obtain rfl : f = 3 := Option.some.inj ((show Tryd.prog.funcNamed "minecontrol/minecontrollaw03.WalkWays" = some 3 by kernel_rfl).symm.trans hf) |>.symm
      obtain rfl : fn = Tryd.f3 := (Option.some.inj (Tryd.func3.symm.trans hfn)).symm
      exact ⟨by kernel_rfl, fun j t ht => by
        rw [Tryd.params3] at ht
        have hm : t ∈ [22, 3] := by simpa using Array.mem_of_getElem? ht
        have hall : ([22, 3].all fun u => !Tryd.prog.wantsStandIn u) = true := by kernel_rfl
        exact (show Tryd.prog.wantsStandIn t = false by simpa using List.all_eq_true.1 hall t hm)⟩)
    (by kernel_rfl)
#print axioms walkWays_card
end Go.Proofs.YtfedelfcdjldlaaDoor
