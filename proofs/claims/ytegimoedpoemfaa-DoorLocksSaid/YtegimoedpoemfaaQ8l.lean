/- DoorLocks is true for every input. Each argument reads afterwards as before. No condition. -/
import Derived.Test.YtegimoedpoemfaaGe
namespace Go.Proofs.Ytegimoedpoemfaa
open Go.ChangeShapes Go.WideShapes Go.ChangeAt Go.RowKit Go.Joins
open Ab (own laidOut open_bytes open_u16s)

/-! ### THE ROW's STEP -/
set_option maxRecDepth 100000 in
theorem lifted_doorLocks (os : Os) (started : os.Started) (H : Type) (enc : TypeId × Value → H) :
    ReturnsInHanded {} Try.checked os 6 .any (Rows.doorLocksSpec.pre6 enc Try.prog Try.f6 Rows.doorLocksRow.domain false) (Rows.doorLocksSpec.post enc Try.prog Try.f6 false true false false) := by
  refine returnsInHanded_of_change (C := Try.checked) own started (by kernel_rfl) Try.func6
    (ChangeSpec.witness6 (enc := enc) (C := Try.checked) false ⟨#[], #[.slice none 0 0, .slice none 0 0], []⟩ 8 (by kernel_rfl) (by kernel_rfl) (by kernel_rfl) (by kernel_rfl)) ?_
  intro W base args ds gs before hval0 hW hcnd _
  have hval : ∀ (j : Nat) t v, Try.f6.params[j]? = some t → args[j]? = some v → Value.okWide Try.prog W .any base t v := hval0
  have hW' := hW
  obtain ⟨p, q, hA0, hV, rfl, hfz, hnd⟩ := hW
  have hA : DataW.TrodAll enc Try.prog W 0 (fun _ => true) true Try.f6.params.toList args.toList ds p := hA0
  rw [Try.params6] at hA hval
  obtain ⟨v0, vs0, d0, ds0, p0, q0, hargs, rfl, rfl, h0, r0⟩ := trodAll_cons hA
  obtain ⟨v1, vs1, d1, ds1, p1, q1, rfl, rfl, rfl, h1, r1⟩ := trodAll_cons r0
  obtain ⟨rfl, rfl, rfl⟩ := trodAll_nil r1
  obtain rfl : args = #[v0, v1] := by cases args; simp_all
  obtain ⟨rfl, rfl⟩ := trodVars_none hV
  obtain ⟨a0, len0, cap0, hv0⟩ := okWide_slice Try.underlying22 (hval 0 22 v0 rfl rfl)
  have k0 := h0
  have lt0 : ∀ x ∈ p0, x.block < W.heap.size := by obtain ⟨m, hm⟩ := k0; exact DataW.trod_lt m _ _ _ hm
  obtain ⟨n0, b0, pr0⟩ := open_bytes (M := fun _ => False) (fun _ h => h) hv0 h0
  obtain ⟨a1, len1, cap1, hv1⟩ := okWide_slice Try.underlying45 (hval 1 45 v1 rfl rfl)
  have k1 := h1
  have lt1 : ∀ x ∈ p1, x.block < W.heap.size := by obtain ⟨m, hm⟩ := k1; exact DataW.trod_lt m _ _ _ hm
  obtain ⟨n1, b1, pr1⟩ := open_u16s (M := fun _ => False) (fun _ h => h) hv1 h1
  have nb1 : n1 ≤ Ab.lim := by
    obtain ⟨_, c, _, h1, h2⟩ := pr1.slc_len
    rw [Ab.maxLen_lim] at h2
    exact Nat.le_trans h1 h2
  clear hA0 hval0
  refine (Ab.doorLocks_calls n0 b0 n1 b1 nb1 rfl (fun j hj M σ V hM => ?_)).mono fun e W' ⟨he, bel⟩ => ?_
  · have free : ∀ {x : Ab.AV} {v : Value}, Ab.PR W (fun _ => False) x v → Ab.PR W M x v := fun h => h.grow (fun _ _ _ => rfl) (fun g _ h => hM g h)
    match j, hj with
    | 0, _ => exact .pure (free pr0)
    | 1, _ => exact .pure (free pr1)
  · subst he
    exact ⟨_, rfl, _, _, _, [], _, [], hW', trodAll_mk1 (shut_bool Try.underlying4 _),
      (trodAll_cons_mk (Below.trod laidOut (by kernel_rfl) (of_decide_eq_true (by kernel_rfl)) k0 bel lt0) (trodAll_cons_mk (Below.trod laidOut (by kernel_rfl) (of_decide_eq_true (by kernel_rfl)) k1 bel lt1) trodAll_mk0)), rfl, bel.frame _, fun h => by cases h⟩

theorem over_doorLocks : Rows.doorLocksRow.holds Try.pinned (OpenSpec.ofChange Rows.doorLocksSpec) :=
  OpenClaim.holds_of_wide 6 Try.f6 rfl rfl rfl rfl rfl rfl rfl ⟨rfl, rfl, rfl, rfl, rfl⟩ rfl rfl rfl rfl rfl (by kernel_rfl) Try.func6 (by kernel_rfl)
    (of_decide_eq_true (by kernel_rfl)) (by unfold Func.isWrapper; first | (rw [if_pos (by decide +kernel)]; kernel_rfl) | (rw [if_neg (by decide +kernel)]; exact ⟨rfl, rfl⟩))
    (fun os started H enc _ => lifted_doorLocks os started H enc)

/-- The statement. -/
theorem doorLocks_holds : Rows.DoorLocksSaid := over_doorLocks
#print axioms doorLocks_holds
end Go.Proofs.Ytegimoedpoemfaa
