/- Stage 9: Rises. -/
import Derived.Test.YtbmbhgkjpdpcjaaYl5
import Derived.Test.YtbmbhgkjpdpcjaaYu
import Derived.Test.YtbmbhgkjpdpcjaaYz
namespace Go.Proofs.Ytbmbhgkjpdpcjaa.Ab
open Go Go.ChangeShapes Go.WideShapes Go.ChangeAt Go.RowKit Go.Deep Go.Joins

theorem bounds_u16 {n : Int} (h : (Lit.int .u16 n).wf = true) : 0 ≤ n ∧ n ≤ 65535 := by
  simp [Lit.wf, IntKind.min, IntKind.max, IntKind.signed, IntKind.bits] at h
  omega
theorem span_zero : ((SSpan.mk 0 0).Low == (0 : Int) && ((SSpan.mk 0 0).High == (0 : Int) && true)) = true := rfl
theorem branchRises_true (codes : Sq Int) (hb : ∀ k, 0 ≤ codes.f k ∧ codes.f k ≤ 255) (road flow more pressure by_ : Int) (hm : 0 ≤ more ∧ more ≤ 255) (hby : 0 ≤ by_ ∧ by_ ≤ 65535) : (law09_BranchRises_t codes road flow more pressure by_).get = some true := by
  obtain ⟨c, e0, hc⟩ := New_ex codes hb
  obtain ⟨a, s, x, b, e1, b0, b1, md⟩ := Codes_Made_ex hc
  have hnr := md.nr
  obtain ⟨sh, s0, _, _, _, _, _, hE, _⟩ := md.e
  have hfn := hE.fn
  have hdn := hE.dn
  obtain ⟨t, b2, e2, _, _, t1, t2, t3, t4⟩ := Codes_Setting_ex (hc.at b0 b1) a (by omega) (by omega) (fun i hi => by have := (hE.d.f i hi).1.n1; omega)
  have hr : rightB a t = true := hE.right md.mine t1 t2 t3 t4
  have ok := right_ok hr
  unfold law09_BranchRises_t
  rw [get_bind e0, get_bind e1]
  dsimp only
  rw [get_bind e2]
  dsimp only
  by_cases hz : a.Mine.Roads.n = 0
  · rw [get_t (by simp [hz])]; rfl
  obtain ⟨v1, e3, _, k1⟩ := Mod_ex road (a.Mine.Roads.n : Int) (by omega)
  have k1 := k1 (by omega)
  obtain ⟨v2, e4, _, k2⟩ := Mod_ex flow 600 (by omega)
  have k2 := k2 (by omega)
  rw [get_f (by simp [hz]), get_bind e3, get_bind e4, get_t (decide_eq_true k1), wr_ok (x := v2 - 300) (by omega) (by omega)]
  have hi : v1.toNat < a.Mine.Roads.n := by omega
  cases hcl : (a.Mine.Roads.f v1.toNat).Closed with
  | true =>
    have no : ¬ opB a t v1 := fun q => by have := q.2.2.2; rw [hcl] at this; cases this
    have d0 : dropV a t v1 (v2 - 300) = ⟨0, 0⟩ := if_neg fun q => no q.1
    rw [get_t rfl, get_bind (branch_Drop_v a t v1 (v2 - 300)), d0, get_t span_zero]
    rcases branch_Flow_ex a t v1 (Int.tmod pressure 100000) with ⟨q, _⟩ | ⟨_, e⟩
    · exact absurd q no
    · rw [get_bind e, get_t span_zero]; rfl
  | false =>
    have op : opB a t v1 := ⟨hr, k1.1, by omega, hcl⟩
    have l1 := dropP_in ok hi (x := v2 - 300) (by omega) (by omega)
    have l2 := dropP_lt ok hi (x := v2 - 300) (y := v2 - 300 + 1 + more) (by omega) (by omega) (by omega)
    have z1 : wr (wr (v2 - 300 + 1) + wr more) = v2 - 300 + 1 + more := by rw [wr_ok (x := v2 - 300 + 1) (by omega) (by omega), wr_ok (x := more) (by omega) (by omega)]; exact wr_ok (by omega) (by omega)
    rw [get_f rfl, z1, get_bind (branch_Drop_v a t v1 (v2 - 300)), get_bind (branch_Drop_v a t v1 (v2 - 300 + 1 + more)), dropV_t op (by omega) (by omega), dropV_t op (by omega) (by omega)]
    rw [get_f (decide_eq_false (show ¬ (spS (dropP a t v1.toNat (v2 - 300))).Low > (spS (dropP a t v1.toNat (v2 - 300))).High from fun q => absurd l1 (Int.not_le.2 q))), get_f (decide_eq_false (show ¬ (spS (dropP a t v1.toNat (v2 - 300 + 1 + more))).Low ≤ (spS (dropP a t v1.toNat (v2 - 300))).Low from Int.not_le.2 l2.1)), get_f (decide_eq_false (show ¬ (spS (dropP a t v1.toNat (v2 - 300 + 1 + more))).High ≤ (spS (dropP a t v1.toNat (v2 - 300))).High from Int.not_le.2 l2.2))]
    obtain ⟨v3, e5, _, k3⟩ := Mod_ex pressure 200000 (by omega)
    have k3 := k3 (by omega)
    have z2 : wr (wr (v3 - 100000) + wr by_) = v3 - 100000 + by_ := by rw [wr_ok (x := v3 - 100000) (by omega) (by omega), wr_ok (x := by_) (by omega) (by omega)]; exact wr_ok (by omega) (by omega)
    rw [get_bind e5, z2, wr_ok (x := v3 - 100000) (by omega) (by omega)]
    rcases branch_Flow_ex a t v1 (v3 - 100000) with ⟨_, S, f1, g1⟩ | ⟨q, _⟩
    · rcases branch_Flow_ex a t v1 (v3 - 100000 + by_) with ⟨_, S', f2, g2⟩ | ⟨q, _⟩
      · have m := g1.mono g2 (by omega)
        rw [get_bind f1, get_bind f2, get_t (decide_eq_true (g1.le ok hi)), get_t (decide_eq_true m.1), get_t (decide_eq_true m.2)]
        rfl
      · exact absurd op q
    · exact absurd op q
theorem branchRises_calls (codes : Sq Int) (hb : ∀ k, 0 ≤ codes.f k ∧ codes.f k ≤ 255) (road flow more pressure by_ : Int) (hm : 0 ≤ more ∧ more ≤ 255) (hby : 0 ≤ by_ ∧ by_ ≤ 65535) {w : World} {vs : Array Value} (hl : vs.size = 6)
    (hv : ∀ j, j < 6 → ∀ (M : Nat → Prop) (σ : Nat → Value) (V : Nat → Option Nat), (∀ g, ¬ M g) → VR w M σ V ((law09_BranchRises_encC codes road flow more pressure by_).1.getD j .undef) (vs.getD j undef)) : Calls Try.prog 7 vs w fun e w' => e = .returned (.bool true) ∧ Below w.heap.size w w' :=
  law_told law09_BranchRises_tells law09_BranchRises_inj rfl (codes, road, flow, more, pressure, by_) rfl (branchRises_true codes hb road flow more pressure by_ hm hby) hl hv
end Go.Proofs.Ytbmbhgkjpdpcjaa.Ab
