/- Stage 12: slices.Clone, of an empty slice too. -/
import Derived.Test.YtmfiagdelnddkaaGreatXc
import Derived.WalkKit
import Derived.WalkSpells
import Derived.OwnWalkIn
import Derived.Deep.Cut
import Derived.Deep.DrawnRows
import Derived.Deep.RegionHeld3
import Derived.IntWalk
import Derived.Laws.OwnMore
namespace Go.Proofs.YtmfiagdelnddkaaGreat.Ab
noncomputable section
open Go Go.RowKit
set_option maxRecDepth 100000 in
theorem afH (w : World) : Calls Tryz.prog 52 #[.slice none 0 0] w fun e w' => e = .returned (.slice none 0 0) ∧ w.grownBy w' none := by
  have g : w.grownBy w none := ⟨rfl, rfl, rfl, Nat.le_refl _, fun _ _ _ => rfl⟩
  have qT : ∀ (w : World), (binOp .eql 23 (.slice none 0 0) (.slice none 0 0)).run Tryz.prog w = .ok (.bool true) w := fun w => Lib.run_eql_slice_nil w _ _ none 0 0 _ _ Tryz.underlying23
  go_enter Tryz.func52, Tryz.ntmps52
  go_wp2_with fail
  go_ret
  exact ⟨rfl, g⟩
set_option maxRecDepth 100000 in
theorem aeg (w : World) (a : Addr) (cap : Nat) : Calls Tryz.prog 52 #[.slice (some a) 0 cap] w fun e w' => ∃ v, e = .returned v ∧ w'.ownsRow w.heap.size 3 1 v 0 [] ∧ w.grownBy w' none := by
  have qT : ∀ (w : World), (binOp .eql 23 (.slice (some a) 0 cap) (.slice none 0 0)).run Tryz.prog w = .ok (.bool false) w := fun w => Lib.run_eql_slice_nil w _ _ (some a) 0 cap _ _ Tryz.underlying23
  go_enter Tryz.func52, Tryz.ntmps52
  go_wp2_with fail
  go_ret
  exact ⟨_, rfl, World.ownsRow_made w #[] 0 (Nat.le_refl _) (Nat.zero_le _) rfl, ⟨rfl, rfl, rfl, by simp, fun k hk _ => Below.heap_alloc w _ k hk⟩⟩
theorem ac0 {F : Fr} {σ : Nat → Value} {w W : World} (hw : F.w0 = w) (rel : RelH F (Hof []) σ w) {v : Value} (g : w.grownBy W none) (ow : W.ownsRow w.heap.size 3 1 v 0 []) {s : Sq Int} (h0 : s.n = 0) :
    ∃ v' σ', Ending.returned v = .returned v' ∧ RelH F (Hof [rowA 0 1 3 (eI .i64) s]) σ' W ∧ VR W (Mut F (Hof [rowA 0 1 3 (eI .i64) s]) σ') σ' (Ver (Hof [rowA 0 1 3 (eI .i64) s])) (.own 0 0) v' ∧
      0 ≤ [rowA 0 1 3 (eI .i64) s].length ∧ (∀ (j : Nat) b, [rowA 0 1 3 (eI .i64) s][j]? = some b → b.ver ≤ 1 ∧ (0 ≤ j → b.ver = 0)) ∧ (∀ id g, id < 0 → σ id = .pointer (some g) → σ' id = σ id) ∧
        ∀ (id : Nat) b, id < 0 → [rowA 0 1 3 (eI .i64) s][id]? = some b → b.ver = 0 → b.isVar = false → σ' id = σ id := by
  obtain ⟨n, f⟩ := s
  obtain rfl : n = 0 := h0
  have one : ∀ (id : Nat) b, Hof [rowA 0 1 3 (eI .i64) (⟨0, f⟩ : Sq Int)] id = some b → id = 0 ∧ b = rowA 0 1 3 (eI .i64) (⟨0, f⟩ : Sq Int) := by
    intro id b h
    unfold Hof at h
    cases id with
    | zero => exact ⟨rfl, by simpa using h.symm⟩
    | succ id => simp at h
  have blk : ∀ g, pX v = some g → w.heap.size ≤ g ∧ g < W.heap.size := by
    intro g hg
    refine ow.lt g ?_
    rcases ow.2 with ⟨rfl, _⟩ | ⟨g', cap, cur, rfl, _⟩
    · cases hg
    · exact hg
  refine ⟨v, fun _ => v, rfl, ⟨g.os.trans rel.os, g.tape.trans rel.tape, g.output.trans rel.output, by rw [hw]; exact g.size, fun k hk hm => ?_, fun id b h => ?_, fun id id' b b' k hne h1 h2 _ _ _ _ => ?_, fun id b k h1 _ h3 => ?_, rel.mxl⟩, ?_, Nat.zero_le _, fun j b h => ?_, fun id _ h => absurd h (Nat.not_lt_zero _), fun id _ h => absurd h (Nat.not_lt_zero _)⟩
  · rw [hw] at hk ⊢
    exact g.block k hk (by simp)
  · obtain ⟨rfl, rfl⟩ := one id b h
    refine ⟨[], Nat.one_pos, ⟨ow.1, ?_⟩, fun k hk => absurd hk (Nat.not_lt_zero _), fun k j hk => absurd hk (Nat.not_lt_zero _)⟩
    rcases ow.2 with h | ⟨g', cap, cur, e1, e2, e3⟩
    · exact .inl h
    · exact .inr ⟨g', cap, cur, e1, Nat.zero_le _, e3⟩
  · exact hne ((one id b h1).1.trans (one id' b' h2).1.symm)
  · have := blk k h3
    exact ⟨this.2, .inl (by rw [hw]; exact this.1), fun hx => by have := rel.mxl k hx; rw [hw] at this; omega⟩
  · refine .own 0 0 0 v ?_ rfl (Nat.le_refl _) fun _ => rfl
    rcases ow.2 with ⟨rfl, _⟩ | ⟨g', cap, cur, rfl, _⟩ <;> rfl
  · obtain ⟨rfl, rfl⟩ := one j b h
    exact ⟨Nat.zero_le _, fun _ => rfl⟩
def Bj (s : Sq Int) : DT (Sq Int) := .ite (decide (0 < s.n)) (oo s) (.leaf s)
def qY : FnM := nfM (Sq Int) (Sq Int) (fun p => ([sqA 1 (eI .i64) p], [])) (fun p => Bj p) (fun _ => .own 0 0) (fun _ r => [rowA 0 1 3 (eI .i64) r])
theorem aeh {s x : Sq Int} (h : (oo s).get = some x) : gOfA fI.enc (fun p => (fI.t p).get) [sqA 1 (eI .i64) s] [] = some x :=
  (congrFun (aeA (enc := fI.enc) (linj (fun y : List AV × List Blk => sqD dI (gd y.1 0)) (fun p => by kernel_rfl)) (fun p => (fI.t p).get)) s).trans h
theorem Bw : aN Tryz.prog 52 qY.c := by
  intro xs ins r x hr hx
  injection hr with hr
  subst hr
  obtain ⟨s, e, hs⟩ := Kn (show FK _ = some x from hx)
  have e1 : [sqA 1 (eI .i64) s] = xs := by injection e with e1 e2
  have e2 : [] = ins := by injection e with e1 e2
  have hs : (DT.ite (decide (0 < Sq.n (α := Int) s)) (oo s) (.leaf s)).get = some x := hs
  clear hx e
  subst e1 e2
  change Sq Int at s x
  by_cases c : 0 < s.n
  · rw [aA (decide_eq_true c)] at hs
    exact Pd [sqA 1 (eI .i64) s] [] _ x rfl (aeh hs)
  · have h0 : s.n = 0 := by omega
    rw [aD (decide_eq_false c)] at hs
    obtain rfl : s = x := Option.some.inj hs
    refine ⟨⟨_, Tryz.func52, rfl⟩, fun F σ w vs hw hm rel hl hv => ?_⟩
    obtain ⟨v, rfl⟩ : ∃ v, vs = #[v] := by
      obtain ⟨vs⟩ := vs
      match vs, hl with
      | [v], _ => exact ⟨v, rfl⟩
    have hv0 : VR w (Mut F (Hof []) σ) σ (Ver (Hof [])) (.slc 1 s.n fun k => eI .i64 (s.f k)) v := hv 0 (Nat.one_pos)
    have hv1 : v = .slice none 0 0 ∨ ∃ a cap, v = .slice (some a) 0 cap := by
      rw [h0] at hv0
      cases hv0 with
      | pure h => cases h with
        | slc0 _ _ _ h =>
          rcases h with h | ⟨a, cap, h, _⟩
          · exact .inl h
          · exact .inr ⟨a, cap, h⟩
        | slc _ _ _ _ _ _ _ hn => exact absurd hn (Nat.lt_irrefl _)
    rcases hv1 with rfl | ⟨a, cap, rfl⟩
    · refine (afH w).mono ?_
      rintro e w' ⟨rfl, g⟩
      exact ac0 hw rel g (World.ownsRow_nil _ _ _ _) h0
    · refine (aeg w a cap).mono ?_
      rintro e w' ⟨v, rfl, ow, g⟩
      exact ac0 hw rel g ow h0
def zW (s : Sq Int) : Option (Sq Int) := qY.val s
theorem TU (s : Sq Int) : zW s = (Bj s).get := qY.val_eq (fun x => sqD dI (gd x.1 0)) (fun p => by kernel_rfl) s
end
end Go.Proofs.YtmfiagdelnddkaaGreat.Ab
