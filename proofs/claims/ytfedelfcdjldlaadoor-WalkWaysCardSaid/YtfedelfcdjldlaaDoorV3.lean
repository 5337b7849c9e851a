/- What the iterator over a road's directions hands out. -/
import Derived.Test.YtfedelfcdjldlaaDoorZn
import Derived.RangeFuncNested
import Derived.RangeFuncBound
import Derived.RangeFuncCalls
import Derived.RangeFuncLeaves
import Derived.Shelf.Abstract
import Derived.Shelf.RegionOpen
import Derived.WalkKit
import Derived.OwnWalkIn
import Derived.TacticsInMore
namespace Go.Proofs.YtfedelfcdjldlaaDoor.Ab
open Go Go.RowKit Go.Shelf
attribute [local go_sem] Oper.semAt_some

/-- Both ends of the road, in both orders. -/
def seqDir : List AV → (Nat → Option Blk) → Option (List (List AV))
  | [.ptr id 0], H => match H id with
    | some (.var (.int .i64 a :: .int .i64 b :: _)) => some [[.int .i64 a, .int .i64 b], [.int .i64 b, .int .i64 a]]
    | _ => none
  | _, _ => none
theorem seqDir_inv {caps : List AV} {H : Nat → Option Blk} {xss : List (List AV)} (h : seqDir caps H = some xss) : ∃ id a b cs, caps = [.ptr id 0] ∧ H id = some (.var (.int .i64 a :: .int .i64 b :: cs)) ∧ xss = [[.int .i64 a, .int .i64 b], [.int .i64 b, .int .i64 a]] := by
  unfold seqDir at h
  split at h
  · split at h
    · injection h with h
      exact ⟨_, _, _, _, rfl, by assumption, h.symm⟩
    · cases h
  · cases h
set_option maxHeartbeats 2000000 in
theorem dir_seqF (F0 : Fence) (hro : F0.round = none) (h55 : F0.fn 41) (hdep : F0.depth.isSome = false) (caps : List AV) (F : Fr) (lb : Array Value) (n l : Nat) (J : Nat → World → Prop) (Jx : World → Prop) (w1 : World) (hlb : lb.size = caps.length)
    (hJ : ∀ i W, J i W → ∃ H σ xss, RelH F H σ W ∧ (∀ j, j < caps.length → VR W (Mut F H σ) σ (Ver H) (caps.getD j .undef) (lb.getD j Go.undef)) ∧ seqDir caps H = some xss ∧ xss.length = n ∧
      ∀ (args : Array Value) (W2 : World), i < n → Keeps W W2 → args.size = (xss.getD i []).length → (∀ j, j < (xss.getD i []).length → VR W (Mut F H σ) σ (Ver H) ((xss.getD i []).getD j .undef) (args.getD j Go.undef)) →
        YieldAt F0 0 Tryd.prog l args W2 fun e W' => (e = .returned (.bool true) ∧ J (i + 1) W') ∨ (e = .returned (.bool false) ∧ Jx W'))
    (h0 : J 0 w1) : CallsIn F0 0 Tryd.prog 41 (#[.func (.yield l) #[] #[]] ++ lb) w1 fun e W' => (∃ v, e = .returned v) ∧ ∃ W, (J n W ∨ Jx W) ∧ Keeps W W' := by
  have key : ∀ i W, J i W → ∃ g a b, lb = #[.pointer (some ⟨g, 0, none⟩)] ∧ n = 2 ∧ W.cell? ⟨g, 0, none⟩ = some (.int .i64 a) ∧ W.cell? ⟨g, 1, none⟩ = some (.int .i64 b) ∧
      (i = 0 → YieldAt F0 0 Tryd.prog l #[.int .i64 a, .int .i64 b] W fun e W' => (e = .returned (.bool true) ∧ J (i + 1) W') ∨ (e = .returned (.bool false) ∧ Jx W')) ∧
      (i = 1 → YieldAt F0 0 Tryd.prog l #[.int .i64 b, .int .i64 a] W fun e W' => (e = .returned (.bool true) ∧ J (i + 1) W') ∨ (e = .returned (.bool false) ∧ Jx W')) := by
    intro i W hi
    obtain ⟨H, σ, xss, rel, hv, hs, hn, hy⟩ := hJ i W hi
    obtain ⟨id, a, b, cs, rfl, hb, rfl⟩ := seqDir_inv hs
    have hn : 2 = n := hn
    obtain ⟨v, rfl⟩ : ∃ v, lb = #[v] := by
      obtain ⟨lb⟩ := lb
      match lb, hlb with
      | [v], _ => exact ⟨v, rfl⟩
    obtain ⟨g, e1, e2, _⟩ := (hv 0 (by simp)).ptr_inv
    obtain ⟨g', vs, T, q1, q2, q3, q4⟩ := rel.bl id _ hb
    rw [e1] at q1
    obtain rfl : g = g' := by injection q1 with q1; injection q1 with q1; injection q1
    have e2 : v = .pointer (some ⟨g, 0, none⟩) := e2
    have a0 := (q4 0 (by simp)).1.int_inv
    have a1 := (q4 1 (by simp)).1.int_inv
    have cell : ∀ j, j < 2 → W.cell? ⟨g, j, none⟩ = some (vs.getD j Go.undef) := fun j hj => by
      have hlt : j < vs.size := by rw [q3]; simp; omega
      unfold World.cell?
      simp only [q2]
      simp [hlt]
    refine ⟨g, a, b, by rw [e2], hn.symm, by rw [cell 0 (by omega), a0], by rw [cell 1 (by omega), a1], fun h => ?_, fun h => ?_⟩
    · subst h
      exact hy _ W (by omega) (Keeps.refl W) rfl fun j hj => match j, hj with
        | 0, _ => .pure (.int _ _)
        | 1, _ => .pure (.int _ _)
    · subst h
      exact hy _ W (by omega) (Keeps.refl W) rfl fun j hj => match j, hj with
        | 0, _ => .pure (.int _ _)
        | 1, _ => .pure (.int _ _)
  obtain ⟨g, a, b, rfl, rfl, c0, c1, y0, _⟩ := key 0 w1 h0
  obtain ⟨f1, t1, a1, b1, hy1, hR1⟩ := y0 rfl
  have key1 : ∀ W, J 1 W → ∃ a b, W.cell? ⟨g, 0, none⟩ = some (.int .i64 a) ∧ W.cell? ⟨g, 1, none⟩ = some (.int .i64 b) ∧ YieldAt F0 0 Tryd.prog l #[.int .i64 b, .int .i64 a] W fun e W' => (e = .returned (.bool true) ∧ J 2 W') ∨ (e = .returned (.bool false) ∧ Jx W') := by
    intro W h
    obtain ⟨g', a, b, e, _, d0, d1, _, y⟩ := key 1 W h
    simp only [Array.mk.injEq, List.cons.injEq, Value.pointer.injEq, Option.some.injEq, Addr.mk.injEq, and_true] at e
    subst e
    exact ⟨a, b, d0, d1, y rfl⟩
  clear key hJ y0
  refine callsIn_of_wp Tryd.func41 rfl h55 ?_ hro
  simp only [Tryd.ntmps41, List.size_toArray, List.length_cons, List.length_nil, Nat.reduceAdd, Nat.reduceSub, Array.replicate_succ, Array.replicate_zero, List.push_toArray, List.append_toArray, List.nil_append, List.cons_append]
  gi_wp2
  refine hR1.mono ?_
  rintro e W1 (⟨rfl, hJ1⟩ | ⟨rfl, hx1⟩)
  · obtain ⟨a, b, c0, c1, f2, t2, a2, b2, hy2, hR2⟩ := key1 W1 hJ1
    gi_wp2
    refine hR2.mono ?_
    rintro e W2 (⟨rfl, hJ2⟩ | ⟨rfl, hx2⟩)
    · gi_wp2
      go_end0
      exact ⟨⟨_, rfl⟩, _, .inl hJ2, Keeps.refl _⟩
    · gi_wp2
      go_end0
      exact ⟨⟨_, rfl⟩, _, .inr hx2, Keeps.refl _⟩
  · gi_wp2
    go_end0
    exact ⟨⟨_, rfl⟩, _, .inr hx1, Keeps.refl _⟩
theorem dir_seq : SeqTells Tryd.prog 41 seqDir := fun caps F lb n l J Jx w1 hlb hJ h0 =>
  ⟨enters_of Tryd.func41 (by kernel_rfl) rfl, dir_seqF (wideR none) rfl trivial rfl caps F lb n l J Jx w1 hlb hJ h0⟩
end Go.Proofs.YtfedelfcdjldlaaDoor.Ab
