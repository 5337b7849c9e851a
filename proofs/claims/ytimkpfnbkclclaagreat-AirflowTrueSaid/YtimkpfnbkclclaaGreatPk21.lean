/- A part of the proof, what is needed of it. -/
import Derived.WalkKit
import Derived.WalkSpells
import Derived.OwnWalkIn
import Derived.Deep.Cut
import Derived.Deep.DrawnRows
import Derived.Deep.RegionHeld3
import Derived.IntWalk
import Derived.Laws.OwnMore
import Derived.Test.YtimkpfnbkclclaaGreatPk08
import Derived.Test.YtimkpfnbkclclaaGreatPk20
namespace Go.Proofs.YtimkpfnbkclclaaGreat.Ab
open Go
def Upto (d : Sq Int) (n : Nat) : Prop := ∀ p q, p < q → q < n → d.f p ≤ d.f q
structure Hole (d : Sq Int) (j i : Nat) : Prop where
  o : ∀ p q, p < q → q ≤ i → p ≠ j → q ≠ j → d.f p ≤ d.f q
  u : ∀ q, j < q → q ≤ i → d.f j ≤ d.f q
theorem Upto.hole {d : Sq Int} {i : Nat} (h : Upto d i) : Hole d i i := ⟨fun p q h1 h2 _ h4 => h p q h1 (by omega), fun q h1 h2 => by omega⟩
theorem Upto.le {d : Sq Int} {i n : Nat} (h : Upto d i) (hn : n ≤ max i 1) : Upto d n := fun p q h1 h2 => h p q h1 (by omega)
theorem Upto.one (d : Sq Int) : Upto d 1 := fun p q h1 h2 => by omega
theorem Hole.whole {d : Sq Int} {j i : Nat} (h : Hole d j i) (c : j = 0 ∨ d.f (j - 1) ≤ d.f j) : Upto d (i + 1) := by
  intro p q h1 h2
  by_cases c1 : q = j
  · subst c1
    rcases c with c | c
    · omega
    · by_cases c2 : p = q - 1
      · rw [c2]; exact c
      · have := h.o p (q - 1) (by omega) (by omega) (by omega) (by omega)
        omega
  · by_cases c2 : p = j
    · rw [c2]; exact h.u q (by omega) (by omega)
    · exact h.o p q h1 (by omega) c2 c1
theorem Hole.down {d : Sq Int} {j i : Nat} (h : Hole d j i) (j0 : 0 < j) (ji : j ≤ i) (lt : d.f j < d.f (j - 1)) {n : Nat} {f : Nat → Int} (e : ∀ k, f k = if k = j - 1 then d.f j else if k = j then d.f (j - 1) else d.f k) : Hole ⟨n, f⟩ (j - 1) i := by
  refine ⟨fun p q h1 h2 h3 h4 => ?_, fun q h1 h2 => ?_⟩
  · show f p ≤ f q
    rw [e p, e q, if_neg h3, if_neg h4]
    by_cases c1 : q = j
    · rw [if_pos c1, if_neg (show ¬ p = j by omega)]
      exact h.o p (j - 1) (by omega) (by omega) (by omega) (by omega)
    · rw [if_neg c1]
      by_cases c2 : p = j
      · rw [if_pos c2]; exact h.o (j - 1) q (by omega) h2 (by omega) c1
      · rw [if_neg c2]; exact h.o p q h1 h2 c2 c1
  · show f (j - 1) ≤ f q
    rw [e (j - 1), e q, if_pos rfl, if_neg (show ¬ q = j - 1 by omega)]
    by_cases c1 : q = j
    · rw [if_pos c1]; omega
    · rw [if_neg c1]; exact h.u q (by omega) h2
theorem aqV {l d : Sq Int} (h : Pm l d) (hn : l.n ≤ 1000) (b : Int) {i : Nat} (hi : i < l.n) (ha : Upto d i) : ∃ d', zW 0 b i d i = some (.inl d') ∧ Pm l d' ∧ Upto d' (i + 1) := by
  have key := pY (step := fun v : Sq Int × Int => xS 0 b i v.1 v.2)
    (fun v => ∃ j : Nat, v.2 = j ∧ j ≤ i ∧ Pm l v.1 ∧ Hole v.1 j i) (fun v => v.2.toNat) (fun z => ∃ d', z = .inl d' ∧ Pm l d' ∧ Upto d' (i + 1)) (fun v hv => by
      obtain ⟨d, x⟩ := v
      obtain ⟨j, rfl, hj, hp, ho⟩ := hv
      have ho : Hole d j i := ho
      have hp : Pm l d := hp
      have en := hp.n
      dsimp only
      unfold xS
      by_cases c : j > 0
      · have e1 : wr ((j : Int) - 1) = ((j - 1 : Nat) : Int) := by rw [pJ (by omega) (by omega)]; omega
        rw [e1, qo (decide_eq_true (by omega)), qo (dix (by omega)), qo (dix (by omega)), get_bind (anr _ _), pI, pI]
        by_cases q : d.f j < d.f (j - 1)
        · rw [qo (decide_eq_true q), qo (dix (by omega)), qo (dix (by omega)), qo (dix (by omega)), qo (dix (by omega))]
          have fk : ∀ k, (fun k0 => cond (Nat.beq k0 (j - 1)) (d.f j) (cond (Nat.beq k0 j) (d.f (j - 1)) (d.f k0))) k = if k = j - 1 then d.f j else if k = j then d.f (j - 1) else d.f k := fun k => by
            dsimp only
            by_cases k1 : k = j - 1
            · rw [ajw k1, if_pos k1]; rfl
            · rw [ajM k1, if_neg k1]
              by_cases k2 : k = j
              · rw [ajw k2, if_pos k2]; rfl
              · rw [ajM k2, if_neg k2]; rfl
          exact ⟨_, rfl, ⟨j - 1, rfl, by omega, hp.swap (a := j - 1) (b := j) (by omega) (by omega) (by omega) rfl fk, ho.down (by omega) hj q fk⟩, by dsimp only; omega⟩
        · rw [qm (decide_eq_false q)]
          exact ⟨_, rfl, _, rfl, hp, ho.whole (.inr (by omega))⟩
      · rw [qm (decide_eq_false (by omega))]
        exact ⟨_, rfl, _, rfl, hp, ho.whole (.inl (by omega))⟩)
    (d, (i : Int)) ⟨i, rfl, Nat.le_refl _, h, ha.hole⟩
  obtain ⟨z, hz, y, rfl, g⟩ := key
  exact ⟨y, by rw [XO]; exact hz, g⟩
theorem aq9 (l : Sq Int) (hn : l.n ≤ 1000) : ∃ r, Dh l 0 l.n = some r ∧ Pm l r ∧ Upto r l.n := by
  have key := pY (step := fun v : Int × Sq Int => xL 0 l.n v.1 v.2)
    (fun v => ∃ j : Nat, v.1 = j ∧ 1 ≤ j ∧ j ≤ max l.n 1 ∧ Pm l v.2 ∧ Upto v.2 j) (fun v => l.n - v.1.toNat) (fun z => ∃ d', z = .inl d' ∧ Pm l d' ∧ Upto d' l.n) (fun v hv => by
      obtain ⟨x, d⟩ := v
      obtain ⟨j, rfl, hj, hm, hp, hu⟩ := hv
      dsimp only
      unfold xL
      by_cases c : j < l.n
      · obtain ⟨d', e, h', hu'⟩ := aqV hp hn l.n c hu
        rw [qo (dlt c), pV e, qc (by omega)]
        exact ⟨_, rfl, ⟨j + 1, rfl, by omega, by omega, h', hu'⟩, by dsimp only; omega⟩
      · rw [qm (decide_eq_false (by omega))]
        exact ⟨_, rfl, _, rfl, hp, hu.le (by omega)⟩)
    (1, l) ⟨1, rfl, by omega, by omega, .refl l, .one l⟩
  obtain ⟨z, hz, y, rfl, g⟩ := key
  rw [ZF]; unfold BH
  rw [show wr ((0 : Int) + 1) = 1 by decide, pV (by rw [XM]; exact hz)]
  exact ⟨_, rfl, g⟩
set_option maxRecDepth 100000 in
theorem ars (l : Sq Int) (hn : l.n ≤ 12) : ∃ r, NK l = some r ∧ Pm l r ∧ Upto r l.n := by
  obtain ⟨r, e, h⟩ := aq9 l (by omega)
  have eL : ∃ z, WE (IntKind.u64.wrap ((l.n : Nat) : Int)) = some z := by
    have e0 : IntKind.u64.wrap ((l.n : Nat) : Int) = (l.n : Int) := by rw [IntKind.wrap_u64]; omega
    have e1 : IntKind.u8.wrap ((l.n : Nat) : Int) = (l.n : Int) := by rw [IntKind.wrap_u8]; omega
    have e2 : ∃ z, Qp (l.n : Int) = some z := by
      rw [ae3]; unfold Mt
      rw [qm (decide_eq_false (by omega)), qm (decide_eq_false (by omega)), qm (decide_eq_false (by omega)), e1, qo (decide_eq_true ⟨by omega, Int.lt_of_le_of_lt (show ((l.n : Nat) : Int) ≤ 12 by omega) (by decide)⟩)]
      exact ⟨_, rfl⟩
    obtain ⟨z, ez⟩ := e2
    rw [agn, e0]; unfold Qr
    rw [get_bind ez]
    exact ⟨_, rfl⟩
  obtain ⟨z, ez⟩ := eL
  have ep : Ho l 0 l.n z = some r := by
    rw [acW]; unfold Fz
    have k : EN 0 l.n z l = some (.inl r) := by
      rw [abD]
      refine aP (x := .l r) ?_
      unfold BI
      rw [pJ (by omega) (by omega), qo (decide_eq_true (by omega)), get_bind e]; rfl
    rw [pV k]; rfl
  refine ⟨r, ?_, h⟩
  rw [ahQ]; unfold XL
  rw [get_bind ez, get_bind ep]; rfl
end Go.Proofs.YtimkpfnbkclclaaGreat.Ab
namespace Go.Proofs.YtimkpfnbkclclaaGreat.Ab
noncomputable section
open Go
attribute [local irreducible] arun
def xG (s : Sq qB) : DT ((Sq qB)) :=
 .ite (decide (0 < s.n)) (
 .ite (decide ((0 + s.n) * 16 ≤ 140737488355328 ∧ (0 + s.n) ≤ 1099511627776)) (.leaf (Sq.mk (0 + s.n) (fun k0 => (s.f k0)))) (.fail)) (
 .fail)
def q8 : FnM := nfM ((Sq qB)) ((Sq qB)) (fun p => ([sqA 2 qB.enc p], [])) (fun p => xG p) (fun _ => .own 0 0) (fun _ r => [rowA 0 2 51 qB.enc r])
def Rv : Env := envM [] [] [] [] [] 0
theorem NI : aI Tryz.prog 51 q8.c := q8.tells Tryz.func51 (show ∀ p, arun Rv Tryz.f51 (q8.enc p).1 (q8.enc p).2 = _ from fun p => by kernel_rfl) p8 .nil
end
end Go.Proofs.YtimkpfnbkclclaaGreat.Ab
namespace Go.Proofs.YtimkpfnbkclclaaGreat.Ab
noncomputable section
open Go Go.RowKit
set_option maxRecDepth 100000 in
theorem aeH (w : World) : Calls Tryz.prog 51 #[.slice none 0 0] w fun e w' => e = .returned (.slice none 0 0) ∧ w.grownBy w' none := by
  have g : w.grownBy w none := ⟨rfl, rfl, rfl, Nat.le_refl _, fun _ _ _ => rfl⟩
  have qT : ∀ (w : World), (binOp .eql 42 (.slice none 0 0) (.slice none 0 0)).run Tryz.prog w = .ok (.bool true) w := fun w => Lib.run_eql_slice_nil w _ _ none 0 0 _ _ Tryz.underlying42
  go_enter Tryz.func51, Tryz.ntmps51
  go_wp2_with fail
  go_ret
  exact ⟨rfl, g⟩
set_option maxRecDepth 100000 in
theorem adN (w : World) (a : Addr) (cap : Nat) : Calls Tryz.prog 51 #[.slice (some a) 0 cap] w fun e w' => ∃ v, e = .returned v ∧ w'.ownsRow w.heap.size 51 2 v 0 [] ∧ w.grownBy w' none := by
  have qT : ∀ (w : World), (binOp .eql 42 (.slice (some a) 0 cap) (.slice none 0 0)).run Tryz.prog w = .ok (.bool false) w := fun w => Lib.run_eql_slice_nil w _ _ (some a) 0 cap _ _ Tryz.underlying42
  go_enter Tryz.func51, Tryz.ntmps51
  go_wp2_with fail
  go_ret
  exact ⟨_, rfl, World.ownsRow_made w #[] 0 (Nat.le_refl _) (Nat.zero_le _) rfl, ⟨rfl, rfl, rfl, by simp, fun k hk _ => Below.heap_alloc w _ k hk⟩⟩
theorem acy {F : Fr} {σ : Nat → Value} {w W : World} (hw : F.w0 = w) (rel : RelH F (Hof []) σ w) {v : Value} (g : w.grownBy W none) (ow : W.ownsRow w.heap.size 51 2 v 0 []) {s : Sq qB} (h0 : s.n = 0) :
    ∃ v' σ', Ending.returned v = .returned v' ∧ RelH F (Hof [rowA 0 2 51 qB.enc s]) σ' W ∧ VR W (Mut F (Hof [rowA 0 2 51 qB.enc s]) σ') σ' (Ver (Hof [rowA 0 2 51 qB.enc s])) (.own 0 0) v' ∧
      0 ≤ [rowA 0 2 51 qB.enc s].length ∧ (∀ (j : Nat) b, [rowA 0 2 51 qB.enc s][j]? = some b → b.ver ≤ 1 ∧ (0 ≤ j → b.ver = 0)) ∧ (∀ id g, id < 0 → σ id = .pointer (some g) → σ' id = σ id) ∧
        ∀ (id : Nat) b, id < 0 → [rowA 0 2 51 qB.enc s][id]? = some b → b.ver = 0 → b.isVar = false → σ' id = σ id := by
  obtain ⟨n, f⟩ := s
  obtain rfl : n = 0 := h0
  have one : ∀ (id : Nat) b, Hof [rowA 0 2 51 qB.enc (⟨0, f⟩ : Sq qB)] id = some b → id = 0 ∧ b = rowA 0 2 51 qB.enc (⟨0, f⟩ : Sq qB) := by
    intro id b h
    unfold Hof at h
    cases id with
    | zero => exact ⟨rfl, by simpa using h.symm⟩
    | succ id => simp at h
  have blk : ∀ g, aA v = some g → w.heap.size ≤ g ∧ g < W.heap.size := by
    intro g hg
    refine ow.lt g ?_
    rcases ow.2 with ⟨rfl, _⟩ | ⟨g', cap, cur, rfl, _⟩
    · cases hg
    · exact hg
  refine ⟨v, fun _ => v, rfl, ⟨g.os.trans rel.os, g.tape.trans rel.tape, g.output.trans rel.output, by rw [hw]; exact g.size, fun k hk hm => ?_, fun id b h => ?_, fun id id' b b' k hne h1 h2 _ _ _ _ => ?_, fun id b k h1 _ h3 => ?_, rel.mxl⟩, ?_, Nat.zero_le _, fun j b h => ?_, fun id _ h => absurd h (Nat.not_lt_zero _), fun id _ h => absurd h (Nat.not_lt_zero _)⟩
  · rw [hw] at hk ⊢
    exact g.block k hk (by simp)
  · obtain ⟨rfl, rfl⟩ := one id b h
    refine ⟨[], (by omega), ⟨ow.1, ?_⟩, fun k hk => absurd hk (Nat.not_lt_zero _), fun k j hk => absurd hk (Nat.not_lt_zero _)⟩
    rcases ow.2 with h | ⟨g', cap, cur, e1, e2, e3⟩
    · exact .inl h
    · exact .inr ⟨g', cap, cur, e1, Nat.zero_le _, e3⟩
  · exact hne ((one id b h1).1.trans (one id' b' h2).1.symm)
  · have := blk k h3
    exact ⟨this.2, .inl (by rw [hw]; exact this.1), fun hx => by have := rel.mxl k hx; rw [hw] at this; omega⟩
  · refine .own 0 0 0 v ?_ rfl (Nat.le_refl _) fun _ => rfl
    rcases ow.2 with ⟨rfl, _⟩ | ⟨g', cap, cur, rfl, _⟩ <;> rfl
  · obtain ⟨rfl, rfl⟩ := one j b h
    exact ⟨Nat.zero_le _, fun _ => rfl⟩
def IB (s : Sq qB) : DT (Sq qB) := .ite (decide (0 < s.n)) (xG s) (.leaf s)
def za : FnM := nfM (Sq qB) (Sq qB) (fun p => ([sqA 2 qB.enc p], [])) (fun p => IB p) (fun _ => .own 0 0) (fun _ r => [rowA 0 2 51 qB.enc r])
theorem adO {s x : Sq qB} (h : (xG s).get = some x) : gOfA q8.enc (fun p => (q8.t p).get) [sqA 2 qB.enc s] [] = some x :=
  (congrFun (oo (enc := q8.enc) (linj (fun y : List AV × List Blk => sqD qB.dec (gd y.1 0)) (fun p => by kernel_rfl)) (fun p => (q8.t p).get)) s).trans h
theorem MW : aI Tryz.prog 51 za.c := by
  intro xs ins r x hr hx
  injection hr with hr
  subst hr
  obtain ⟨s, e, hs⟩ := dM (show bS _ = some x from hx)
  have e1 : [sqA 2 qB.enc s] = xs := by injection e with e1 e2
  have e2 : [] = ins := by injection e with e1 e2
  have hs : (DT.ite (decide (0 < Sq.n (α := qB) s)) (xG s) (.leaf s)).get = some x := hs
  clear hx e
  subst e1 e2
  change Sq qB at s x
  by_cases c : 0 < s.n
  · rw [qo (decide_eq_true c)] at hs
    exact NI [sqA 2 qB.enc s] [] _ x rfl (adO hs)
  · have h0 : s.n = 0 := by omega
    rw [qm (decide_eq_false c)] at hs
    obtain rfl : s = x := Option.some.inj hs
    refine ⟨⟨_, Tryz.func51, rfl⟩, fun F σ w vs hw hm rel hl hv => ?_⟩
    obtain ⟨v, rfl⟩ : ∃ v, vs = #[v] := by
      obtain ⟨vs⟩ := vs
      match vs, hl with
      | [v], _ => exact ⟨v, rfl⟩
    have hv0 : VR w (Mut F (Hof []) σ) σ (Ver (Hof [])) (.slc 2 s.n fun k => qB.enc (s.f k)) v := hv 0 (Nat.one_pos)
    have hv1 : v = .slice none 0 0 ∨ ∃ a cap, v = .slice (some a) 0 cap := by
      rw [h0] at hv0
      cases hv0 with
      | pure h => cases h with
        | slc0 _ _ _ h =>
          rcases h with h | ⟨a, cap, h, _⟩
          · exact .inl h
          · exact .inr ⟨a, cap, h⟩
        | slc _ _ _ _ _ _ _ hn => exact absurd hn (Nat.lt_irrefl _)
    rcases hv1 with rfl | ⟨a, cap, rfl⟩
    · refine (aeH w).mono ?_
      rintro e w' ⟨rfl, g⟩
      exact acy hw rel g (World.ownsRow_nil _ _ _ _) h0
    · refine (adN w a cap).mono ?_
      rintro e w' ⟨v, rfl, ow, g⟩
      exact acy hw rel g ow h0
def K6 (s : Sq qB) : Option (Sq qB) := za.val s
theorem ad9 (s : Sq qB) : K6 s = (IB s).get := za.val_eq (fun x => sqD qB.dec (gd x.1 0)) (fun p => by kernel_rfl) s
end
end Go.Proofs.YtimkpfnbkclclaaGreat.Ab
