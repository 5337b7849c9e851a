/- The edit that is drawn. -/
import Derived.Test.YtbiikgkfklhohaaEd
import Derived.Test.YtbiikgkfklhohaaMi
import Derived.OpenShut
namespace Go.Proofs.Ytbiikgkfklhohaa
open Go.ChangeShapes Go.WideShapes Go.RowKit

structure CeS (w : World) (b : Nat) (l : List Nat) (n m : Nat) (ms cs : Array Value) (W : World) : Prop where
  cd : ∃ j, CdAt W b l j
  km : Bk W n ms 26
  ke : Bk W m cs 43
  g : w.grownBy W (some b)
  lt : b < n ∧ n < m
  nw : n = w.heap.size
section
variable {w : World} {b : Nat} {l : List Nat} {n m : Nat} {ms cs : Array Value} {W W' : World}
theorem CeS.drew (h : CeS w b l n m ms cs W) : CeS w b l n m ms cs W.drew := ⟨h.cd, h.km, h.ke, gb_drew h.g, h.lt, h.nw⟩
theorem CeS.only (h : CeS w b l n m ms cs W) (o : Only b W W') {j : Nat} (c : CdAt W' b l j) : CeS w b l n m ms cs W' := by
  have hl := h.lt
  exact ⟨⟨j, c⟩, h.km.of (gb_only o) (by simp; omega), h.ke.of (gb_only o) (by simp; omega), gb_same h.g (gb_only o), h.lt, h.nw⟩
theorem CeS.call (h : CeS w b l n m ms cs W) (k : W.grownBy W' (some b)) (c : ∃ j, CdAt W' b l j) : CeS w b l n m ms cs W' := by
  have hl := h.lt
  exact ⟨c, h.km.of k (by simp; omega), h.ke.of k (by simp; omega), gb_same h.g k, h.lt, h.nw⟩
theorem CeS.alloc (h : CeS w b l n m ms cs W) (o : Obj) : CeS w b l n m ms cs (W.alloc o) := by
  obtain ⟨j, c⟩ := h.cd
  exact ⟨⟨j, c.alloc o⟩, h.km.of (gb_alloc (gb_refl W none) o) (by simp), h.ke.of (gb_alloc (gb_refl W none) o) (by simp), gb_alloc h.g o, h.lt, h.nw⟩
theorem CeS.set (h : CeS w b l n m ms cs W) (o : Nat) (v : Value) : CeS w b l n m ms (cs.setIfInBounds o v) (W.setCell ⟨m, o, none⟩ v) := by
  have hl := h.lt
  have hn := h.nw
  obtain ⟨j, c⟩ := h.cd
  have k : W.grownBy (W.setCell ⟨m, o, none⟩ v) (some m) := gb_set (gb_refl W _) _ (.inl rfl) v
  exact ⟨⟨j, c.keep k (fun g e => by injection e with e; omega)⟩, h.km.of k (by simp; omega), h.ke.set o v, gb_set h.g _ (.inr (by show w.heap.size ≤ m; omega)) v, h.lt, h.nw⟩
theorem CeS.keep (h : CeS w b l n m ms cs W) {g : Nat} (k : W.grownBy W' (some g)) (hg : m < g) : CeS w b l n m ms cs W' := by
  have hl := h.lt
  have hn := h.nw
  obtain ⟨j, c⟩ := h.cd
  exact ⟨⟨j, c.keep k (fun g' e => by injection e with e; omega)⟩, h.km.of k (by simp; omega), h.ke.of k (by simp; omega), gb_new h.g k (by omega), h.lt, h.nw⟩
theorem CeS.kc (h : CeS w b l n m ms cs W) (o : Nat) : W.cell? ⟨m, o, none⟩ = cs[o]? := h.ke.cell o
theorem CeS.kf (h : CeS w b l n m ms cs W) (o : Nat) : W.frozen? ⟨m, o, none⟩ = false := h.ke.frozen o
theorem CeS.mc (h : CeS w b l n m ms cs W) (o : Nat) : W.cell? ⟨n, o, none⟩ = ms[o]? := h.km.cell o
end

structure CfS (w : World) (b : Nat) (l : List Nat) (n r m : Nat) (ms zs cs : Array Value) (W : World) : Prop where
  a : CeS w b l n r ms zs W
  ke : Bk W m cs 43
  lt : r < m
section
variable {w : World} {b : Nat} {l : List Nat} {n r m : Nat} {ms zs cs : Array Value} {W W' : World}
theorem CfS.drew (h : CfS w b l n r m ms zs cs W) : CfS w b l n r m ms zs cs W.drew := ⟨h.a.drew, h.ke, h.lt⟩
theorem CfS.only (h : CfS w b l n r m ms zs cs W) (o : Only b W W') {j : Nat} (c : CdAt W' b l j) : CfS w b l n r m ms zs cs W' := by
  have hl := h.lt
  have hl2 := h.a.lt
  exact ⟨h.a.only o c, h.ke.of (gb_only o) (by simp; omega), h.lt⟩
theorem CfS.call (h : CfS w b l n r m ms zs cs W) (k : W.grownBy W' (some b)) (c : ∃ j, CdAt W' b l j) : CfS w b l n r m ms zs cs W' := by
  have hl := h.lt
  have hl2 := h.a.lt
  exact ⟨h.a.call k c, h.ke.of k (by simp; omega), h.lt⟩
theorem CfS.alloc (h : CfS w b l n r m ms zs cs W) (o : Obj) : CfS w b l n r m ms zs cs (W.alloc o) := ⟨h.a.alloc o, h.ke.of (gb_alloc (gb_refl W none) o) (by simp), h.lt⟩
theorem CfS.set (h : CfS w b l n r m ms zs cs W) (o : Nat) (v : Value) : CfS w b l n r m ms zs (cs.setIfInBounds o v) (W.setCell ⟨m, o, none⟩ v) :=
  ⟨h.a.keep (gb_set (gb_refl W _) _ (.inl rfl) v) h.lt, h.ke.set o v, h.lt⟩
theorem CfS.start (h : CeS w b l n r ms zs W) (cs : Array Value) : CfS w b l n r W.heap.size ms zs cs (W.alloc (.cells cs 43)) := ⟨h.alloc _, Bk.new W cs _, h.ke.lt⟩
theorem CfS.fin (h : CfS w b l n r m ms zs cs W) (vs : List Value) (hl : zs.size = vs.length) :
    Bk (setC W r 0 vs) r vs.toArray 43 ∧ (∃ j, CdAt (setC W r 0 vs) b l j) ∧ w.grownBy (setC W r 0 vs) (some b) := by
  have hl2 := h.a.lt
  have hn := h.a.nw
  obtain ⟨j, hc⟩ := h.a.cd
  exact ⟨h.a.ke.all vs hl, ⟨j, hc.keep (setC_gb r vs W 0) (fun g e => by injection e with e; omega)⟩, gb_new h.a.g (setC_gb r vs W 0) (by omega)⟩
end
theorem wrap64_le (x : Int) : wrap64 x ≤ 9223372036854775807 := by unfold wrap64; omega
theorem next0_ex (b : Nat) (l : List Nat) (i : Nat) (n : Int) (w : World) (h : CdAt w b l i) (h1 : n ≤ 9223372036854775807) :
    Calls Try.prog 37 #[.pointer (some ⟨b, 0, none⟩), .int .i64 n] w fun e w' => ∃ v : Int, ∃ j : Nat, e = .returned (.int .i64 v) ∧ CdAt w' b l j ∧ Only b w w' := by
  refine (next_any b l i n w h h1).mono ?_
  rintro e w' ⟨rfl, hc, ho⟩
  exact ⟨_, _, rfl, hc, ho⟩

section
variable {w : World} {b : Nat} {l : List Nat} {n r m : Nat} {ms zs cs : Array Value} {W : World}
theorem CfS.next (h : CfS w b l n r m ms zs cs W) {k : Int} (hk : k ≤ 9223372036854775807) :
    Calls Try.prog 37 #[.pointer (some ⟨b, 0, none⟩), .int .i64 k] W fun e w' => ∃ v : Int, e = .returned (.int .i64 v) ∧ CfS w b l n r m ms zs cs w' := by
  obtain ⟨j, hc⟩ := h.a.cd
  refine (next0_ex _ _ _ _ _ hc hk).mono ?_
  rintro e w' ⟨v, j', rfl, hc', ho⟩
  exact ⟨v, rfl, h.only ho hc'⟩
theorem CfS.range (h : CfS w b l n r m ms zs cs W) {lo hi : Int} (hl : lo ≤ hi) (h1 : -4611686018427387904 ≤ lo) (h4 : hi ≤ 4611686018427387900) :
    Calls Try.prog 38 #[.pointer (some ⟨b, 0, none⟩), .int .i64 lo, .int .i64 hi] W fun e w' => ∃ v : Int, lo ≤ v ∧ v ≤ hi ∧ e = .returned (.int .i64 v) ∧ CfS w b l n r m ms zs cs w' := by
  obtain ⟨j, hc⟩ := h.a.cd
  refine (range_ex _ _ _ _ _ _ hc hl h1 h4).mono ?_
  rintro e w' ⟨v, j', rfl, a, b, hc', ho⟩
  exact ⟨v, a, b, rfl, h.only ho hc'⟩
theorem CfS.road (h : CfS w b l n r m ms zs cs W) (f t : Int) :
    Calls Try.prog 35 #[.pointer (some ⟨b, 0, none⟩), .int .i64 f, .int .i64 t] W fun e w' => ∃ (x0 x1 x2 x3 : Int) (x4 x5 : Bool) (x6 x7 x8 x9 : Int), e = .returned (.agg #[.int .i64 x0, .int .i64 x1, .int .i64 x2, .int .i64 x3, .bool x4, .bool x5, .int .i64 x6, .int .i64 x7, .int .i64 x8, .int .i64 x9]) ∧ CfS w b l n r m ms zs cs w' := by
  obtain ⟨j, hc⟩ := h.a.cd
  refine (road_any _ _ _ f t _ hc).mono ?_
  rintro e w' ⟨v, rfl, _, hc', hg⟩
  exact ⟨_, _, _, _, _, _, _, _, _, _, rfl, h.call hg hc'⟩
end
end Go.Proofs.Ytbiikgkfklhohaa
