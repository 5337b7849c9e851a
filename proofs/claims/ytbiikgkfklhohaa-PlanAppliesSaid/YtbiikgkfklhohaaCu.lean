/- CutOff, Ints and the sanity check. -/
import Derived.Test.YtbiikgkfklhohaaPr
namespace Go.Proofs.Ytbiikgkfklhohaa
open Go.RowKit
attribute [local go_sem ↓] Go.wp_at_zero Go.wp_at_succ

theorem MnV.places {W : World} {rv : Value} {pa : Option Addr} {pc : Nat} {c : Bool} (h : MnV W (.agg #[.slice pa 2 pc, rv]) (aMn c)) :
    ∃ g off, pa = some ⟨g, off, none⟩ ∧ W.cell? ⟨g, off + 1, none⟩ = some (.bool true) ∧ W.cell? ⟨g, off + 3, none⟩ = some (.bool false) := by
  obtain ⟨x, y, hv, hp, _⟩ := h
  injection hv with hv
  simp at hv
  obtain ⟨rfl, rfl⟩ := hv
  obtain ⟨a, cap, he, _, _, hx⟩ := hp.shape
  injection he with he1 he2
  rcases hx with hx | ⟨g, off, ha, hc⟩
  · simp [aMn] at hx
  · exact ⟨g, off, by rw [he1, ha], hc 1 (by simp [aMn]), hc 3 (by simp [aMn])⟩

/-- The closure's variable: the box of the mine. -/
def Sf (n1 : Nat) (w : World) : Prop := ∃ g off pc, w.cell? ⟨n1, 0, none⟩ = some (.slice (some ⟨g, off, none⟩) 2 pc) ∧ 2 ≤ pc ∧ w.cell? ⟨g, off + 1, none⟩ = some (.bool true) ∧ w.cell? ⟨g, off + 3, none⟩ = some (.bool false)

set_option maxHeartbeats 1000000 in
theorem surf_a (n1 : Nat) (z : Int) (b : Bool) (w : World) (h : Sf n1 w) (hz : (z = 0 ∧ b = true) ∨ (z = 1 ∧ b = false)) :
    Calls Try.prog 47 #[.int .i64 z, .pointer (some ⟨n1, 0, none⟩)] w fun e w' => e = .returned (.bool b) ∧ w = w' := by
  obtain ⟨g, off, pc, h0, _, h1, h2⟩ := h
  rcases hz with ⟨rfl, rfl⟩ | ⟨rfl, rfl⟩
  all_goals
    go_enter Try.func47, Try.ntmps47
    go_wp2
    go_ret
    exact ⟨rfl, rfl⟩

set_option maxHeartbeats 1000000 in
theorem idx_yes (n1 g n cap : Nat) (w : World) (h : Sf n1 w) (hn : 1 ≤ n) (hm : n ≤ 2) (hc : w.cell? ⟨g, 0, none⟩ = some (.int .i64 0)) :
    Calls Try.prog 56 #[.slice (some ⟨g, 0, none⟩) n cap, .func (.func 47) #[] #[.pointer (some ⟨n1, 0, none⟩)]] w fun e w' => e = .returned (.int .i64 0) ∧ w = w' := by
  have hz : (0 : Int) < (n : Int) := by omega
  go_enter Try.func56, Try.ntmps56
  go_wp2_with fail
  refine wp_loop_rounds 1 ?_
  rw [rounds_succ]
  go_wp2_with (go_at_call 47; refine (surf_a n1 0 true _ h (.inl ⟨rfl, rfl⟩)).mono ?_; rintro e w' ⟨rfl, rfl⟩)
  go_ret
  exact ⟨rfl, rfl⟩
set_option maxHeartbeats 1000000 in
theorem idx_no (n1 g cap : Nat) (w : World) (h : Sf n1 w) (hc : w.cell? ⟨g, 0, none⟩ = some (.int .i64 1)) :
    Calls Try.prog 56 #[.slice (some ⟨g, 0, none⟩) 1 cap, .func (.func 47) #[] #[.pointer (some ⟨n1, 0, none⟩)]] w fun e w' => e = .returned (.int .i64 (-1)) ∧ w = w' := by
  go_enter Try.func56, Try.ntmps56
  go_wp2_with fail
  refine wp_loop_rounds 2 ?_
  rw [rounds_succ]
  go_wp2_with (go_at_call 47; refine (surf_a n1 1 false _ h (.inr ⟨rfl, rfl⟩)).mono ?_; rintro e w' ⟨rfl, rfl⟩)
  rw [rounds_succ]
  go_wp2_with fail
  go_ret
  exact ⟨rfl, rfl⟩
set_option maxHeartbeats 1000000 in
theorem has_yes (n1 g n cap : Nat) (w : World) (h : Sf n1 w) (hn : 1 ≤ n) (hm : n ≤ 2) (hc : w.cell? ⟨g, 0, none⟩ = some (.int .i64 0)) :
    Calls Try.prog 48 #[.slice (some ⟨g, 0, none⟩) n cap, .func (.func 47) #[] #[.pointer (some ⟨n1, 0, none⟩)]] w fun e w' => e = .returned (.bool true) ∧ w = w' := by
  go_enter Try.func48, Try.ntmps48
  go_wp2_with (go_at_call 56; refine (idx_yes n1 g n cap _ h hn hm hc).mono ?_; rintro e w' ⟨rfl, rfl⟩)
  go_ret
  exact ⟨rfl, rfl⟩
set_option maxHeartbeats 1000000 in
theorem has_no (n1 g cap : Nat) (w : World) (h : Sf n1 w) (hc : w.cell? ⟨g, 0, none⟩ = some (.int .i64 1)) :
    Calls Try.prog 48 #[.slice (some ⟨g, 0, none⟩) 1 cap, .func (.func 47) #[] #[.pointer (some ⟨n1, 0, none⟩)]] w fun e w' => e = .returned (.bool false) ∧ w = w' := by
  go_enter Try.func48, Try.ntmps48
  go_wp2_with (go_at_call 56; refine (idx_no n1 g cap _ h hc).mono ?_; rintro e w' ⟨rfl, rfl⟩)
  go_ret
  exact ⟨rfl, rfl⟩

theorem Sf.of {W : World} {pa : Option Addr} {pc : Nat} {rv : Value} {c : Bool} {n1 : Nat} (k : Bk W n1 #[.slice pa 2 pc, rv] 26) (m : MnV W (.agg #[.slice pa 2 pc, rv]) (aMn c)) (hpc : 2 ≤ pc) : Sf n1 W := by
  obtain ⟨g, off, rfl, h1, h2⟩ := m.places
  exact ⟨g, off, pc, k.cell 0, hpc, h1, h2⟩

set_option maxRecDepth 100000 in
set_option maxHeartbeats 4000000 in
theorem cutOff_open (w : World) (pa : Option Addr) (pc : Nat) (ra : Option Addr) (rc : Nat) (hm : MnV w (.agg #[.slice pa 2 pc, .slice ra 1 rc]) (aMn false)) (hpc : 2 ≤ pc) :
    Calls Try.prog 29 #[.agg #[.slice pa 2 pc, .slice ra 1 rc]] w fun e w' => e = .returned (.slice none 0 0) ∧ w.grownBy w' none := by
  have hmf : ∀ (fn : Fn) (first cap : Array Value) (w : World), (Instr.makeFunc fn first cap).run Try.prog w = .ok (.func fn first cap) w := fun _ _ _ _ => rfl
  have HM := Lib.hid hm
  clear hm
  go_enter Try.func29, Try.ntmps29
  go_wp2_with fail
  have k1 := Bk.new w #[.slice pa 2 pc, .slice ra 1 rc] 26
  have g1 := gb_alloc (gb_refl w none) (.cells #[.slice pa 2 pc, .slice ra 1 rc] 26)
  generalize w.alloc _ = W1 at *
  refine (parts_open W1 pa pc ra rc (HM.out.by_ g1)).mono ?_
  rintro e w2 ⟨gp, capp, l0, rfl, p0, o0, g2⟩
  have k2 := k1.of g2 (by simp)
  have g2 := gb_none g1 g2
  have sf := Sf.of k2 (HM.out.by_ g2) hpc
  obtain ⟨ga, capa, hv, y1, hl, y2, y3⟩ := own_open o0 (by decide)
  subst hv
  have q0 : w2.cell? ⟨ga, 0, none⟩ = some (.int .i64 0) := hl 0 (by decide)
  have HSf := Lib.hid sf
  have HG := Lib.hid g2
  clear k1 g1 k2 g2 o0 y1 y2 y3 hl sf
  go_wp2_with fail
  refine wp_loop_rounds 2 ?_
  rw [rounds_succ]
  go_wp2_with (go_at_call 48; refine (has_yes _ ga 2 capa _ HSf.out (by omega) (by omega) q0).mono ?_; rintro e w' ⟨rfl, rfl⟩)
  rw [rounds_succ]
  go_wp2_with (go_at_call 49; refine (sort_short _ _ _ _ (by omega)).mono ?_; rintro e w4 ⟨rfl, rfl⟩)
  go_ret
  exact ⟨rfl, HG.out⟩

set_option maxRecDepth 100000 in
set_option maxHeartbeats 4000000 in
theorem cutOff_closed (w : World) (pa : Option Addr) (pc : Nat) (ra : Option Addr) (rc : Nat) (hm : MnV w (.agg #[.slice pa 2 pc, .slice ra 1 rc]) (aMn true)) (hpc : 2 ≤ pc) :
    Calls Try.prog 29 #[.agg #[.slice pa 2 pc, .slice ra 1 rc]] w fun e w' => ∃ g cap, e = .returned (.slice (some ⟨g, 0, none⟩) 1 cap) ∧ w'.cell? ⟨g, 0, none⟩ = some (.int .i64 1) ∧ w.grownBy w' none := by
  obtain ⟨ii, hii, hii1, hii2, hii3⟩ := info_parts Try.infoInt
  have hmf : ∀ (fn : Fn) (first cap : Array Value) (w : World), (Instr.makeFunc fn first cap).run Try.prog w = .ok (.func fn first cap) w := fun _ _ _ _ => rfl
  have HM := Lib.hid hm
  clear hm
  go_enter Try.func29, Try.ntmps29
  go_wp2_with fail
  have k1 := Bk.new w #[.slice pa 2 pc, .slice ra 1 rc] 26
  have g1 := gb_alloc (gb_refl w none) (.cells #[.slice pa 2 pc, .slice ra 1 rc] 26)
  generalize w.alloc _ = W1 at *
  refine (parts_closed W1 pa pc ra rc (HM.out.by_ g1)).mono ?_
  rintro e w2 ⟨gp, capp, l0, l1, rfl, p0, p1, o0, o1, g2⟩
  have k2 := k1.of g2 (by simp)
  have g2 := gb_none g1 g2
  have sf := Sf.of k2 (HM.out.by_ g2) hpc
  obtain ⟨ga, capa, hv, y1, hl, y2, y3⟩ := own_open o0 (by decide)
  subst hv
  have q0 : w2.cell? ⟨ga, 0, none⟩ = some (.int .i64 0) := hl 0 (by decide)
  clear hl y1 y2 y3
  obtain ⟨gb, capb, hv, y1, hl, y2, y3⟩ := own_open o1 (by decide)
  subst hv
  have q1 : w2.cell? ⟨gb, 0, none⟩ = some (.int .i64 1) := hl 0 (by decide)
  have HSf := Lib.hid sf
  have HG := Lib.hid g2
  have HO := Lib.hid o1
  have hz : w.heap.size ≤ w2.heap.size := g2.size
  clear k1 g1 k2 g2 o0 o1 y1 y2 y3 hl sf
  go_wp2_with fail
  refine wp_loop_rounds 3 ?_
  rw [rounds_succ]
  go_wp2_with (go_at_call 48; refine (has_yes _ ga 1 capa _ HSf.out (by omega) (by omega) q0).mono ?_; rintro e w' ⟨rfl, rfl⟩)
  rw [rounds_succ]
  go_wp2_with (first
    | (go_at_call 48; refine (has_no _ gb capb _ HSf.out q1).mono ?_; rintro e w' ⟨rfl, rfl⟩)
    | (at_builtin; go_loud (refine wpList_app _ rfl _ _ 56 rfl w.heap.size 3 ii _ 1 8 Try.underlying56 hii hii1 hii2 hii3 rfl (by omega) (.slice none 0 0) 0 [] rfl (World.ownsRow_nil _ _ _ _) (.slice (some ⟨gb, 0, none⟩) 1 capb) 1 (ints [1]) rfl (own_sl HO.out) (ints_one _) (by simp [maxLen]) (by omega) hz ?_); intro v3 w3 hown hgrow))
  have hG3 := gb_none HG.out hgrow
  simp only [Nat.zero_add, List.nil_append] at hown
  obtain ⟨gc, capc, hv, y1, hl, y2, y3⟩ := own_open hown (by decide)
  subst hv
  have q3 : w3.cell? ⟨gc, 0, none⟩ = some (.int .i64 1) := hl 0 (by decide)
  clear hown hgrow y1 y2 y3 hl
  rw [rounds_succ]
  go_wp2_with (go_at_call 49; refine (sort_short _ _ _ _ (by omega)).mono ?_; rintro e w4 ⟨rfl, rfl⟩)
  go_ret
  exact ⟨_, _, rfl, q3, hG3⟩
end Go.Proofs.Ytbiikgkfklhohaa
