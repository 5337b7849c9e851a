/- Same: two mines that hold the same. -/
import Derived.Test.YtbiikgkfklhohaaAp
import Derived.Deep.QuietTactic
import Derived.BigQuiet
namespace Go.Proofs.Ytbiikgkfklhohaa
open Go.RowKit
attribute [local go_sem ↓] Go.wp_at_zero Go.wp_at_succ

/-- The element k of a slice, in a world. -/
theorem sl_at {w : World} {a : Option Addr} {n sz : Nat} {xs : List Value} (hc : n = 0 ∨ ∃ g off, a = some ⟨g, off, none⟩ ∧ ∀ j, j < n * sz → w.cell? ⟨g, off + j, none⟩ = some (xs.getD j undef)) {k : Nat} (hk : k < n) :
    ∃ g off, a = some ⟨g, off, none⟩ ∧ ∀ j, j < n * sz → w.cell? ⟨g, off + j, none⟩ = some (xs.getD j undef) := by
  rcases hc with h | h
  · omega
  · exact h

set_option maxRecDepth 100000 in
set_option maxHeartbeats 4000000 in
theorem same_any (v v' : Value) (m : Mn) (w : World) (h : MnV w v m) (h' : MnV w v' m) :
    Calls Try.prog 20 #[v, v'] w fun e w' => e = .returned (.bool true) ∧ Below w.heap.size w w' := by
  obtain ⟨_, _, rfl, hp, hr⟩ := h
  obtain ⟨pa, pc, rfl, pc1, pc2, hpc⟩ := hp.shape
  obtain ⟨ra, rc, rfl, rc1, rc2, hrc⟩ := hr.shape
  obtain ⟨_, _, rfl, hp', hr'⟩ := h'
  obtain ⟨pa', pc', rfl, pc1', pc2', hpc'⟩ := hp'.shape
  obtain ⟨ra', rc', rfl, rc1', rc2', hrc'⟩ := hr'.shape
  have k1 := Bk.new w #[.slice pa m.ps.length pc, .slice ra m.rs.length rc] 26
  have g1 := gb_alloc (gb_refl w none) (.cells #[.slice pa m.ps.length pc, .slice ra m.rs.length rc] 26)
  have k2 := Bk.new (w.alloc (.cells #[.slice pa m.ps.length pc, .slice ra m.rs.length rc] 26)) #[.slice pa' m.ps.length pc', .slice ra' m.rs.length rc'] 26
  have g2 := gb_alloc (gb_refl (w.alloc (.cells #[.slice pa m.ps.length pc, .slice ra m.rs.length rc] 26)) none) (.cells #[.slice pa' m.ps.length pc', .slice ra' m.rs.length rc'] 26)
  replace k1 := k1.of g2 (by simp)
  rw [World.size_alloc] at k2
  have B := gb_to (gb_none g1 g2) (Nat.le_refl _) (by simp)
  clear g1 g2 hp hr hp' hr'
  have HP := Lib.hid hpc
  have HR := Lib.hid hrc
  have HP' := Lib.hid hpc'
  have HR' := Lib.hid hrc'
  have HB := Lib.hid B
  clear hpc hrc hpc' hrc' B
  unfold maxLen at pc2 rc2 pc2' rc2'
  go_enter Try.func20, Try.ntmps20
  go_wp2_with fail
  generalize hW : (w.alloc _).alloc _ = W1 at k1 k2 HB ⊢
  clear hW
  have HK1 := Lib.hid k1
  have HK2 := Lib.hid k2
  clear k1 k2
  go_loopw [5] (fun i w2 => ∃ k : Nat, k ≤ m.ps.length ∧ i = .int .i64 k ∧ W1.grownBy w2 none) (fun i _ => m.ps.length - (intOf i).toNat)
  case atStart => exact ⟨0, Nat.zero_le _, rfl, gb_refl _ _⟩
  case round =>
    obtain ⟨k, hk, rfl, hb⟩ := hrel
    have k1 := (HK1.out.of hb (by simp)).cell
    have k2 := (HK2.out.of hb (by simp)).cell
    have HG := Lib.hid hb
    have hbw : Below w.heap.size w wr := HB.out.trans (gb_to hb (by have := HB.out.size; exact this) (by simp))
    by_cases hlt : k < m.ps.length
    · obtain ⟨g, off, rfl, hc⟩ := sl_at HP.out hlt
      obtain ⟨g', off', rfl, hc'⟩ := sl_at HP'.out hlt
      obtain ⟨e0, e1⟩ := pl_cells hc k hlt
      obtain ⟨f0, f1⟩ := pl_cells hc' k hlt
      replace e0 := cellv hbw e0
      replace e1 := cellv hbw e1
      replace f0 := cellv hbw f0
      replace f1 := cellv hbw f1
      clear hc hc' hb hbw
      generalize m.ps.getD k ⟨0, false⟩ = p at *
      obtain ⟨ph, pb⟩ := p
      dsimp only at *
      go_wp2_with fail
      go_quiet (fail)
      go_wp2_with fail
      go_roundw
      case rel => exact ⟨k + 1, by omega, by go_num, gb_drewN HG.out _⟩
      case measure => simp [intOf]; omega
    · have HB2 := Lib.hid hbw
      have K1 := Lib.hid (HK1.out.of hb (by simp))
      have K2 := Lib.hid (HK2.out.of hb (by simp))
      clear hb hbw HK1 HK2 HG HB
      go_wp2_with fail
      clear hlt k1 k2
      go_loopw [6] (fun i w2 => ∃ k : Nat, k ≤ m.rs.length ∧ i = .int .i64 k ∧ wr.grownBy w2 none) (fun i _ => m.rs.length - (intOf i).toNat)
      case atStart => exact ⟨0, Nat.zero_le _, rfl, gb_refl _ _⟩
      case round =>
        obtain ⟨k, hk, rfl, hb⟩ := hrel
        have k1 := (K1.out.of hb (by simp)).cell
        have k2 := (K2.out.of hb (by simp)).cell
        have HG := Lib.hid hb
        have hbw := HB2.out.trans (gb_to hb (by have := HB2.out.size; exact this) (by simp))
        by_cases hlt : k < m.rs.length
        · obtain ⟨g, off, rfl, hc⟩ := sl_at HR.out hlt
          obtain ⟨g', off', rfl, hc'⟩ := sl_at HR'.out hlt
          obtain ⟨e0, e1, e2, e3, e4, e5, e6, e7, e8, e9⟩ := rd_cells hc k hlt
          obtain ⟨f0, f1, f2, f3, f4, f5, f6, f7, f8, f9⟩ := rd_cells hc' k hlt
          replace e0 := cellv hbw e0
          replace e1 := cellv hbw e1
          replace e2 := cellv hbw e2
          replace e3 := cellv hbw e3
          replace e4 := cellv hbw e4
          replace e5 := cellv hbw e5
          replace e6 := cellv hbw e6
          replace e7 := cellv hbw e7
          replace e8 := cellv hbw e8
          replace e9 := cellv hbw e9
          replace f0 := cellv hbw f0
          replace f1 := cellv hbw f1
          replace f2 := cellv hbw f2
          replace f3 := cellv hbw f3
          replace f4 := cellv hbw f4
          replace f5 := cellv hbw f5
          replace f6 := cellv hbw f6
          replace f7 := cellv hbw f7
          replace f8 := cellv hbw f8
          replace f9 := cellv hbw f9
          clear hc hc' hb hbw
          generalize m.rs.getD k rd0 = r at *
          obtain ⟨rf, rt, rlen, rarea, rwalk, rclosed, ⟨r1, r2⟩, ⟨r3, r4⟩⟩ := r
          dsimp only at *
          go_wp2_with fail
          go_quiet (fail)
          go_wp2_with fail
          go_roundw
          case rel => exact ⟨k + 1, by omega, by go_num, gb_drewN HG.out _⟩
          case measure => simp [intOf]; omega
        · have HB3 := Lib.hid hbw
          clear hb hbw K1 K2 HG HB2
          go_wp2_with fail
          go_ret
          exact ⟨rfl, HB3.out⟩
end Go.Proofs.Ytbiikgkfklhohaa
