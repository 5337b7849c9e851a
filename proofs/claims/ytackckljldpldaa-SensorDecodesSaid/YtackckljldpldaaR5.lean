/- Stage 5, the document's Raw. -/
import Derived.Test.YtackckljldpldaaV5
namespace Go.Proofs.Ytackckljldpldaa
open Go.RowKit
attribute [local go_sem ↓] Go.wp_at_zero Go.wp_at_succ

def hitSn (s : Sn) (v r : Int) : Bool := decide (valSn s r ≠ nothingSp) && decide ((valSn s r).1 ≤ v) && decide (v ≤ (valSn s r).2)
def rawFrom (s : Sn) (v : Int) : Nat → Int → Int × Bool
  | 0, _ => (0, false)
  | k + 1, r => if hitSn s v r then (r, true) else rawFrom s v k (r + 1)
def rawSn (s : Sn) (v : Int) : Int × Bool := rawFrom s v 65536 0

set_option maxRecDepth 100000 in
set_option maxHeartbeats 8000000 in
theorem refRaw_any (s : Sn) (v : Int) (w : World) :
    Calls Try.prog 28 #[.agg (senL s).toArray, .int .i64 v] w fun e w' => e = .returned (.tuple #[.int .i64 (rawSn s v).1, .bool (rawSn s v).2]) ∧ w.grownBy w' none := by
  have k0 := Bk.new w (senL s).toArray 24
  have g0 := gb_alloc (gb_refl w none) (.cells (senL s).toArray 24)
  obtain ⟨rr, hrr⟩ : ∃ rr, rawSn s v = rr := ⟨_, rfl⟩
  rw [hrr]
  have HRR := Lib.hid hrr
  have HK := Lib.hid k0
  have HG := Lib.hid g0
  have HV := Lib.hid (refVal_any s)
  clear hrr k0 g0
  unfold senL at HK HG HV ⊢
  go_enter Try.func28, Try.ntmps28
  go_upto_region 1 with fail
  generalize w.alloc _ = W1 at *
  go_wp2_with fail
  go_loopw [6] (fun i wr => ∃ j : Nat, j ≤ 65536 ∧ i = .int .i64 j ∧ rawSn s v = rawFrom s v (65536 - j) j ∧ W1.grownBy wr none) (fun i _ => 65536 - (intOf i).toNat)
  case atStart => exact ⟨0, by omega, rfl, rfl, gb_refl _ _⟩
  case round =>
    obtain ⟨j, hj, rfl, he, hg⟩ := hrel
    have HE := Lib.hid he
    have k1 := HK.out.of hg (by simp)
    have HG1 := Lib.hid (gb_none HG.out hg)
    have HGr := Lib.hid hg
    clear he hg
    by_cases hj2 : j ≤ 65535
    · have j1 : (j : Int) ≤ 65535 := by omega
      have k1c := k1.cell
      clear k1
      go_wp2_with fail
      refine (HV.out (j : Int) _ (by omega) (by omega)).mono ?_
      rintro e w3 ⟨rfl, hg3⟩
      obtain ⟨p, hp⟩ : ∃ p, valSn s (j : Int) = p := ⟨_, rfl⟩
      obtain ⟨x, y⟩ := p
      have hh : hitSn s v j = (decide ((x, y) ≠ nothingSp) && decide (x ≤ v) && decide (v ≤ y)) := by unfold hitSn; rw [hp]
      rw [hp]
      dsimp only
      have HH := Lib.hid hh
      clear hp hh k1c
      have g4 := gb_alloc (gb_refl w3 none) (.cells #[.int .i64 x, .int .i64 y] 29)
      have k4 := Bk.new w3 #[.int .i64 x, .int .i64 y] 29
      have HG4 := Lib.hid (gb_none (gb_none HGr.out hg3) g4)
      clear hg3 g4
      go_upto_region 5 with fail
      generalize w3.alloc _ = w4 at *
      generalize w3.heap.size = n4 at *
      have KD := Lib.hid (k4.of (gb_drew (gb_refl w4 none)) (by simp))
      have HGD := Lib.hid (gb_drew HG4.out)
      have e0 : w4.drew.cell? ⟨n4, 0, none⟩ = some (.int .i64 x) := KD.out.cell 0
      have e1 : w4.drew.cell? ⟨n4, 1, none⟩ = some (.int .i64 y) := KD.out.cell 1
      go_cut [29] from 15 to 29 (fun t wx => t = .bool (hitSn s v j) ∧ W1.grownBy wx none)
      case first =>
        obtain ⟨na, nb, hno⟩ : ∃ a b, nothingSp = (a, b) := ⟨_, _, rfl⟩
        have PN := Lib.hid (fun w => nothing_any w)
        rw [hno] at PN HH
        dsimp only at PN
        clear hno
        by_cases c1 : x = na
        · subst c1
          have c1' : (x == x) = true := by simp
          by_cases c3 : y = nb
          · subst c3
            have c3' : (y == y) = true := by simp
            first
            | (go_region_with (first | (go_at_call 43; refine (PN.out _).mono ?_; rintro e w5 ⟨rfl, hg5⟩; have K5 := KD.out.of hg5 (by simp); have f0 : w5.cell? ⟨n4, 0, none⟩ = some (.int .i64 x) := K5.cell 0; have f1 : w5.cell? ⟨n4, 1, none⟩ = some (.int .i64 y) := K5.cell 1; have HG5 := Lib.hid (gb_none HGD.out hg5); clear hg5) | fail))
            | fail "held"
            all_goals go_wp2_with fail
            all_goals go_meet
            all_goals exact ⟨congrArg Value.bool (by rw [HH.out, Bool.eq_iff_iff]; simp), HG5.out⟩
          · have c3' : (y == nb) = false := beq_false_of_ne c3
            by_cases c2 : x ≤ v
            · have c2' : decide (x ≤ v) = true := by simpa using c2
              first
              | (go_region_with (first | (go_at_call 43; refine (PN.out _).mono ?_; rintro e w5 ⟨rfl, hg5⟩; have K5 := KD.out.of hg5 (by simp); have f0 : w5.cell? ⟨n4, 0, none⟩ = some (.int .i64 x) := K5.cell 0; have f1 : w5.cell? ⟨n4, 1, none⟩ = some (.int .i64 y) := K5.cell 1; have HG5 := Lib.hid (gb_none HGD.out hg5); clear hg5) | fail))
              | fail "held"
              all_goals go_wp2_with fail
              all_goals go_meet
              all_goals exact ⟨congrArg Value.bool (by rw [HH.out, Bool.eq_iff_iff]; simp [c3]; omega), HG5.out⟩
            · have c2' : decide (x ≤ v) = false := by simpa using c2
              first
              | (go_region_with (first | (go_at_call 43; refine (PN.out _).mono ?_; rintro e w5 ⟨rfl, hg5⟩; have K5 := KD.out.of hg5 (by simp); have f0 : w5.cell? ⟨n4, 0, none⟩ = some (.int .i64 x) := K5.cell 0; have f1 : w5.cell? ⟨n4, 1, none⟩ = some (.int .i64 y) := K5.cell 1; have HG5 := Lib.hid (gb_none HGD.out hg5); clear hg5) | fail))
              | fail "held"
              all_goals go_wp2_with fail
              all_goals go_meet
              all_goals exact ⟨congrArg Value.bool (by rw [HH.out, Bool.eq_iff_iff]; simp [c3]; omega), HG5.out⟩
        · have c1' : (x == na) = false := beq_false_of_ne c1
          by_cases c2 : x ≤ v
          · have c2' : decide (x ≤ v) = true := by simpa using c2
            first
            | (go_region_with (first | (go_at_call 43; refine (PN.out _).mono ?_; rintro e w5 ⟨rfl, hg5⟩; have K5 := KD.out.of hg5 (by simp); have f0 : w5.cell? ⟨n4, 0, none⟩ = some (.int .i64 x) := K5.cell 0; have f1 : w5.cell? ⟨n4, 1, none⟩ = some (.int .i64 y) := K5.cell 1; have HG5 := Lib.hid (gb_none HGD.out hg5); clear hg5) | fail))
            | fail "held"
            all_goals go_wp2_with fail
            all_goals go_meet
            all_goals exact ⟨congrArg Value.bool (by rw [HH.out, Bool.eq_iff_iff]; simp [c1]; omega), HG5.out⟩
          · have c2' : decide (x ≤ v) = false := by simpa using c2
            first
            | (go_region_with (first | (go_at_call 43; refine (PN.out _).mono ?_; rintro e w5 ⟨rfl, hg5⟩; have K5 := KD.out.of hg5 (by simp); have f0 : w5.cell? ⟨n4, 0, none⟩ = some (.int .i64 x) := K5.cell 0; have f1 : w5.cell? ⟨n4, 1, none⟩ = some (.int .i64 y) := K5.cell 1; have HG5 := Lib.hid (gb_none HGD.out hg5); clear hg5) | fail))
            | fail "held"
            all_goals go_wp2_with fail
            all_goals go_meet
            all_goals exact ⟨congrArg Value.bool (by rw [HH.out, Bool.eq_iff_iff]; simp [c1]; omega), HG5.out⟩
      case rest =>
        obtain ⟨rfl, hgc⟩ := hcut
        have HGc := Lib.hid hgc
        have HGe := Lib.hid (gb_none HG.out hgc)
        clear hgc e0 e1
        rcases hb : hitSn s v (j : Int) with _ | _
        · have HE2 := Lib.hid (show rawSn s v = rawFrom s v (65536 - (j + 1)) ((j + 1 : Nat) : Int) by
            rw [HE.out, show 65536 - j = (65536 - (j + 1)) + 1 by omega, rawFrom, hb]
            simp)
          go_wp2_with fail
          exact ⟨⟨j + 1, by omega, by go_num, HE2.out, HGc.out⟩, by simp [intOf]; omega⟩
        · have HE2 := Lib.hid (show rr = ((j : Int), true) by
            rw [← HRR.out, HE.out, show 65536 - j = (65536 - (j + 1)) + 1 by omega, rawFrom, hb]
            simp)
          have he2 := HE2.out
          subst he2
          go_wp2_with fail
          refine bodyPost_ret (v := .tuple #[.int .i64 j, .bool true]) (by simp [results, Try.results28, go_sem]) rfl ?_
          exact ⟨rfl, HGe.out⟩
    · obtain rfl : j = 65536 := by omega
      have he2 : rr = (0, false) := by rw [← HRR.out, HE.out]; rfl
      subst he2
      clear k1
      go_wp2_with fail
      refine bodyPost_ret (v := .tuple #[.int .i64 0, .bool false]) (by simp [results, Try.results28, go_sem]) rfl ?_
      exact ⟨rfl, HG1.out⟩
end Go.Proofs.Ytackckljldpldaa
