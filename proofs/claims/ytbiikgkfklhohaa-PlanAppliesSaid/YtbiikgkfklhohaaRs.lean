/- Roads, Other. -/
import Derived.Test.YtbiikgkfklhohaaAy
namespace Go.Proofs.Ytbiikgkfklhohaa
open Go.RowKit

theorem Try.infoInt : (Try.prog.info? 3).map (fun i => (i.zero, i.size, i.bytes)) = some (some (.int .i64 0), 1, 8) := by kernel_rfl

def ints (l : List Nat) : List Value := l.map fun (i : Nat) => Value.int .i64 (i : Int)
theorem ints_one (l : List Nat) : ∀ u ∈ ints l, u.oneCell' = true := by
  intro u hu
  obtain ⟨i, _, rfl⟩ := List.mem_map.1 hu
  rfl
theorem ints_len (l : List Nat) : (ints l).length = l.length * 1 := by simp [ints]
theorem ints_get (l : List Nat) (k : Nat) (hk : k < l.length) : (ints l).getD k undef = .int .i64 (l.getD k 0 : Nat) := by
  simp [ints, List.getD_eq_getElem?_getD, List.getElem?_map, List.getElem?_eq_getElem hk]

def hit (p : Int) (rs : List Rd) (i : Nat) : Bool := (rs.getD i rd0).f == p || (rs.getD i rd0).t == p
def rdIx (p : Int) (rs : List Rd) (k : Nat) : List Nat := (List.range k).filter (hit p rs)
theorem rdIx_yes {p : Int} {rs : List Rd} {k : Nat} (h : hit p rs k = true) : rdIx p rs (k + 1) = rdIx p rs k ++ [k] := by
  simp [rdIx, List.range_succ, List.filter_append, h]
theorem rdIx_no {p : Int} {rs : List Rd} {k : Nat} (h : hit p rs k = false) : rdIx p rs (k + 1) = rdIx p rs k := by
  simp [rdIx, List.range_succ, List.filter_append, h]
theorem rdIx_len (p : Int) (rs : List Rd) (k : Nat) : (rdIx p rs k).length ≤ k := by
  have := List.length_filter_le (hit p rs) (List.range k)
  simpa [rdIx] using this

set_option maxRecDepth 100000 in
set_option maxHeartbeats 4000000 in
theorem roads_any (v : Value) (m : Mn) (p : Int) (w : World) (h : MnV w v m) (hn : m.rs.length ≤ 100000) :
    Calls Try.prog 25 #[v, .int .i64 p] w fun e w' => ∃ v', e = .returned v' ∧ w'.ownsRow w.heap.size 3 1 v' (rdIx p m.rs m.rs.length).length (ints (rdIx p m.rs m.rs.length)) ∧ w.grownBy w' none := by
  obtain ⟨a, b, rfl, hp, hr⟩ := h
  obtain ⟨pa, pc, rfl, pc1, pc2, hpc⟩ := hp.shape
  obtain ⟨ra, rc, rfl, rc1, rc2, hrc⟩ := hr.shape
  obtain ⟨ii, hii, hii1, hii2, hii3⟩ := info_parts Try.infoInt
  have HR := Lib.hid hrc
  have hB := gb_alloc (gb_refl w none) (.cells #[.slice pa m.ps.length pc, .slice ra m.rs.length rc] 26)
  clear hpc hrc hp hr
  unfold maxLen at rc2
  have hz : (m.rs.length : Int) ≤ 100000 := by omega
  go_enter Try.func25, Try.ntmps25
  go_wp2_with fail
  generalize w.alloc _ = W1 at *
  have HB := Lib.hid hB
  clear hB
  go_loopw [5, 11] (fun o i wr => ∃ k : Nat, k ≤ m.rs.length ∧ i = .int .i64 k ∧ wr.ownsRow w.heap.size 3 1 o (rdIx p m.rs k).length (ints (rdIx p m.rs k)) ∧ w.grownBy wr none) (fun _ i _ => m.rs.length - (intOf i).toNat)
  case atStart => exact ⟨0, Nat.zero_le _, rfl, (by have := World.ownsRow_nil W1 w.heap.size 3 1; simpa [rdIx, ints] using this), HB.out⟩
  case round =>
    obtain ⟨k, hk, rfl, hown, hg⟩ := hrel
    have hO := Lib.hid hown
    have hG := Lib.hid hg
    obtain ⟨oa, oc, rfl⟩ := own_slc hown
    clear hown hg
    by_cases hlt : k < m.rs.length
    · obtain ⟨g, off, rfl, hc⟩ : ∃ g off, ra = some ⟨g, off, none⟩ ∧ ∀ j, j < m.rs.length * 10 → w.cell? ⟨g, off + j, none⟩ = some ((m.rs.flatMap Rd.cells).getD j undef) := by
        rcases HR.out with h | h
        · omega
        · exact h
      have hbw := gb_to hG.out (Nat.le_refl _) (by simp)
      obtain ⟨e0, e1, e2, e3, e4, e5, e6, e7, e8, e9⟩ := rd_cells hc k hlt
      have e0 := cellv hbw e0
      have e1 := cellv hbw e1
      have e2 := cellv hbw e2
      have e3 := cellv hbw e3
      have e4 := cellv hbw e4
      have e5 := cellv hbw e5
      have e6 := cellv hbw e6
      have e7 := cellv hbw e7
      have e8 := cellv hbw e8
      have e9 := cellv hbw e9
      clear hc hbw
      have hh : hit p m.rs k = ((m.rs.getD k rd0).f == p || (m.rs.getD k rd0).t == p) := rfl
      generalize m.rs.getD k rd0 = r at *
      obtain ⟨rf, rt, rlen, rarea, rwalk, rclosed, ⟨r1, r2⟩, ⟨r3, r4⟩⟩ := r
      dsimp only at *
      have hlen := rdIx_len p m.rs k
      by_cases hyes : hit p m.rs k = true
      · have HY := Lib.hid hyes
        rw [hyes] at hh
        clear hyes
        have hsz : w.heap.size ≤ wr.heap.size := hG.out.size
        rcases q1 : (rf == p) with _ | _
        · rw [q1] at hh
          have q2 : (rt == p) = true := by simpa using hh.symm
          clear hh
          go_wp2_with (at_builtin; go_loud (refine wpList_app _ rfl _ _ 56 rfl w.heap.size 3 ii _ 1 8 Try.underlying56 hii hii1 hii2 hii3 rfl (by omega) (.slice oa (rdIx p m.rs k).length oc) (rdIx p m.rs k).length (ints (rdIx p m.rs k)) rfl (own_by (own_by hO.out (gb_alloc (gb_refl _ none) _)) (gb_alloc (gb_refl _ none) _)) (.slice (some ⟨wr.heap.size + 1, 0, none⟩) 1 1) 1 (ints [k]) rfl (sl_new _ _ _ _ (by simp) (by simp [maxLen]) rfl) (ints_one _) (by simp [maxLen]; omega) (by omega) (by simp; omega) ?_); intro v' w4 hown hgrow)
          clear e0 e1 e2 e3 e4 e5 e6 e7 e8 e9
          go_roundw
          case rel =>
            refine ⟨k + 1, by omega, by go_num, ?_, gb_call (gb_alloc (gb_alloc hG.out _) _) hgrow (fun g e => .inr (own_base hO.out g e))⟩
            rw [rdIx_yes HY.out]
            simpa [ints] using hown
          case measure => simp [intOf]; omega
        · clear hh
          go_wp2_with (at_builtin; go_loud (refine wpList_app _ rfl _ _ 56 rfl w.heap.size 3 ii _ 1 8 Try.underlying56 hii hii1 hii2 hii3 rfl (by omega) (.slice oa (rdIx p m.rs k).length oc) (rdIx p m.rs k).length (ints (rdIx p m.rs k)) rfl (own_by (own_by hO.out (gb_alloc (gb_refl _ none) _)) (gb_alloc (gb_refl _ none) _)) (.slice (some ⟨wr.heap.size + 1, 0, none⟩) 1 1) 1 (ints [k]) rfl (sl_new _ _ _ _ (by simp) (by simp [maxLen]) rfl) (ints_one _) (by simp [maxLen]; omega) (by omega) (by simp; omega) ?_); intro v' w4 hown hgrow)
          clear e0 e1 e2 e3 e4 e5 e6 e7 e8 e9
          go_roundw
          case rel =>
            refine ⟨k + 1, by omega, by go_num, ?_, gb_call (gb_alloc (gb_alloc hG.out _) _) hgrow (fun g e => .inr (own_base hO.out g e))⟩
            rw [rdIx_yes HY.out]
            simpa [ints] using hown
          case measure => simp [intOf]; omega
      · have hno : hit p m.rs k = false := by simpa using hyes
        have HY := Lib.hid hno
        rw [hno] at hh
        clear hyes hno
        have q : (rf == p) = false ∧ (rt == p) = false := by simpa using hh.symm
        obtain ⟨q1, q2⟩ := q
        clear hh
        go_wp2_with fail
        clear e0 e1 e2 e3 e4 e5 e6 e7 e8 e9
        go_roundw
        case rel =>
          refine ⟨k + 1, by omega, by go_num, ?_, gb_alloc hG.out _⟩
          rw [rdIx_no HY.out]
          exact own_by hO.out (gb_alloc (gb_refl _ none) _)
        case measure => simp [intOf]; omega
    · have hkk : k = m.rs.length := by omega
      have HK := Lib.hid hkk
      clear hkk
      go_wp2
      go_ret
      have hO := hO.out
      rw [HK.out] at hO
      rw [HK.out]
      exact ⟨_, rfl, hO, hG.out⟩

set_option maxHeartbeats 1000000 in
/-- Other, at a road that there is. -/
theorem other_is (v : Value) (m : Mn) (k : Nat) (p : Int) (w : World) (h : MnV w v m) (hk : k < m.rs.length) :
    Calls Try.prog 27 #[v, .int .i64 k, .int .i64 p] w fun e w' => e = .returned (.int .i64 (if (m.rs.getD k rd0).f = p then (m.rs.getD k rd0).t else if (m.rs.getD k rd0).t = p then (m.rs.getD k rd0).f else -1)) ∧ Below w.heap.size w w' := by
  obtain ⟨a, b, rfl, hp, hr⟩ := h
  obtain ⟨pa, pc, rfl, pc1, pc2, hpc⟩ := hp.shape
  obtain ⟨ra, rc, rfl, rc1, rc2, hrc⟩ := hr.shape
  have hB := (Below.refl w.heap.size w).alloc (Nat.le_refl _) (.cells #[.slice pa m.ps.length pc, .slice ra m.rs.length rc] 26)
  have HM := Lib.hid (MnV.below (show MnV w (.agg #[.slice pa m.ps.length pc, .slice ra m.rs.length rc]) m from ⟨_, _, rfl, hp, hr⟩) hB)
  have HB := Lib.hid hB
  have W := Lib.hid (show wi (k : Int) 0 (m.rs.length - 1) = true by simp [wi]; omega)
  obtain ⟨g, off, rfl, hc⟩ : ∃ g off, ra = some ⟨g, off, none⟩ ∧ ∀ j, j < m.rs.length * 10 → w.cell? ⟨g, off + j, none⟩ = some ((m.rs.flatMap Rd.cells).getD j undef) := by
    rcases hrc with h | h
    · omega
    · exact h
  have hE := rd_cells hc k hk
  have hk2 : (k : Int) < (m.rs.length : Int) := by omega
  clear hpc hrc hp hr hB hc
  unfold maxLen at rc2
  generalize m.rs.getD k rd0 = r at *
  obtain ⟨rf, rt, rlen, rarea, rwalk, rclosed, ⟨r1, r2⟩, ⟨r3, r4⟩⟩ := r
  dsimp only at *
  have HE := Lib.hid hE
  clear hE
  by_cases c1 : rf = p
  · rw [if_pos c1]
    have c1b : (p == rf) = true := by simp [c1]
    clear c1
    go_enter Try.func27, Try.ntmps27
    go_wp2_with (go_at_call 46; refine (hasRoad_any _ m _ _ HM.out).mono ?_; rw [W.out]; rintro e w' ⟨rfl, hb⟩; obtain ⟨hc1, hf1⟩ := bcell hb; obtain ⟨e0, e1, e2, e3, e4, e5, e6, e7, e8, e9⟩ := HE.out; have e0 := cellv hb (cellv HB.out e0); have e1 := cellv hb (cellv HB.out e1); have e2 := cellv hb (cellv HB.out e2); have e3 := cellv hb (cellv HB.out e3); have e4 := cellv hb (cellv HB.out e4); have e5 := cellv hb (cellv HB.out e5); have e6 := cellv hb (cellv HB.out e6); have e7 := cellv hb (cellv HB.out e7); have e8 := cellv hb (cellv HB.out e8); have e9 := cellv hb (cellv HB.out e9); have HB2 := Lib.hid (bl_call HB.out hb))
    go_ret
    exact ⟨rfl, bl_alloc HB2.out _⟩
  · rw [if_neg c1]
    have c1b : (p == rf) = false := beq_eq_false_iff_ne.2 (fun e => c1 e.symm)
    clear c1
    by_cases c2 : rt = p
    · rw [if_pos c2]
      have c2b : (p == rt) = true := by simp [c2]
      clear c2
      go_enter Try.func27, Try.ntmps27
      go_wp2_with (go_at_call 46; refine (hasRoad_any _ m _ _ HM.out).mono ?_; rw [W.out]; rintro e w' ⟨rfl, hb⟩; obtain ⟨hc1, hf1⟩ := bcell hb; obtain ⟨e0, e1, e2, e3, e4, e5, e6, e7, e8, e9⟩ := HE.out; have e0 := cellv hb (cellv HB.out e0); have e1 := cellv hb (cellv HB.out e1); have e2 := cellv hb (cellv HB.out e2); have e3 := cellv hb (cellv HB.out e3); have e4 := cellv hb (cellv HB.out e4); have e5 := cellv hb (cellv HB.out e5); have e6 := cellv hb (cellv HB.out e6); have e7 := cellv hb (cellv HB.out e7); have e8 := cellv hb (cellv HB.out e8); have e9 := cellv hb (cellv HB.out e9); have HB2 := Lib.hid (bl_call HB.out hb))
      go_ret
      exact ⟨rfl, bl_alloc HB2.out _⟩
    · rw [if_neg c2]
      have c2b : (p == rt) = false := beq_eq_false_iff_ne.2 (fun e => c2 e.symm)
      clear c2
      go_enter Try.func27, Try.ntmps27
      go_wp2_with (go_at_call 46; refine (hasRoad_any _ m _ _ HM.out).mono ?_; rw [W.out]; rintro e w' ⟨rfl, hb⟩; obtain ⟨hc1, hf1⟩ := bcell hb; obtain ⟨e0, e1, e2, e3, e4, e5, e6, e7, e8, e9⟩ := HE.out; have e0 := cellv hb (cellv HB.out e0); have e1 := cellv hb (cellv HB.out e1); have e2 := cellv hb (cellv HB.out e2); have e3 := cellv hb (cellv HB.out e3); have e4 := cellv hb (cellv HB.out e4); have e5 := cellv hb (cellv HB.out e5); have e6 := cellv hb (cellv HB.out e6); have e7 := cellv hb (cellv HB.out e7); have e8 := cellv hb (cellv HB.out e8); have e9 := cellv hb (cellv HB.out e9); have HB2 := Lib.hid (bl_call HB.out hb))
      go_ret
      exact ⟨rfl, bl_alloc HB2.out _⟩
end Go.Proofs.Ytbiikgkfklhohaa
