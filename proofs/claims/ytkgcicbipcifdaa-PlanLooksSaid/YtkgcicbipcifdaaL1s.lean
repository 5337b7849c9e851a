/- slices.Sort of any length, by the kit's contract. -/
import Derived.Test.YtkgcicbipcifdaaL1x
import Derived.Test.YtkgcicbipcifdaaL1y
import Derived.Sort.OwnSortedInts
import Derived.Sort.EveryDepth
namespace Go.Proofs.Ytkgcicbipcifdaa.Ab
open Go Go.Sort Go.Proofs

def zsOf (s : Sq Int) : List Int := (List.range s.n).map s.f
/-- The numbers, ascending. -/
def srt (s : Sq Int) : List Int := (zsOf s).mergeSort fun x y => decide (x ≤ y)
def sortS (s : Sq Int) : Sq Int := ⟨s.n, fun k => (srt s).getD k 0⟩
theorem zsOf_len (s : Sq Int) : (zsOf s).length = s.n := by simp [zsOf]
theorem srt_len (s : Sq Int) : (srt s).length = s.n := by rw [srt, List.length_mergeSort, zsOf_len]
theorem sort_calls (w : World) (g cap : Nat) (zs : List Int) (hH : Holds (Value.int .i64) w g 0 zs.toArray) (hb : g < w.heap.size) (hz : zs.length < 4611686018427387904) :
    Calls Try.prog 25 #[.slice (some ⟨g, 0, none⟩) zs.length cap] w fun e w' => e = .returned (.tuple #[]) ∧ ∃ n os, w' = grow (putRow (Value.int .i64) (Sort.ahead w n) g 0 (zs.mergeSort fun x y => decide (x ≤ y)).toArray) os :=
  calls_of_every_depth fun D => AnyS.slices_Sort_int_in lays189 D g 0 cap zs w hH hb hz
noncomputable def slices_Sort_t (s : Sq Int) : DT (Sq Int) := .ite (decide (s.n = 0)) (slices_Sort_w_t s) (.ite (decide (s.n ≤ 1000000)) (.leaf (sortS s)) .fail)
noncomputable def slices_Sort_m : FnM := nfM ((Sq Int)) ((Sq Int)) (fun p => ([.own 0 0], [rowA 0 1 3 (eI .i64) p])) (fun p => slices_Sort_t p) (fun _ => .tup []) (fun _ r => [rowA 0 1 3 (eI .i64) r])
theorem sort_w_get {s x : Sq Int} (h : (slices_Sort_w_t s).get = some x) : gOfA slices_Sort_w_m.enc (fun p => (slices_Sort_w_m.t p).get) [.own 0 0] [rowA 0 1 3 (eI .i64) s] = some x :=
  (congrFun (gOfA_eq (enc := slices_Sort_w_m.enc) (linj (fun y : List AV × List Blk => sqB dI (dB y.2 0)) (fun p => by kernel_rfl)) (fun p => (slices_Sort_w_m.t p).get)) s).trans h
theorem slices_Sort_tells : Tells Try.prog 25 slices_Sort_m.c := by
  intro xs ins r x hr hx
  injection hr with hr
  subst hr
  obtain ⟨s, e, hs⟩ := theOne_spec (show theOne _ = some x from hx)
  have e1 : [AV.own 0 0] = xs := by injection e with e1 e2
  have e2 : [rowA 0 1 3 (eI .i64) s] = ins := by injection e with e1 e2
  have hs : (DT.ite (decide (Sq.n (α := Int) s = 0)) (slices_Sort_w_t s) (.ite (decide (Sq.n (α := Int) s ≤ 1000000)) (.leaf (sortS s)) .fail)).get = some x := hs
  clear hx e
  subst e1 e2
  change Sq Int at s x
  by_cases c : s.n = 0
  · rw [get_t (decide_eq_true c)] at hs
    exact slices_Sort_w_tells [.own 0 0] [rowA 0 1 3 (eI .i64) s] _ x rfl (sort_w_get hs)
  · rw [get_f (decide_eq_false c)] at hs
    have c2 : s.n ≤ 1000000 := by
      by_cases c2 : s.n ≤ 1000000
      · exact c2
      · rw [get_f (decide_eq_false c2)] at hs; cases hs
    rw [get_t (decide_eq_true c2)] at hs
    obtain rfl : sortS s = x := Option.some.inj hs
    refine ⟨⟨_, Try.func25, rfl⟩, fun F σ w vs hw hm rel hl hv => ?_⟩
    obtain ⟨v, rfl⟩ : ∃ v, vs = #[v] := by
      obtain ⟨vs⟩ := vs
      match vs, hl with
      | [v], _ => exact ⟨v, rfl⟩
    have hb : Hof [rowA 0 1 3 (eI .i64) s] 0 = some (rowA 0 1 3 (eI .i64) s) := rfl
    have hv0 : VR w (Mut F (Hof [rowA 0 1 3 (eI .i64) s]) σ) σ (Ver (Hof [rowA 0 1 3 (eI .i64) s])) (.own 0 0) v := hv 0 Nat.one_pos
    obtain rfl : v = σ 0 := hv0.own_inv (ver_of hb)
    obtain ⟨xs, h0, how, hlen, hcells⟩ := rel.bl 0 _ hb
    rcases how.2 with ⟨_, h⟩ | ⟨g, cap, cur, e1, e2, e3, e4, e5, e6, e7⟩
    · exact absurd h c
    have hxs : xs = (zsOf s).map (Value.int .i64) := by
      apply List.ext_getElem?
      intro k
      by_cases hk : k < s.n
      · have h1 : k < xs.length := by rw [how.1]; omega
        have := (hcells k 0 hk Nat.one_pos).1
        have e8 : k * 1 + 0 = k := by omega
        rw [e8] at this
        have h2 : xs.getD k Go.undef = .int .i64 (s.f k) := by
          generalize xs.getD k Go.undef = u at this
          cases this with
          | int => rfl
        rw [List.getD_eq_getElem?_getD, List.getElem?_eq_getElem h1] at h2
        rw [List.getElem?_eq_getElem h1]
        simp only [Option.getD_some] at h2
        simp [zsOf, hk, h2]
      · rw [List.getElem?_eq_none (by rw [how.1]; omega), List.getElem?_eq_none (by simp [zsOf_len]; omega)]
    have hcur : cur.toList.take (zsOf s).length = (zsOf s).map (Value.int .i64) := by
      rw [zsOf_len, ← hxs, ← e7, Nat.mul_one]
    have hg : g < w.heap.size := (Array.getElem?_eq_some_iff.1 e3).1
    have hcall := sort_calls w g cap (zsOf s) (holds_of_blockI e3 hcur) hg (by rw [zsOf_len]; omega)
    rw [zsOf_len] at hcall
    rw [e1]
    refine hcall.mono ?_
    rintro e w' ⟨rfl, n, os, rfl⟩
    have gb := grownBy_sortedI (w := w) (g := g) (n := n) (os := os) ((zsOf s).mergeSort fun x y => decide (x ≤ y)).toArray
    have one : ∀ (id : Nat) b, Hof [rowA 0 1 3 (eI .i64) (sortS s)] id = some b → id = 0 ∧ b = rowA 0 1 3 (eI .i64) (sortS s) := by
      intro id b h
      unfold Hof at h
      cases id with
      | zero => exact ⟨rfl, by simpa using h.symm⟩
      | succ id => simp at h
    have gm : F.m0 g := (hm g).2 ⟨0, _, hb, trivial, by rw [e1]; rfl⟩
    refine ⟨.tuple #[], σ, rfl, ⟨gb.os.trans rel.os, gb.tape.trans rel.tape, gb.output.trans rel.output, Nat.le_trans rel.size gb.size, fun k hk hk2 => ?_, fun id b h => ?_, fun id id' b b' k hne h1 h2 _ _ _ _ => ?_, fun id b k h1 _ h3 => ?_, rel.mxl, rel.gb⟩, .tup [] #[] rfl (fun j hj => absurd hj (Nat.not_lt_zero _)), Nat.le_refl _, fun j b h => ?_, fun _ _ _ _ => rfl, fun _ _ _ _ _ _ => rfl⟩
    · rw [gb.block k (Nat.lt_of_lt_of_le hk rel.size) (fun h => hk2 (by injection h with h; rw [h]; exact gm))]
      exact rel.old k hk hk2
    · obtain ⟨rfl, rfl⟩ := one id b h
      have ow := ownsRow_sortedI (n := n) (os := os) (ss := zsOf s) (ts := srt s) (by rw [srt_len, zsOf_len]) e2 e3 (by rw [zsOf_len]; exact e4) e5 e6
      rw [zsOf_len] at ow
      refine ⟨(srt s).map (Value.int .i64), h0, by rw [e1]; exact ow, fun k _ => rfl, fun k j hk hj => ?_⟩
      have hk : k < s.n := hk
      obtain rfl : j = 0 := by omega
      have e8 : k * 1 + 0 = k := by omega
      have h2 : ((srt s).map (Value.int .i64)).getD (k * 1 + 0) Go.undef = .int .i64 ((srt s).getD k 0) := by
        rw [e8]
        have := srt_len s
        simp [List.getD_eq_getElem?_getD, List.getElem?_eq_getElem (show k < (srt s).length by omega)]
      rw [h2]
      exact ⟨.int _ _, rfl⟩
    · exact hne ((one id b h1).1.trans (one id' b' h2).1.symm)
    · obtain ⟨rfl, rfl⟩ := one id b h1
      obtain ⟨q1, q2, q3⟩ := rel.new 0 _ k hb trivial h3
      exact ⟨Nat.lt_of_lt_of_le q1 gb.size, q2, q3⟩
    · obtain ⟨rfl, rfl⟩ := one j b h
      exact ⟨Nat.zero_le _, fun _ => rfl⟩
noncomputable def slices_Sort (s : Sq Int) : Option (Sq Int) := slices_Sort_m.val s
theorem slices_Sort_eq (s : Sq Int) : slices_Sort s = (slices_Sort_t s).get := slices_Sort_m.val_eq (fun x => sqB dI (dB x.2 0)) (fun p => by kernel_rfl) s
end Go.Proofs.Ytkgcicbipcifdaa.Ab
