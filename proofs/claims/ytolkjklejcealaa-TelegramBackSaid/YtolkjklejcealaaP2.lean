/- bytes.Clone, slices.Grow, slices.Concat of two lists of bytes; the program's size. -/
import Derived.Test.YtolkjklejcealaaP1
import Derived.Test.YtolkjklejcealaaP0
import Derived.Lib.SliceRun
import Derived.Lib.AppendZeros
namespace Go.Proofs.Ytolkjklejcealaa
open Go.RowKit
attribute [local go_sem ↓] Go.wp_at_zero Go.wp_at_succ

set_option maxHeartbeats 1000000 in
theorem bclone_any (v : Value) (l : List Nat) (w : World) (h : Sl w v 1 l.length (bytes l)) (hn : l.length ≤ 1000000000) :
    Calls Try.prog 27 #[v] w fun e w' => ∃ v', e = .returned v' ∧ w'.ownsRow w.heap.size 5 1 v' l.length (bytes l) ∧ w.grownBy w' none := by
  obtain ⟨ip, hip, hip1, hip2, hip3⟩ := info_parts Try.infoU8
  have q : ∀ (w : World) (a : Option Addr) (n c n' c' : Nat), (binOp .eql 22 (.slice a n c) (.slice none n' c')).run Try.prog w = .ok (.bool a.isNone) w := fun w a n c n' c' => Lib.run_eql_slice_nil w _ _ a n c n' c' Try.underlying22
  have H := Lib.hid h
  rcases h.cases with ⟨rfl, h0⟩ | ⟨ad, cap, rfl, hnc, hm⟩
  · have e0 : l = [] := List.eq_nil_of_length_eq_zero h0
    subst e0
    clear H h
    go_enter Try.func27, Try.ntmps27
    go_wp2
    go_ret
    exact ⟨_, rfl, World.ownsRow_nil _ _ _ _, gb_refl _ _⟩
  · clear h
    have HB := Lib.hid (gb_alloc (gb_refl w none) (.cells #[] 5))
    have hown := World.ownsRow_lit (base := w.heap.size) (e := 5) (size := 1) w #[] 0 (Nat.le_refl _) (by simp [maxLen]) (by simp)
    have HO := Lib.hid hown
    clear hown
    unfold maxLen at hm
    go_enter Try.func27, Try.ntmps27
    go_wp2_with (at_builtin; go_loud (refine wpList_app _ rfl _ _ 22 rfl w.heap.size 5 ip _ 1 1 Try.underlying22 hip hip1 hip2 hip3 rfl (by omega) (.slice (some ⟨w.heap.size, 0, none⟩) 0 0) 0 [] rfl HO.out _ l.length (bytes l) rfl (Sl.by_ H.out HB.out) (bytes_one _) (by simp [maxLen]; omega) (by omega) (by simp) ?_); intro v' w2 hown hg)
    go_ret
    refine ⟨_, rfl, ?_, gb_new HB.out (by simpa [Value.ownBlock] using hg) (Nat.le_refl _)⟩
    simpa using hown

theorem grow_run (w : World) (n : Nat) (h0 : 0 < n) (hn : n ≤ 1000000000) : ∃ c w', (∀ ty, (Builtin.append_ #[22, 3] ty #[.slice none 0 0, .int .i64 n]).run Try.prog w = .ok (.slice (some ⟨w.heap.size, 0, none⟩) n c) w') ∧ n ≤ c ∧ c ≤ maxLen ∧
    w'.ownsRow w.heap.size 5 1 (.slice (some ⟨w.heap.size, 0, none⟩) 0 c) 0 [] ∧ w.grownBy w' none := by
  obtain ⟨ip, hip, hip1, hip2, hip3⟩ := info_parts Try.infoU8
  have hr := fun ty => Lib.run_append_nil_zeros w 22 3 ty 5 ip _ .i64 .i64 Try.underlying22 Try.underlying3 hip hip1 n h0 (by omega) (by omega) (by rw [hip3]; omega)
  have hge := grownCap_ge w n 0 5
  refine ⟨_, _, hr, hge, grownCap_le_maxLen w n 0 5 (by simp [maxLen]; omega), ?_, gb_alloc (gb_drew (gb_refl _ _)) _⟩
  refine World.ownsRow_made (base := w.heap.size) (e := 5) (size := 1) w.drew _ _ (Nat.le_refl _) (grownCap_le_maxLen w n 0 5 (by simp [maxLen]; omega)) ?_
  simp [Builtin.zeroCells, Value.cells]
  omega

set_option maxHeartbeats 1000000 in
theorem grow_any (n : Nat) (w : World) (hn : n ≤ 1000000000) :
    Calls Try.prog 28 #[.slice none 0 0, .int .i64 n] w fun e w' => ∃ v', e = .returned v' ∧ w'.ownsRow w.heap.size 5 1 v' 0 (bytes []) ∧ w.grownBy w' none := by
  by_cases h0 : 0 < n
  · obtain ⟨c, w1, hr, hc, hm, hown, hg⟩ := grow_run w n h0 hn
    unfold maxLen at hm
    have HO := Lib.hid hown
    have HG := Lib.hid hg
    have h0' : (0 : Int) < (n : Int) := by omega
    clear hown hg
    go_enter Try.func28, Try.ntmps28
    go_wp2_with (at_builtin; refine Lib.wpList_append_run _ rfl _ _ _ _ rfl _ _ rfl rfl _ _ (hr _) ?_)
    go_ret
    exact ⟨_, rfl, HO.out, HG.out⟩
  · obtain rfl : n = 0 := by omega
    go_enter Try.func28, Try.ntmps28
    go_wp2_with fail
    go_ret
    exact ⟨_, rfl, World.ownsRow_nil _ _ _ _, gb_refl _ _⟩

theorem Try.infoSU8 : (Try.prog.info? 22).map (fun i => (i.zero, i.size, i.bytes)) = some (some (.slice none 0 0), 1, 24) := by kernel_rfl
def szK (a b k : Nat) : Nat := if k = 0 then 0 else if k = 1 then a else a + b
def catK (l₁ l₂ : List Nat) (k : Nat) : List Nat := if k = 0 then [] else if k = 1 then l₁ else l₁ ++ l₂
theorem catK_len (l₁ l₂ : List Nat) (k : Nat) : (catK l₁ l₂ k).length = szK l₁.length l₂.length k := by
  unfold catK szK; split <;> (try split) <;> simp

set_option maxRecDepth 100000 in
set_option maxHeartbeats 4000000 in
theorem concat_any (v₁ v₂ : Value) (l₁ l₂ : List Nat) (b cap : Nat) (w : World) (h₁ : Sl w v₁ 1 l₁.length (bytes l₁)) (h₂ : Sl w v₂ 1 l₂.length (bytes l₂)) (hc0 : w.cell? ⟨b, 0, none⟩ = some v₁) (hc1 : w.cell? ⟨b, 1, none⟩ = some v₂)
    (hn : l₁.length + l₂.length ≤ 1000000000) :
    Calls Try.prog 23 #[.slice (some ⟨b, 0, none⟩) 2 cap] w fun e w' => ∃ v', e = .returned v' ∧ w'.ownsRow w.heap.size 5 1 v' (l₁ ++ l₂).length (bytes (l₁ ++ l₂)) ∧ w.grownBy w' none := by
  obtain ⟨ie, hie, hie1, hie2, hie3⟩ := info_parts Try.infoU8
  have hbl := World.block_lt_of_cell? _ _ hc0
  obtain ⟨a₁, c₁, rfl, n₁, m₁, _⟩ := h₁.shape
  obtain ⟨a₂, c₂, rfl, n₂, m₂, _⟩ := h₂.shape
  have H1 := Lib.hid h₁
  have H2 := Lib.hid h₂
  clear h₁ h₂
  unfold maxLen at m₁ m₂
  go_enter Try.func23, Try.ntmps23
  go_wp2_with fail
  go_loopw [3, 11] (fun n i wr => ∃ k : Nat, k ≤ 2 ∧ i = .int .i64 k ∧ n = .int .i64 (szK l₁.length l₂.length k : Nat) ∧ w = wr) (fun _ i _ => 2 - (intOf i).toNat)
  case atStart => exact ⟨0, by omega, rfl, rfl, rfl⟩
  case round =>
    obtain ⟨k, hk, rfl, rfl, rfl⟩ := hrel
    obtain rfl | rfl | rfl : k = 0 ∨ k = 1 ∨ k = 2 := by omega
    · rw [show szK l₁.length l₂.length 0 = 0 from rfl]
      go_wp2_with fail
      exact ⟨⟨1, by omega, rfl, by simp [szK]⟩, by simp [intOf]⟩
    · rw [show szK l₁.length l₂.length 1 = l₁.length from rfl]
      go_wp2_with fail
      exact ⟨⟨2, by omega, rfl, by simp [szK]⟩, by simp [intOf]⟩
    · rw [show szK l₁.length l₂.length 2 = l₁.length + l₂.length from rfl]
      obtain ⟨s, hs⟩ : ∃ s : Nat, l₁.length + l₂.length = s := ⟨_, rfl⟩
      rw [hs]
      have hs9 : s ≤ 1000000000 := by omega
      go_wp2_with fail
      refine (grow_any s w hs9).mono ?_
      rintro e w1 ⟨v, rfl, hown, hg⟩
      have HO := Lib.hid hown
      have HG := Lib.hid hg
      clear hown hg
      go_wp2_with fail
      go_loopw [6, 27] (fun x i wr => ∃ k : Nat, k ≤ 2 ∧ i = .int .i64 k ∧ wr.ownsRow w.heap.size 5 1 x (catK l₁ l₂ k).length (bytes (catK l₁ l₂ k)) ∧ w.grownBy wr none) (fun _ i _ => 2 - (intOf i).toNat)
      case atStart => exact ⟨0, by omega, rfl, HO.out, HG.out⟩
      case round =>
        obtain ⟨k, hk, rfl, hown, hg⟩ := hrel
        obtain ⟨xa, xc, rfl⟩ := own_slc hown
        have hsz := hg.size
        have O := Lib.hid hown
        have e0 : wr.cell? ⟨b, 0, none⟩ = some (.slice a₁ l₁.length c₁) := by rw [← hc0]; exact gb_cell hg hbl (by simp) _
        have e1 : wr.cell? ⟨b, 1, none⟩ = some (.slice a₂ l₂.length c₂) := by rw [← hc1]; exact gb_cell hg hbl (by simp) _
        have S1 := Lib.hid (H1.out.by_ hg)
        have S2 := Lib.hid (H2.out.by_ hg)
        have G := Lib.hid hg
        have hcl := catK_len l₁ l₂ k
        have hcl2 : (catK l₁ l₂ k).length ≤ s := by rw [hcl]; unfold szK; split <;> (try split) <;> omega
        clear hown hg hc0 hc1 hcl
        obtain rfl | rfl | rfl : k = 0 ∨ k = 1 ∨ k = 2 := by omega
        · generalize hcn : catK l₁ l₂ 0 = cl at *
          have HCN := Lib.hid hcn
          clear hcn
          go_wp2_with (at_builtin; go_loud (refine wpList_app _ rfl _ _ 22 rfl w.heap.size 5 ie _ 1 1 Try.underlying22 hie hie1 hie2 hie3 rfl (by omega) (.slice xa cl.length xc) cl.length (bytes cl) rfl O.out (.slice a₁ l₁.length c₁) l₁.length (bytes l₁) rfl S1.out (bytes_one _) (by simp [maxLen]; omega) (by omega) hsz ?_); intro v' w2 hown hg; have HO2 := Lib.hid hown; have HG2 := Lib.hid (gb_call G.out hg (fun g e => .inr (own_base O.out g e))); clear hown hg)
          have e : cl = [] := HCN.out.symm
          subst e
          exact ⟨⟨1, by omega, rfl, by have := HO2.out; simpa [catK, bytes] using this, HG2.out⟩, by simp [intOf]⟩
        · generalize hcn : catK l₁ l₂ 1 = cl at *
          have HCN := Lib.hid hcn
          clear hcn
          go_wp2_with (at_builtin; go_loud (refine wpList_app _ rfl _ _ 22 rfl w.heap.size 5 ie _ 1 1 Try.underlying22 hie hie1 hie2 hie3 rfl (by omega) (.slice xa cl.length xc) cl.length (bytes cl) rfl O.out (.slice a₂ l₂.length c₂) l₂.length (bytes l₂) rfl S2.out (bytes_one _) (by simp [maxLen]; omega) (by omega) hsz ?_); intro v' w2 hown hg; have HO2 := Lib.hid hown; have HG2 := Lib.hid (gb_call G.out hg (fun g e => .inr (own_base O.out g e))); clear hown hg)
          have e : cl = l₁ := HCN.out.symm
          subst e
          exact ⟨⟨2, by omega, rfl, by have := HO2.out; simpa [catK, bytes] using this, HG2.out⟩, by simp [intOf]⟩
        · go_wp2_with fail
          go_ret
          refine ⟨_, rfl, ?_, G.out⟩
          exact O.out

/-- How many bytes the program takes a telegram at the front to have. -/
def sizeOf4 (l : List Nat) : Nat := if l.getD 0 0 ≠ 126 then 0 else if l.length = 1 then 6 else if 64 < l.getD 1 0 then 0 else 6 + l.getD 1 0

theorem sl_cell {w : World} {g off cap : Nat} {l : List Nat} (h : Sl w (.slice (some ⟨g, off, none⟩) l.length cap) 1 l.length (bytes l)) (j : Nat) (hj : j < l.length) : w.cell? ⟨g, off + j, none⟩ = some (.int .u8 (l.getD j 0 : Nat)) := by
  rcases h.2 with ⟨h0, _⟩ | ⟨g', off', c', hv, _, _, hc⟩
  · omega
  · injection hv with hv1
    injection hv1 with hv1
    injection hv1 with hv1 hv2
    subst hv1 hv2
    rw [hc j (by omega)]
    simp [bytes, List.getD_eq_getElem?_getD, List.getElem?_eq_getElem hj]
theorem sl_open {w : World} {v : Value} {l : List Nat} (h : Sl w v 1 l.length (bytes l)) (h0 : 0 < l.length) : ∃ g off cap, v = .slice (some ⟨g, off, none⟩) l.length cap ∧ l.length ≤ cap ∧ cap ≤ maxLen := by
  rcases h.2 with ⟨h1, _⟩ | ⟨g, off, cap, hv, hn, hm, _⟩
  · omega
  · exact ⟨g, off, cap, hv, hn, hm⟩

set_option maxHeartbeats 1000000 in
theorem size_any (v : Value) (l : List Nat) (w : World) (h : Sl w v 1 l.length (bytes l)) (hb : ∀ x ∈ l, x < 256) (h0 : 0 < l.length) :
    Calls Try.prog 24 #[v] w fun e w' => e = .returned (.int .i64 (sizeOf4 l : Nat)) ∧ w' = w := by
  obtain ⟨g, off, cap, rfl, hn, hm⟩ := sl_open h h0
  have e0 := sl_cell h 0 h0
  rw [Nat.add_zero] at e0
  have x0 : l.getD 0 0 < 256 := getD_lt hb 0
  unfold maxLen at hm
  by_cases h2 : l.getD 0 0 = 126
  · rw [h2] at e0
    replace e0 : w.cell? ⟨g, off, none⟩ = some (.int .u8 126) := e0
    by_cases h3 : l.length = 1
    · have hs : sizeOf4 l = 6 := by simp only [sizeOf4, h2, h3]; rfl
      rw [hs]
      rw [h3] at *
      clear h hs h2
      go_enter Try.func24, Try.ntmps24
      go_wp2_with fail
      go_ret
      exact ⟨rfl, rfl⟩
    · have i0 : (0 : Int) < (l.length : Int) := by omega
      have e1 := sl_cell h 1 (by omega)
      have x1 : l.getD 1 0 < 256 := getD_lt hb 1
      have i1 : (1 : Int) < (l.length : Int) := by omega
      have hq : ((l.length : Int) == 1) = false := by simp; omega
      have hs : sizeOf4 l = if 64 < l.getD 1 0 then 0 else 6 + l.getD 1 0 := by unfold sizeOf4; rw [if_neg (by omega), if_neg h3]
      rw [hs]
      clear h hs h2
      generalize l.getD 1 0 = y at *
      by_cases h4 : 64 < y
      · rw [if_pos h4]
        have h4' : (64 : Int) < (y : Int) := by omega
        go_enter Try.func24, Try.ntmps24
        go_wp2_with fail
        go_ret
        exact ⟨rfl, rfl⟩
      · rw [if_neg h4]
        have h4' : decide ((64 : Int) < (y : Int)) = false := by simp; omega
        go_enter Try.func24, Try.ntmps24
        go_wp2_with fail
        go_ret
        exact ⟨by simp, rfl⟩
  · have hs : sizeOf4 l = 0 := by unfold sizeOf4; rw [if_pos h2]
    rw [hs]
    have i0 : (0 : Int) < (l.length : Int) := by omega
    have hq : (((l.getD 0 0 : Nat) : Int) != 126) = true := bne_iff_ne.2 (by omega)
    clear h hs h2
    generalize l.getD 0 0 = y at *
    go_enter Try.func24, Try.ntmps24
    go_wp2_with fail
    go_ret
    exact ⟨rfl, rfl⟩
end Go.Proofs.Ytolkjklejcealaa
