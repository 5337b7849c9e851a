/- The statement TelegramWrites: the walk. -/
import Derived.Test.YtolkjklejcealaaAk
namespace Go.Proofs.Ytolkjklejcealaa
open Go.RowKit
attribute [local go_sem ↓] Go.wp_at_zero Go.wp_at_succ

theorem new_sl (a : Option Addr) (cap : Nat) (l : List Nat) (w : World) (h : Sl w (.slice a l.length cap) 1 l.length (bytes l)) (hb : ∀ x ∈ l, x < 256) :
    Calls Try.prog 10 #[.slice a l.length cap] w fun e w' => e = .returned (.pointer (some ⟨w.heap.size, 0, none⟩)) ∧ CdAt w' w.heap.size (l.take 300) 0 ∧ w.grownBy w' none := by
  obtain ⟨a', cap', hv, hn, hm, hx⟩ := h.shape
  injection hv with e1 _ e2
  subst e1 e2
  refine (new_any a l.length cap l w rfl hn hb ?_).mono ?_
  · rcases hx with hx | ⟨g, off, rfl, _⟩
    · exact .inl (List.eq_nil_of_length_eq_zero hx)
    · exact .inr ⟨g, off, rfl, fun j hj => sl_cell h j hj⟩
  · rintro e w' ⟨rfl, hc, _, hg⟩
    exact ⟨rfl, hc, gb_b hg⟩

/-- What is known in the loop. -/
structure WrS (w : World) (rv : Value) (lr : List Nat) (f1 f2 : Fr) (d1 d2 : Value) (nb : Nat) (W : World) : Prop where
  kb : Bk W nb #[.int .i64 f1.addr, .int .i64 f1.kind, d1, .int .i64 f2.addr, .int .i64 f2.kind, d2] 24
  s1 : Sl W d1 1 f1.data.length (bytes f1.data)
  s2 : Sl W d2 1 f2.data.length (bytes f2.data)
  sr : Sl W rv 1 lr.length (bytes lr)
  g : w.grownBy W none
theorem WrS.by_ {w : World} {rv : Value} {lr : List Nat} {f1 f2 : Fr} {d1 d2 : Value} {nb : Nat} {W W' : World} (h : WrS w rv lr f1 f2 d1 d2 nb W) (o : W.grownBy W' none) : WrS w rv lr f1 f2 d1 d2 nb W' :=
  ⟨h.kb.of o (by simp), h.s1.by_ o, h.s2.by_ o, h.sr.by_ o, gb_none h.g o⟩

set_option maxRecDepth 100000 in
set_option maxHeartbeats 8000000 in
theorem writes_walk (rv dv cv : Value) (lr lc : List Nat) (f : Fr) (w : World) (hr : Sl w rv 1 lr.length (bytes lr)) (hf : Sl w dv 1 f.data.length (bytes f.data)) (hc : Sl w cv 1 lc.length (bytes lc))
    (br : ∀ x ∈ lr, x < 256) (bf : ∀ x ∈ f.data, x < 256) (bc : ∀ x ∈ lc, x < 256) :
    Calls Try.prog 3 #[rv, .agg #[.int .i64 f.addr, .int .i64 f.kind, dv], cv] w fun e w' => e = .returned (.bool true) ∧ w.grownBy w' none := by
  obtain ⟨ra, rc, rfl, n1, m1, _⟩ := hr.shape
  obtain ⟨da, dc, rfl, n2, m2, _⟩ := hf.shape
  obtain ⟨ca, cc, rfl, n3, m3, hcx⟩ := hc.shape
  unfold maxLen at m1 m2 m3
  have g1 := gb_alloc (gb_refl w none) (.cells #[.int .i64 f.addr, .int .i64 f.kind, .slice da f.data.length dc] 24)
  have k1 := Bk.new w #[.int .i64 f.addr, .int .i64 f.kind, .slice da f.data.length dc] 24
  have HR := Lib.hid (hr.by_ g1)
  have HF := Lib.hid (hf.by_ g1)
  have HC := Lib.hid (hc.by_ g1)
  have G1 := Lib.hid g1
  have K1 := Lib.hid k1
  have HBR := Lib.hid br
  have HBF := Lib.hid bf
  have HBC := Lib.hid bc
  clear hr hf hc g1 br bf bc hcx
  go_enter Try.func3, Try.ntmps3
  go_upto_region 1 with fail
  generalize w.alloc _ = W1 at *
  have k1c := k1.cell
  clear k1
  by_cases h1 : 300 < lr.length
  · have h1' : (300 : Int) < (lr.length : Int) := by omega
    go_wp2_with fail
    refine (awake_any _).mono ?_
    rintro e w2 ⟨rfl, hg⟩
    go_wp2_with fail
    go_ret
    exact ⟨rfl, gb_none G1.out hg⟩
  have h1' : decide ((300 : Int) < (lr.length : Int)) = false := by simp; omega
  by_cases h2 : 300 < f.data.length
  · have h2' : (300 : Int) < (f.data.length : Int) := by omega
    go_wp2_with fail
    refine (awake_any _).mono ?_
    rintro e w2 ⟨rfl, hg⟩
    go_wp2_with fail
    go_ret
    exact ⟨rfl, gb_none G1.out hg⟩
  have h2' : decide ((300 : Int) < (f.data.length : Int)) = false := by simp; omega
  go_upto_region 3 with fail
  have KD := Lib.hid (K1.out.of (gb_drew (gb_refl W1 none)) (by simp))
  have GD := Lib.hid (gb_drew G1.out)
  have RD := Lib.hid (HR.out.by_ (gb_drew (gb_refl W1 none)))
  have FD := Lib.hid (HF.out.by_ (gb_drew (gb_refl W1 none)))
  have CD := Lib.hid (HC.out.by_ (gb_drew (gb_refl W1 none)))
  have e0 : W1.drew.cell? ⟨w.heap.size, 0, none⟩ = some (.int .i64 f.addr) := KD.out.cell 0
  have e1 : W1.drew.cell? ⟨w.heap.size, 1, none⟩ = some (.int .i64 f.kind) := KD.out.cell 1
  have e2 : W1.drew.cell? ⟨w.heap.size, 2, none⟩ = some (.slice da f.data.length dc) := KD.out.cell 2
  have hlt := KD.out.lt
  have hlt2 := K1.out.lt
  clear K1 G1 HR HF HC
  go_region_held3 (fun w' => w'.cell? ⟨w.heap.size, 0, none⟩ = some (.int .i64 f.addr) ∧ w'.cell? ⟨w.heap.size, 1, none⟩ = some (.int .i64 f.kind) ∧ w'.cell? ⟨w.heap.size, 2, none⟩ = some (.slice da f.data.length dc))
    (first | (with_reducible exact ⟨e0, e1, e2⟩) | (with_reducible exact ⟨f0, f1, f2⟩) | (with_reducible exact ⟨g0, g1, g2⟩) | (with_reducible exact ⟨z0, z1, z2⟩) | fail)
    ((first
      | (go_at_call 10; refine (new_sl _ _ _ _ CD.out HBC.out).mono ?_; rintro e w2 ⟨rfl, hcd, hg⟩; have K2 := Lib.hid (KD.out.of hg (by simp)); have f0 : w2.cell? ⟨w.heap.size, 0, none⟩ = some (.int .i64 f.addr) := K2.out.cell 0; have f1 : w2.cell? ⟨w.heap.size, 1, none⟩ = some (.int .i64 f.kind) := K2.out.cell 1; have f2 : w2.cell? ⟨w.heap.size, 2, none⟩ = some (.slice da f.data.length dc) := K2.out.cell 2; have HG2 := Lib.hid hg; have HCD := Lib.hid hcd; clear hg hcd)
      | (go_at_call 11; refine (frame_any _ _ _ _ HCD.out).mono ?_; rintro e w3 ⟨f', dv', rfl, hs', hb', _, _, hl', _, hg'⟩; obtain ⟨ea, ec, hee, _⟩ := hs'.shape; subst hee; have K3 := Lib.hid (K2.out.of hg' (by simp; omega)); have g0 : w3.cell? ⟨w.heap.size, 0, none⟩ = some (.int .i64 f.addr) := K3.out.cell 0; have g1 : w3.cell? ⟨w.heap.size, 1, none⟩ = some (.int .i64 f.kind) := K3.out.cell 1; have g2 : w3.cell? ⟨w.heap.size, 2, none⟩ = some (.slice da f.data.length dc) := K3.out.cell 2; have HG3 := Lib.hid (gb_new HG2.out hg' (Nat.le_refl _)); have HS3 := Lib.hid hs'; have HB3 := Lib.hid hb'; have K4 := Lib.hid (K3.out.of (gb_alloc (gb_refl w3 none) (.cells #[.int .i64 f.addr, .int .i64 f.kind, .slice da f.data.length dc, .int .i64 f'.addr, .int .i64 f'.kind, .slice ea f'.data.length ec] 24)) (by simp)); have z0 : (w3.alloc (.cells #[.int .i64 f.addr, .int .i64 f.kind, .slice da f.data.length dc, .int .i64 f'.addr, .int .i64 f'.kind, .slice ea f'.data.length ec] 24)).cell? ⟨w.heap.size, 0, none⟩ = some (.int .i64 f.addr) := K4.out.cell 0; have z1 : (w3.alloc (.cells #[.int .i64 f.addr, .int .i64 f.kind, .slice da f.data.length dc, .int .i64 f'.addr, .int .i64 f'.kind, .slice ea f'.data.length ec] 24)).cell? ⟨w.heap.size, 1, none⟩ = some (.int .i64 f.kind) := K4.out.cell 1; have z2 : (w3.alloc (.cells #[.int .i64 f.addr, .int .i64 f.kind, .slice da f.data.length dc, .int .i64 f'.addr, .int .i64 f'.kind, .slice ea f'.data.length ec] 24)).cell? ⟨w.heap.size, 2, none⟩ = some (.slice da f.data.length dc) := K4.out.cell 2; clear hg' hs' hb')))
  have hgA := gb_alloc (gb_refl w3 none) (.cells #[.int .i64 f.addr, .int .i64 f.kind, .slice da f.data.length dc, .int .i64 f'.addr, .int .i64 f'.kind, .slice ea f'.data.length ec] 24)
  have S0 : WrS w (.slice ra lr.length rc) lr f f' (.slice da f.data.length dc) (.slice ea f'.data.length ec) w3.heap.size (w3.alloc (.cells #[.int .i64 f.addr, .int .i64 f.kind, .slice da f.data.length dc, .int .i64 f'.addr, .int .i64 f'.kind, .slice ea f'.data.length ec] 24)) :=
    ⟨Bk.new _ _ _, (FD.out.by_ HG3.out).by_ hgA, HS3.out.by_ hgA, (RD.out.by_ HG3.out).by_ hgA, gb_none (gb_none GD.out HG3.out) hgA⟩
  clear e0 e1 e2 f0 f1 f2 g0 g1 g2 z0 z1 z2 KD GD RD FD CD K2 K3 K4 HG2 HCD HG3 HS3 hlt hlt2 hgA
  generalize w3.alloc _ = W4 at *
  generalize w3.heap.size = nb at *
  have HS0 := Lib.hid S0
  have B1 := Lib.hid (show lr.length ≤ 300 by omega)
  clear S0
  go_wp2_with fail
  go_loopw [29] (fun i wr => ∃ k : Nat, k ≤ 2 ∧ i = .int .i64 k ∧ WrS w (.slice ra lr.length rc) lr f f' (.slice da f.data.length dc) (.slice ea f'.data.length ec) nb wr) (fun i _ => 2 - (intOf i).toNat)
  case atStart => exact ⟨0, by omega, rfl, HS0.out⟩
  case round =>
    clear HS0
    obtain ⟨k, hk, rfl, S⟩ := hrel
    obtain rfl | rfl | rfl : k = 0 ∨ k = 1 ∨ k = 2 := by omega
    · have kc0 : wr.cell? ⟨nb, 0, none⟩ = some (.int .i64 f.addr) := S.kb.cell 0
      have kc1 : wr.cell? ⟨nb, 1, none⟩ = some (.int .i64 f.kind) := S.kb.cell 1
      have kc2 : wr.cell? ⟨nb, 2, none⟩ = some (.slice da f.data.length dc) := S.kb.cell 2
      have g8 := gb_alloc (gb_refl wr none) (.cells #[.int .i64 f.addr, .int .i64 f.kind, .slice da f.data.length dc] 24)
      have k8 := Bk.new wr #[.int .i64 f.addr, .int .i64 f.kind, .slice da f.data.length dc] 24
      have HS8 := Lib.hid (S.by_ g8)
      have HK8 := Lib.hid k8
      clear S g8 
      go_upto_region 6 with fail
      clear kc0 kc1 kc2
      generalize wr.alloc _ = w8 at *
      generalize wr.heap.size = n8 at *
      have k8c := k8.cell
      clear k8
      go_wp2_with fail
      refine (write_any _ f _ HS8.out.s1 HBF.out).mono ?_
      rintro e w9 ⟨v9, rfl, ho9, hg9⟩
      have k9 := HK8.out.of hg9 (by simp)
      have HS9 := Lib.hid (HS8.out.by_ hg9)
      have k9c := k9.cell
      obtain ⟨xa, xc, hxe⟩ := own_slc ho9
      subst hxe
      have HO9 := Lib.hid (own_sl ho9)
      clear k8c HK8 HS8 ho9 hg9 k9
      go_wp2_with fail
      refine (refWrite_any _ f _ HS9.out.s1 HBF.out).mono ?_
      rintro e w10 ⟨v10, rfl, ho10, hg10⟩
      obtain ⟨ya, yc, hye⟩ := own_slc ho10
      subst hye
      have HS10 := Lib.hid (HS9.out.by_ hg10)
      have cv1 := conv_any (HO9.out.by_ hg10)
      have cv2 := conv_any (own_sl ho10)
      clear k9c HS9 ho10 hg10 HO9
      go_wp2_with fail
      exact ⟨⟨1, by omega, rfl, HS10.out⟩, by simp [intOf]⟩
    · have kc0 : wr.cell? ⟨nb, 3, none⟩ = some (.int .i64 f'.addr) := S.kb.cell 3
      have kc1 : wr.cell? ⟨nb, 4, none⟩ = some (.int .i64 f'.kind) := S.kb.cell 4
      have kc2 : wr.cell? ⟨nb, 5, none⟩ = some (.slice ea f'.data.length ec) := S.kb.cell 5
      have g8 := gb_alloc (gb_refl wr none) (.cells #[.int .i64 f'.addr, .int .i64 f'.kind, .slice ea f'.data.length ec] 24)
      have k8 := Bk.new wr #[.int .i64 f'.addr, .int .i64 f'.kind, .slice ea f'.data.length ec] 24
      have HS8 := Lib.hid (S.by_ g8)
      have HK8 := Lib.hid k8
      clear S g8 
      go_upto_region 6 with fail
      clear kc0 kc1 kc2
      generalize wr.alloc _ = w8 at *
      generalize wr.heap.size = n8 at *
      have k8c := k8.cell
      clear k8
      go_wp2_with fail
      refine (write_any _ f' _ HS8.out.s2 HB3.out).mono ?_
      rintro e w9 ⟨v9, rfl, ho9, hg9⟩
      have k9 := HK8.out.of hg9 (by simp)
      have HS9 := Lib.hid (HS8.out.by_ hg9)
      have k9c := k9.cell
      obtain ⟨xa, xc, hxe⟩ := own_slc ho9
      subst hxe
      have HO9 := Lib.hid (own_sl ho9)
      clear k8c HK8 HS8 ho9 hg9 k9
      go_wp2_with fail
      refine (refWrite_any _ f' _ HS9.out.s2 HB3.out).mono ?_
      rintro e w10 ⟨v10, rfl, ho10, hg10⟩
      obtain ⟨ya, yc, hye⟩ := own_slc ho10
      subst hye
      have HS10 := Lib.hid (HS9.out.by_ hg10)
      have cv1 := conv_any (HO9.out.by_ hg10)
      have cv2 := conv_any (own_sl ho10)
      clear k9c HS9 ho10 hg10 HO9
      go_wp2_with fail
      exact ⟨⟨2, by omega, rfl, HS10.out⟩, by simp [intOf]⟩
    · have HS := Lib.hid S
      clear S
      go_wp2_with fail
      refine (chk_any _ lr _ HS.out.sr HBR.out).mono ?_
      rintro e w5 ⟨rfl, hg5⟩
      have HS5 := Lib.hid (HS.out.by_ hg5)
      clear HS hg5
      go_wp2_with fail
      refine (check_any _ lr _ HS5.out.sr HBR.out).mono ?_
      rintro e w6 ⟨rfl, hg6⟩
      have HS6 := Lib.hid (HS5.out.by_ hg6)
      clear HS5 hg6
      go_wp2_with fail
      refine (awake_any _).mono ?_
      rintro e w7 ⟨rfl, hg7⟩
      go_wp2_with fail
      go_ret
      exact ⟨rfl, gb_none HS6.out.g hg7⟩
end Go.Proofs.Ytolkjklejcealaa
