/- The document's Feed. -/
import Derived.Test.YtolkjklejcealaaP5
namespace Go.Proofs.Ytolkjklejcealaa
open Go.RowKit
attribute [local go_sem ↓] Go.wp_at_zero Go.wp_at_succ

/-- While the document reads bytes. -/
structure FdT (w : World) (nb : Nat) (hv lv0 : Value) (all : List Nat) (fv : Value) (ps : List (Fr × Value)) (d : Int) (W : World) : Prop where
  nb0 : w.heap.size ≤ nb
  nb1 : nb ≠ w.heap.size + 1
  kb : Bk W nb #[hv, .int .i64 d] 36
  kr : Bk W (w.heap.size + 1) #[.slice none 0 0, .int .i64 0] 36
  o : W.ownsRow w.heap.size 5 1 lv0 all.length (bytes all)
  fr : PsO W w.heap.size fv ps
  g : w.grownBy W none
theorem FdT.by_ {w : World} {nb : Nat} {hv lv0 : Value} {all : List Nat} {fv : Value} {ps : List (Fr × Value)} {d : Int} {W W' : World} (h : FdT w nb hv lv0 all fv ps d W) (o : W.grownBy W' none) : FdT w nb hv lv0 all fv ps d W' :=
  ⟨h.nb0, h.nb1, h.kb.of o (by simp), h.kr.of o (by simp), own_by h.o o, h.fr.by_ o, gb_none h.g o⟩
theorem FdT.set {w : World} {nb : Nat} {hv lv0 : Value} {all : List Nat} {fv : Value} {ps : List (Fr × Value)} {d : Int} {W : World} (h : FdT w nb hv lv0 all fv ps d W) (d' : Int) : FdT w nb hv lv0 all fv ps d' (W.setCell ⟨nb, 1, none⟩ (.int .i64 d')) := by
  have o := gb_set (gb_refl W (some nb)) ⟨nb, 1, none⟩ (.inl rfl) (.int .i64 d')
  have k := h.kb.set 1 (.int .i64 d')
  exact ⟨h.nb0, h.nb1, k, h.kr.of o (by simpa using h.nb1), h.o.kept o (.inr (own_ne h.o h.kb (by decide))), h.fr.set h.kb (by decide) (by decide) o, gb_new h.g o h.nb0⟩
theorem FdT.app {w : World} {nb : Nat} {hv lv0 : Value} {all : List Nat} {fv fv' : Value} {ps ps' : List (Fr × Value)} {d : Int} {W W' : World} (h : FdT w nb hv lv0 all fv ps d W) (o : W.grownBy W' fv.ownBlock)
    (h1 : W'.ownsRow w.heap.size 24 3 fv' ps'.length (ps'.flatMap encFr)) (hd : ∀ p ∈ ps', p ∈ ps ∨ W.ownsRow w.heap.size 5 1 p.2 p.1.data.length (bytes p.1.data)) : FdT w nb hv lv0 all fv' ps' d W' := by
  have hne : ∀ {b : Nat} {cs : Array Value}, Bk W b cs 36 → fv.ownBlock ≠ some b := fun k => own_ne h.fr.1 k (by decide)
  refine ⟨h.nb0, h.nb1, h.kb.of o (hne h.kb), h.kr.of o (hne h.kr), h.o.kept o (own_own h.o h.fr.1 (by decide)), ⟨h1, fun p hp => ?_⟩, gb_call h.g o fun g e => .inr (own_base h.fr.1 g e)⟩
  have hp2 : W.ownsRow w.heap.size 5 1 p.2 p.1.data.length (bytes p.1.data) := (hd p hp).elim (h.fr.2 p) id
  exact hp2.kept o (own_own hp2 h.fr.1 (by decide))

theorem FdT.set0 {w : World} {nb : Nat} {hv lv0 : Value} {all : List Nat} {fv : Value} {ps : List (Fr × Value)} {d : Int} {W : World} (h : FdT w nb hv lv0 all fv ps d W) {hv' : Value} {n : Nat} {xs : List Value} (ho : W.ownsRow w.heap.size 5 1 hv' n xs) :
    FdT w nb hv' lv0 all fv ps d (W.setCell ⟨nb, 0, none⟩ hv') ∧ (W.setCell ⟨nb, 0, none⟩ hv').ownsRow w.heap.size 5 1 hv' n xs := by
  have o := gb_set (gb_refl W (some nb)) ⟨nb, 0, none⟩ (.inl rfl) hv'
  have k := h.kb.set 0 hv'
  exact ⟨⟨h.nb0, h.nb1, k, h.kr.of o (by simpa using h.nb1), h.o.kept o (.inr (own_ne h.o h.kb (by decide))), h.fr.set h.kb (by decide) (by decide) o, gb_new h.g o h.nb0⟩, ho.kept o (.inr (own_ne ho h.kb (by decide)))⟩
theorem FdT.fin2 {w : World} {nb : Nat} {hv lv0 : Value} {all : List Nat} {fv : Value} {ps : List (Fr × Value)} {d : Int} {W : World} (h : FdT w nb hv lv0 all fv ps d W) {n : Nat} {xs : List Value} (ho : W.ownsRow w.heap.size 5 1 hv n xs) :
    Bk (setC W (w.heap.size + 1) 0 [hv, .int .i64 d]) (w.heap.size + 1) #[hv, .int .i64 d] 36 ∧ (setC W (w.heap.size + 1) 0 [hv, .int .i64 d]).ownsRow w.heap.size 5 1 hv n xs ∧ PsO (setC W (w.heap.size + 1) 0 [hv, .int .i64 d]) w.heap.size fv ps ∧ w.grownBy (setC W (w.heap.size + 1) 0 [hv, .int .i64 d]) none := by
  have o2 := setC_gb (w.heap.size + 1) [hv, .int .i64 d] W 0
  exact ⟨h.kr.all [hv, .int .i64 d] rfl, ho.kept o2 (.inr (own_ne ho h.kr (by decide))), h.fr.set h.kr (by decide) (by decide) o2, gb_new h.g o2 (by omega)⟩
theorem own_ne_row {W : World} {base gl n c m : Nat} {v : Value} {xs ys : List Value} (h : W.ownsRow base 5 1 (.slice (some ⟨gl, 0, none⟩) n c) n xs) (k : W.ownsRow base 24 3 v m ys) : v.ownBlock ≠ some gl := by
  have := own_own h k (by decide)
  simpa [Value.ownBlock, eq_comm] using this
theorem or_i64 (x y : Nat) (hx : x < 256) (hy : y < 256) : bits .or .i64 ((x : Int) * 256) (y : Int) = (x : Int) * 256 + (y : Int) :=
  bits_join .i64 31 (by decide) wraps_i64 8 _ _ (by omega) (by omega) (by omega) (by omega) (by omega) (by omega)
theorem act4_parts (l : List Nat) (h0 : 0 < l.length) : (l.getD 0 0 ≠ 126 ∧ act4 l = .drop) ∨ (l.getD 0 0 = 126 ∧ l.length = 1 ∧ act4 l = .stop) ∨ (l.getD 0 0 = 126 ∧ 1 < l.length ∧ 64 < l.getD 1 0 ∧ act4 l = .drop) ∨
    (l.getD 0 0 = 126 ∧ 1 < l.length ∧ l.getD 1 0 ≤ 64 ∧ l.length < 6 + l.getD 1 0 ∧ act4 l = .stop) ∨
    (l.getD 0 0 = 126 ∧ 6 + l.getD 1 0 ≤ l.length ∧ l.getD 1 0 ≤ 64 ∧ ((¬ crcOf 65535 ((l.drop 1).take (3 + l.getD 1 0)) = l.getD (4 + l.getD 1 0) 0 * 256 + l.getD (5 + l.getD 1 0) 0 ∧ act4 l = .drop) ∨
      (crcOf 65535 ((l.drop 1).take (3 + l.getD 1 0)) = l.getD (4 + l.getD 1 0) 0 * 256 + l.getD (5 + l.getD 1 0) 0 ∧ act4 l = .take ⟨l.getD 2 0, l.getD 3 0, (l.drop 4).take (l.getD 1 0)⟩ (6 + l.getD 1 0)))) := by
  have hne : l ≠ [] := List.length_pos_iff.1 h0
  unfold act4
  by_cases h2 : l.getD 0 0 ≠ 126
  · rw [if_neg hne, if_pos h2]
    exact .inl ⟨h2, rfl⟩
  have h2' : l.getD 0 0 = 126 := by omega
  rw [if_neg hne, if_neg h2]
  by_cases h3 : l.length = 1
  · rw [if_pos h3]
    exact .inr (.inl ⟨h2', h3, rfl⟩)
  rw [if_neg h3]
  by_cases h4 : 64 < l.getD 1 0
  · rw [if_pos h4]
    exact .inr (.inr (.inl ⟨h2', by omega, h4, rfl⟩))
  rw [if_neg h4]
  by_cases h5 : l.length < 6 + l.getD 1 0
  · rw [if_pos h5]
    exact .inr (.inr (.inr (.inl ⟨h2', by omega, by omega, h5, rfl⟩)))
  rw [if_neg h5]
  refine .inr (.inr (.inr (.inr ⟨h2', by omega, by omega, ?_⟩)))
  by_cases h6 : crcOf 65535 ((l.drop 1).take (3 + l.getD 1 0)) = l.getD (4 + l.getD 1 0) 0 * 256 + l.getD (5 + l.getD 1 0) 0
  · rw [if_pos h6]; exact .inr ⟨h6, rfl⟩
  · rw [if_neg h6]; exact .inl ⟨h6, rfl⟩

set_option maxRecDepth 100000 in
set_option maxHeartbeats 8000000 in
theorem refFeed_any (hv bv : Value) (held b : List Nat) (d : Int) (w : World) (h1 : Sl w hv 1 held.length (bytes held)) (h2 : Sl w bv 1 b.length (bytes b)) (hb1 : ∀ x ∈ held, x < 256) (hb2 : ∀ x ∈ b, x < 256)
    (hn : held.length + b.length ≤ 1000000) (hd1 : -9223372036854775808 ≤ d) (hd2 : d ≤ 2199023255552) :
    Calls Try.prog 19 #[.agg #[hv, .int .i64 d], bv] w fun e w' => ∃ hv' lv, e = .returned (.tuple #[.agg #[hv', .int .i64 (d + (feed (held ++ b)).2.1)], lv]) ∧
      w'.ownsRow w.heap.size 5 1 hv' (feed (held ++ b)).2.2.length (bytes (feed (held ++ b)).2.2) ∧ FrsO w' w.heap.size lv (feed (held ++ b)).1 ∧ w.grownBy w' none := by
  obtain ⟨a1, c1, rfl, n1, m1, _⟩ := h1.shape
  obtain ⟨a2, c2, rfl, n2, m2, _⟩ := h2.shape
  obtain ⟨ie, hie, hie1, hie2, hie3⟩ := info_parts Try.infoFrame
  obtain ⟨iu, hiu, hiu1, hiu2, hiu3⟩ := info_parts Try.infoU8
  unfold maxLen at m1 m2
  have hball : ∀ x ∈ held ++ b, x < 256 := fun x hx => (List.mem_append.1 hx).elim (hb1 x) (hb2 x)
  have hlall : (held ++ b).length = held.length + b.length := List.length_append
  obtain ⟨all, hall⟩ : ∃ all, held ++ b = all := ⟨_, rfl⟩
  have HALL := Lib.hid hall
  rw [hall] at hball hlall ⊢
  have HLA := Lib.hid hlall
  clear hall hlall
  have g0 : w.grownBy ((w.alloc (.cells #[.slice a1 held.length c1, .int .i64 d] 36)).alloc (.cells #[.slice none 0 0, .int .i64 0] 36)) none := gb_alloc (gb_alloc (gb_refl w none) _) _
  have kb := (Bk.new w #[.slice a1 held.length c1, .int .i64 d] 36).of (gb_alloc (gb_refl _ none) (.cells #[.slice none 0 0, .int .i64 0] 36)) (by simp)
  have kr := Bk.new (w.alloc (.cells #[.slice a1 held.length c1, .int .i64 d] 36)) #[.slice none 0 0, .int .i64 0] 36
  simp only [World.size_alloc] at kr
  have HS1 := Lib.hid (h1.by_ g0)
  have HS2 := Lib.hid (h2.by_ g0)
  have HG0 := Lib.hid g0
  have HKB := Lib.hid kb
  have HKR := Lib.hid kr
  clear h1 h2 g0 kr hb1 hb2
  have kbc : ((w.alloc (.cells #[.slice a1 held.length c1, .int .i64 d] 36)).alloc (.cells #[.slice none 0 0, .int .i64 0] 36)).cell? ⟨w.heap.size, 0, none⟩ = some (.slice a1 held.length c1) := kb.cell 0
  clear kb
  go_enter Try.func19, Try.ntmps19
  go_upto_region 1 with fail
  generalize (w.alloc _).alloc _ = W0 at *
  have hs0 := HG0.out.size
  have hlb : held.length + b.length ≤ 1000000 := hn
  go_wp2_with (at_builtin; first
    | (refine wpList_app _ rfl _ _ 22 rfl w.heap.size 5 iu _ 1 1 Try.underlying22 hiu hiu1 hiu2 hiu3 rfl (by omega) (.slice none 0 0) 0 [] rfl (World.ownsRow_nil _ _ _ _) (.slice a1 held.length c1) held.length (bytes held) rfl HS1.out (bytes_one _) (by simp [maxLen]; omega) (by omega) hs0 ?_; intro v1 W1 hown hg; rw [Nat.zero_add, List.nil_append] at hown; obtain ⟨xa, xc, hv⟩ := own_slc hown; subst hv; have HO1 := Lib.hid hown; have HG1 := Lib.hid (show W0.grownBy W1 none from hg); have hs1 := (gb_none HG0.out HG1.out).size; clear hown hg)
    | (refine wpList_app _ rfl _ _ 22 rfl w.heap.size 5 iu _ 1 1 Try.underlying22 hiu hiu1 hiu2 hiu3 rfl (by omega) (.slice xa held.length xc) held.length (bytes held) rfl HO1.out (.slice a2 b.length c2) b.length (bytes b) rfl (HS2.out.by_ HG1.out) (bytes_one _) (by simp [maxLen]; omega) (by omega) hs1 ?_; intro lv0 W2 hown hg; rw [← bytes_app, ← List.length_append, HALL.out] at hown; obtain ⟨ya, yc, hv⟩ := own_slc hown; have HO2 := Lib.hid hown; have HG2 := Lib.hid (gb_call (gb_none HG0.out HG1.out) hg (fun g e => .inr (own_base HO1.out g e))); have HKB2 := Lib.hid ((HKB.out.of HG1.out (by simp)).of hg (own_ne HO1.out (HKB.out.of HG1.out (by simp)) (by decide))); have HKR2 := Lib.hid ((HKR.out.of HG1.out (by simp)).of hg (own_ne HO1.out (HKR.out.of HG1.out (by simp)) (by decide))); clear hown hg; have kbd : W2.cell? ⟨w.heap.size, 1, none⟩ = some (.int .i64 d) := HKB2.out.cell 1; subst hv))
  have k6 := Bk.new W2 #[.slice none 0 0, .int .i64 d] 36
  have g6 := gb_alloc (gb_refl W2 none) (.cells #[.slice none 0 0, .int .i64 d] 36)
  have hr2 := HKR2.out.lt
  have hs2 := HG2.out.size
  have O6 := own_by HO2.out g6
  have S1 : FdT w W2.heap.size (.slice none 0 0) (.slice ya all.length yc) all (.slice none 0 0) [] d (W2.alloc (.cells #[.slice none 0 0, .int .i64 d] 36)) :=
    ⟨hs2, by omega, k6, HKR2.out.of g6 (by simp), O6, PsO.nil _ _, gb_none HG2.out g6⟩
  have hL1 := LeftV.first HO2.out
  have hbig : all.length ≤ 1000000 := by rw [HLA.out]; exact hn
  have HB := Lib.hid hball
  have HS := Lib.hid S1
  have HL := Lib.hid hL1
  clear S1 hL1 hball k6 g6 hr2 hs2 O6 HKB2 HKR2 HO2 HG2 HO1 HG1 HKB HKR HS1 HS2 kbc kbd hs0 hs1 HG0 HLA hn hlb n2 m2
  generalize W2.heap.size = nb at *
  generalize World.alloc _ _ = W3 at *
  generalize hlv0 : (Value.slice ya all.length yc) = lv0 at *
  go_loopw [6, 8] (fun x fv wr => ∃ (off dd : Nat) (ps : List (Fr × Value)), LeftV lv0 all off x ∧ FdT w nb (.slice none 0 0) lv0 all fv ps (d + dd) wr ∧ feed all = (ps.map Prod.fst ++ (feed (all.drop off)).1, dd + (feed (all.drop off)).2.1, (feed (all.drop off)).2.2) ∧ dd ≤ off ∧ ps.length ≤ off) (fun x _ _ => slLen x)
  case atStart => exact ⟨0, 0, [], by rw [← hlv0] at HL ⊢; exact HL.out, by simpa using HS.out, by simp, by omega, by simp⟩
  case round =>
    clear HS HL hlv0
    obtain ⟨off, dd, ps, hL, hS, hfd, hdd, hpl⟩ := hrel
    have hLs := hL.sl (own_sl hS.o)
    have hbl : ∀ x ∈ all.drop off, x < 256 := fun x hx => HB.out x (List.mem_of_mem_drop hx)
    have hol := hL.1
    have HFD := Lib.hid hfd
    have HSL := Lib.hid hLs
    have HBL := Lib.hid hbl
    have HSS := Lib.hid hS
    obtain ⟨fa, fc, hfv⟩ := own_slc hS.fr.1
    subst hfv
    clear hfd hLs hbl hS
    obtain ⟨l, hl⟩ : ∃ l, all.drop off = l := ⟨_, rfl⟩
    have HLL := Lib.hid hl
    rw [hl] at HFD HSL HBL
    obtain ⟨x, hx⟩ : ∃ x : Int, d + (dd : Int) = x := ⟨_, rfl⟩
    rw [hx] at HSS
    have hx1 : -9223372036854775808 ≤ x := by omega
    have hx2 : x ≤ 2199025255552 := by omega
    have HX := Lib.hid hx
    clear hx
    have hszw := HSS.out.g.size
    rcases hL with ⟨_, ⟨he, hv⟩ | ⟨hlt, gl, c0, c, hlv, hu, hc, hm⟩⟩
    · have hst : act4 l = .stop := by subst he; rw [← hl, List.drop_length]; exact act4_nil
      have HST := Lib.hid hst
      obtain ⟨q, hq⟩ : ∃ q, l.length = q := ⟨_, rfl⟩
      have hq0 : q ≤ 1000000 := by have := List.length_drop (i := off) (l := all); rw [hl, hq] at this; omega
      have HQ0 := Lib.hid hq
      rw [hq] at HSL
      clear hst hl hq
      have HSLQ := HSL
      rcases hv with rfl | ⟨a, c, rfl, hm⟩
      · clear HSL
        go_upto_region 16 with (at_builtin; go_loud (refine wpList_app _ rfl _ _ 22 rfl w.heap.size 5 iu _ 1 1 Try.underlying22 hiu hiu1 hiu2 hiu3 rfl (by omega) (.slice none 0 0) 0 [] rfl (World.ownsRow_nil _ _ _ _) (.slice none 0 0) q (bytes l) rfl HSLQ.out (bytes_one _) (by simp [maxLen]; omega) (by omega) hszw ?_); intro v1 w2 hown hg; rw [Nat.zero_add, List.nil_append] at hown; obtain ⟨va, vc, hv⟩ := own_slc hown; subst hv; have hg' : wr.grownBy w2 none := hg; have S2 := HSS.out.by_ hg'; have kbc := S2.kb.cell; have kbf := S2.kb.frozen; have HS3 := Lib.hid (S2.set0 hown); clear S2 hown hg hg')
        generalize World.setCell _ _ _ = W3 at *
        have S4 := HS3.out.1
        have k3c := S4.kb.cell
        have k3d := S4.kr.cell
        have k3f := S4.kr.frozen
        have F := S4.fin2 HS3.out.2
        simp only [setC] at F
        have HF := Lib.hid F
        clear F S4 kbc kbf
        go_wp2_with fail
        obtain ⟨fk, fo, fp, fg⟩ := HF.out
        clear k3c k3d k3f HF HS3
        generalize World.setCell _ ⟨w.heap.size + 1, 1, none⟩ _ = W9 at *
        have fkc := fk.cell
        have hfd := HFD.out
        rw [feed_stop HST.out, List.append_nil, Nat.add_zero] at hfd
        refine bodyPost_ret (v := .tuple #[.agg #[.slice va q vc, .int .i64 x], .slice fa ps.length fc]) (by simp [results, Try.results19, go_sem, fkc]) rfl ?_
        rw [hfd]
        dsimp only
        rw [HX.out]
        exact ⟨_, _, rfl, (by rw [HQ0.out]; exact fo), ⟨ps, rfl, fp⟩, fg⟩
      · unfold maxLen at hm
        clear HSL
        go_upto_region 16 with (at_builtin; go_loud (refine wpList_app _ rfl _ _ 22 rfl w.heap.size 5 iu _ 1 1 Try.underlying22 hiu hiu1 hiu2 hiu3 rfl (by omega) (.slice none 0 0) 0 [] rfl (World.ownsRow_nil _ _ _ _) (.slice (some a) 0 c) q (bytes l) rfl HSLQ.out (bytes_one _) (by simp [maxLen]; omega) (by omega) hszw ?_); intro v1 w2 hown hg; rw [Nat.zero_add, List.nil_append] at hown; obtain ⟨va, vc, hv⟩ := own_slc hown; subst hv; have hg' : wr.grownBy w2 none := hg; have S2 := HSS.out.by_ hg'; have kbc := S2.kb.cell; have kbf := S2.kb.frozen; have HS3 := Lib.hid (S2.set0 hown); clear S2 hown hg hg')
        generalize World.setCell _ _ _ = W3 at *
        have S4 := HS3.out.1
        have k3c := S4.kb.cell
        have k3d := S4.kr.cell
        have k3f := S4.kr.frozen
        have F := S4.fin2 HS3.out.2
        simp only [setC] at F
        have HF := Lib.hid F
        clear F S4 kbc kbf
        go_wp2_with fail
        obtain ⟨fk, fo, fp, fg⟩ := HF.out
        clear k3c k3d k3f HF HS3
        generalize World.setCell _ ⟨w.heap.size + 1, 1, none⟩ _ = W9 at *
        have fkc := fk.cell
        have hfd := HFD.out
        rw [feed_stop HST.out, List.append_nil, Nat.add_zero] at hfd
        refine bodyPost_ret (v := .tuple #[.agg #[.slice va q vc, .int .i64 x], .slice fa ps.length fc]) (by simp [results, Try.results19, go_sem, fkc]) rfl ?_
        rw [hfd]
        dsimp only
        rw [HX.out]
        exact ⟨_, _, rfl, (by rw [HQ0.out]; exact fo), ⟨ps, rfl, fp⟩, fg⟩
    · subst hlv hu
      generalize hn : all.length - off = q at *
      have hq : l.length = q := by rw [← hl]; exact drop_len hn
      have h0 : 0 < q := by omega
      have hcs := act4_parts l (by omega)
      have HSL2 := Lib.hid (show Sl wr (.slice (some ⟨gl, off, none⟩) l.length c) 1 l.length (bytes l) by have := HSL.out; rw [← hq] at this; exact this)
      have HSLQ := Lib.hid (show Sl wr (.slice (some ⟨gl, off, none⟩) q c) 1 q (bytes l) by have := HSL.out; rw [hq] at this; exact this)
      have HDD := Lib.hid (show ∀ k, l.drop k = all.drop (off + k) from fun k => by rw [← hl]; exact List.drop_drop ..)
      have HM := Lib.hid hm
      unfold maxLen at hm
      have hq1 : q ≤ 1000000 := by omega
      have h0' : (0 : Int) < (q : Int) := by omega
      have x0 : l.getD 0 0 < 256 := getD_lt HBL.out 0
      have x1 : l.getD 1 0 < 256 := getD_lt HBL.out 1
      have e0 : wr.cell? ⟨gl, off, none⟩ = some (.int .u8 (l.getD 0 0 : Nat)) := sl_cell HSL2.out 0 (by omega)
      have HE1 := Lib.hid (show 1 < q → wr.cell? ⟨gl, off + 1, none⟩ = some (.int .u8 (l.getD 1 0 : Nat)) from fun h => sl_cell HSL2.out 1 (by omega))
      have HQ0 := Lib.hid hq
      rw [hq] at hcs
      obtain ⟨z0, hz0⟩ : ∃ z, l.getD 0 0 = z := ⟨_, rfl⟩
      obtain ⟨y, hy⟩ : ∃ y, l.getD 1 0 = y := ⟨_, rfl⟩
      rw [hz0] at e0 x0 hcs
      rw [hy] at x1 HE1 hcs
      have HY := Lib.hid hy
      clear hl HSL hq hz0 hy
      rcases hcs with ⟨p0, q2⟩ | ⟨p0, p1, q2⟩ | ⟨p0, p1, p2, q2⟩ | ⟨p0, p1, p2, p3, q2⟩ | ⟨p0, p1, p2, q5⟩
      · have HST := Lib.hid q2
        have hb0 : ((z0 : Int) != 126) = true := bne_iff_ne.2 (by omega)
        clear q2
        have kbc : wr.cell? ⟨nb, 1, none⟩ = some (.int .i64 x) := HSS.out.kb.cell 1
        have kbf := HSS.out.kb.frozen 1
        have F9 := Lib.hid (show FdT w nb (.slice none 0 0) (.slice (some ⟨gl, 0, none⟩) all.length c0) all (.slice fa ps.length fc) ps (d + ((dd + 1 : Nat) : Int)) (wr.setCell ⟨nb, 1, none⟩ (.int .i64 (x + 1))) by
          have := HSS.out.set (x + 1)
          rw [show d + ((dd + 1 : Nat) : Int) = x + 1 by have := HX.out; omega]
          exact this)
        have E9 := Lib.hid (show feed all = (ps.map Prod.fst ++ (feed (all.drop (off + 1))).1, (dd + 1) + (feed (all.drop (off + 1))).2.1, (feed (all.drop (off + 1))).2.2) by
          have := HFD.out
          rw [feed_drop HST.out, HDD.out 1] at this
          rw [this]
          refine Prod.ext rfl (Prod.ext ?_ rfl)
          show dd + (_ + 1) = dd + 1 + _
          omega)
        clear HFD
        by_cases hc1 : c = 1
        · subst hc1
          obtain rfl : q = 1 := by omega
          go_wp2_with fail
          exact ⟨⟨off + 1, dd + 1, ps, ⟨by omega, .inl ⟨by omega, .inr ⟨_, _, rfl, by simp [maxLen]⟩⟩⟩, F9.out, E9.out, by omega, by omega⟩, by simp [slLen]⟩
        · have hc2 : 1 < c := by omega
          have hq3 : (1 : Int) ≤ (q : Int) := by omega
          go_wp2_with fail
          exact ⟨⟨off + 1, dd + 1, ps, LeftV.next (s := 1) hn.symm (by omega) hc HM.out (fun _ => rfl), F9.out, E9.out, by omega, by omega⟩, by simp [slLen]; omega⟩
      · have HST := Lib.hid q2
        subst p0
        replace e0 : wr.cell? ⟨gl, off, none⟩ = some (.int .u8 126) := e0
        have hb1 : decide ((1 : Int) < (q : Int)) = false := by simp; omega
        have hb2 : (q : Int) < 2 := by omega
        clear q2 p1 x1
        go_upto_region 16 with (at_builtin; go_loud (refine wpList_app _ rfl _ _ 22 rfl w.heap.size 5 iu _ 1 1 Try.underlying22 hiu hiu1 hiu2 hiu3 rfl (by omega) (.slice none 0 0) 0 [] rfl (World.ownsRow_nil _ _ _ _) (.slice (some ⟨gl, off, none⟩) q c) q (bytes l) rfl HSLQ.out (bytes_one _) (by simp [maxLen]; omega) (by omega) hszw ?_); intro v1 w2 hown hg; rw [Nat.zero_add, List.nil_append] at hown; obtain ⟨va, vc, hv⟩ := own_slc hown; subst hv; have hg' : wr.grownBy w2 none := hg; have S2 := HSS.out.by_ hg'; have kbc := S2.kb.cell; have kbf := S2.kb.frozen; have HS3 := Lib.hid (S2.set0 hown); clear S2 hown hg hg')
        generalize World.setCell _ _ _ = W3 at *
        have S4 := HS3.out.1
        have k3c := S4.kb.cell
        have k3d := S4.kr.cell
        have k3f := S4.kr.frozen
        have F := S4.fin2 HS3.out.2
        simp only [setC] at F
        have HF := Lib.hid F
        clear F S4 kbc kbf
        go_wp2_with fail
        obtain ⟨fk, fo, fp, fg⟩ := HF.out
        clear k3c k3d k3f HF HS3
        generalize World.setCell _ ⟨w.heap.size + 1, 1, none⟩ _ = W9 at *
        have fkc := fk.cell
        have hfd := HFD.out
        rw [feed_stop HST.out, List.append_nil, Nat.add_zero] at hfd
        refine bodyPost_ret (v := .tuple #[.agg #[.slice va q vc, .int .i64 x], .slice fa ps.length fc]) (by simp [results, Try.results19, go_sem, fkc]) rfl ?_
        rw [hfd]
        dsimp only
        rw [HX.out]
        exact ⟨_, _, rfl, (by rw [HQ0.out]; exact fo), ⟨ps, rfl, fp⟩, fg⟩
      · have HST := Lib.hid q2
        subst p0
        replace e0 : wr.cell? ⟨gl, off, none⟩ = some (.int .u8 126) := e0
        have e1 := HE1.out p1
        have hb1 : (1 : Int) < (q : Int) := by omega
        have hb2 : (64 : Int) < (y : Int) := by omega
        clear q2
        have kbc : wr.cell? ⟨nb, 1, none⟩ = some (.int .i64 x) := HSS.out.kb.cell 1
        have kbf := HSS.out.kb.frozen 1
        have F9 := Lib.hid (show FdT w nb (.slice none 0 0) (.slice (some ⟨gl, 0, none⟩) all.length c0) all (.slice fa ps.length fc) ps (d + ((dd + 1 : Nat) : Int)) (wr.setCell ⟨nb, 1, none⟩ (.int .i64 (x + 1))) by
          have := HSS.out.set (x + 1)
          rw [show d + ((dd + 1 : Nat) : Int) = x + 1 by have := HX.out; omega]
          exact this)
        have E9 := Lib.hid (show feed all = (ps.map Prod.fst ++ (feed (all.drop (off + 1))).1, (dd + 1) + (feed (all.drop (off + 1))).2.1, (feed (all.drop (off + 1))).2.2) by
          have := HFD.out
          rw [feed_drop HST.out, HDD.out 1] at this
          rw [this]
          refine Prod.ext rfl (Prod.ext ?_ rfl)
          show dd + (_ + 1) = dd + 1 + _
          omega)
        clear HFD
        by_cases hc1 : c = 1
        · omega
        · have hc2 : 1 < c := by omega
          have hq3 : (1 : Int) ≤ (q : Int) := by omega
          go_wp2_with fail
          exact ⟨⟨off + 1, dd + 1, ps, LeftV.next (s := 1) hn.symm (by omega) hc HM.out (fun _ => rfl), F9.out, E9.out, by omega, by omega⟩, by simp [slLen]; omega⟩
      · have HST := Lib.hid q2
        subst p0
        replace e0 : wr.cell? ⟨gl, off, none⟩ = some (.int .u8 126) := e0
        have e1 := HE1.out p1
        have hb1 : (1 : Int) < (q : Int) := by omega
        have hb2 : decide ((64 : Int) < (y : Int)) = false := by simp; omega
        have hb3 : decide ((q : Int) < 2) = false := by simp; omega
        have hb4 : (q : Int) < 6 + (y : Int) := by omega
        clear q2
        go_upto_region 16 with (at_builtin; go_loud (refine wpList_app _ rfl _ _ 22 rfl w.heap.size 5 iu _ 1 1 Try.underlying22 hiu hiu1 hiu2 hiu3 rfl (by omega) (.slice none 0 0) 0 [] rfl (World.ownsRow_nil _ _ _ _) (.slice (some ⟨gl, off, none⟩) q c) q (bytes l) rfl HSLQ.out (bytes_one _) (by simp [maxLen]; omega) (by omega) hszw ?_); intro v1 w2 hown hg; rw [Nat.zero_add, List.nil_append] at hown; obtain ⟨va, vc, hv⟩ := own_slc hown; subst hv; have hg' : wr.grownBy w2 none := hg; have S2 := HSS.out.by_ hg'; have kbc := S2.kb.cell; have kbf := S2.kb.frozen; have HS3 := Lib.hid (S2.set0 hown); clear S2 hown hg hg')
        generalize World.setCell _ _ _ = W3 at *
        have S4 := HS3.out.1
        have k3c := S4.kb.cell
        have k3d := S4.kr.cell
        have k3f := S4.kr.frozen
        have F := S4.fin2 HS3.out.2
        simp only [setC] at F
        have HF := Lib.hid F
        clear F S4 kbc kbf
        go_wp2_with fail
        obtain ⟨fk, fo, fp, fg⟩ := HF.out
        clear k3c k3d k3f HF HS3
        generalize World.setCell _ ⟨w.heap.size + 1, 1, none⟩ _ = W9 at *
        have fkc := fk.cell
        have hfd := HFD.out
        rw [feed_stop HST.out, List.append_nil, Nat.add_zero] at hfd
        refine bodyPost_ret (v := .tuple #[.agg #[.slice va q vc, .int .i64 x], .slice fa ps.length fc]) (by simp [results, Try.results19, go_sem, fkc]) rfl ?_
        rw [hfd]
        dsimp only
        rw [HX.out]
        exact ⟨_, _, rfl, (by rw [HQ0.out]; exact fo), ⟨ps, rfl, fp⟩, fg⟩
      · subst p0
        replace e0 : wr.cell? ⟨gl, off, none⟩ = some (.int .u8 126) := e0
        have e1 := HE1.out (by omega)
        have e4 := sl_cell HSL2.out (4 + y) (by have := HQ0.out; omega)
        have e5 := sl_cell HSL2.out (5 + y) (by have := HQ0.out; omega)
        have y4 : l.getD (4 + y) 0 < 256 := getD_lt HBL.out _
        have y5 : l.getD (5 + y) 0 < 256 := getD_lt HBL.out _
        have hs := sl_sub HSL2.out 1 (3 + y) (c - 1) (by have := HQ0.out; omega) (by omega) (by have := HM.out; omega)
        have HT := Lib.hid hs
        have HTB := Lib.hid (sub_mem (l := l) (i := 1) (m := 3 + y) HBL.out)
        have hc9 := crcOf_lt ((l.drop 1).take (3 + y)) 65535 (by omega)
        generalize (l.drop 1).take (3 + y) = t at *
        generalize l.getD (4 + y) 0 = u4 at *
        generalize l.getD (5 + y) 0 = u5 at *
        obtain ⟨cr, hcr⟩ : ∃ cr : Nat, crcOf 65535 t = cr := ⟨_, rfl⟩
        have HCR := Lib.hid hcr
        rw [hcr] at hc9 q5
        have HQ5 := Lib.hid q5
        clear hs hcr q5
        have hb1 : (1 : Int) < (q : Int) := by omega
        have hb2 : decide ((64 : Int) < (y : Int)) = false := by simp; omega
        have hb3 : decide ((q : Int) < 2) = false := by simp; omega
        have hb4 : decide ((q : Int) < 6 + (y : Int)) = false := by simp; omega
        have HT2 := Lib.hid (show Sl wr (.slice (some ⟨gl, off + 1, none⟩) (4 + y - 1) (c - 1)) 1 t.length (bytes t) by rw [show 4 + y - 1 = 3 + y by omega]; exact HT.out)
        go_upto_region 10 with fail
        have hw1 : IntKind.i64.wrap (4 + (y : Int)) = 4 + (y : Int) := IntWalk.i64_in _ (by omega)
        have hw2 : IntKind.i64.wrap (5 + (y : Int)) = 5 + (y : Int) := IntWalk.i64_in _ (by omega)
        have hw3 : IntKind.i64.wrap ((u4 : Int) * 256) = (u4 : Int) * 256 := IntWalk.i64_in _ (by omega)
        have hw4 : (4 + (y : Int)).toNat = 4 + y := by omega
        have hw5 : (5 + (y : Int)).toNat = 5 + y := by omega
        have hw6 : (1 : Int) ≤ 4 + (y : Int) := by omega
        have hw7 : 4 + (y : Int) ≤ (c : Int) := by omega
        have hw8 : 4 + (y : Int) < (q : Int) := by omega
        have hw9 : 5 + (y : Int) < (q : Int) := by omega
        have hwa : (0 : Int) ≤ 4 + (y : Int) := by omega
        have hwb : (0 : Int) ≤ 5 + (y : Int) := by omega
        have hwc : ¬ c = 1 := by omega
        have hor := or_i64 u4 u5 y4 y5
        go_quiet ((go_at_call 15; refine Calls.quiet_of_same (v := .int .i64 (cr : Int)) ?_; rw [← HCR.out]; exact check_q _ t _ HT.out HTB.out))
        rcases HQ5.out with ⟨q5, q6⟩ | ⟨q5, q6⟩
        · have HST := Lib.hid q6
          have hbn : ((cr : Int) != (u4 : Int) * 256 + (u5 : Int)) = true := bne_iff_ne.2 (by omega)
          replace HSS := Lib.hid (HSS.out.by_ (gb_drewN (gb_refl _ none) nq))
          clear q5 q6 HQ5 hw1 hw2 hw3 hw4 hw5 hw6 hw7 hw8 hw9 hwa hwb hor HT HSL2 HSLQ e0 e1 e4 e5 HE1
          generalize wr.drewN nq = w3 at *
          have kbc : w3.cell? ⟨nb, 1, none⟩ = some (.int .i64 x) := HSS.out.kb.cell 1
          have kbf := HSS.out.kb.frozen 1
          have F9 := Lib.hid (show FdT w nb (.slice none 0 0) (.slice (some ⟨gl, 0, none⟩) all.length c0) all (.slice fa ps.length fc) ps (d + ((dd + 1 : Nat) : Int)) (w3.setCell ⟨nb, 1, none⟩ (.int .i64 (x + 1))) by
            have := HSS.out.set (x + 1)
            rw [show d + ((dd + 1 : Nat) : Int) = x + 1 by have := HX.out; omega]
            exact this)
          have E9 := Lib.hid (show feed all = (ps.map Prod.fst ++ (feed (all.drop (off + 1))).1, (dd + 1) + (feed (all.drop (off + 1))).2.1, (feed (all.drop (off + 1))).2.2) by
            have := HFD.out
            rw [feed_drop HST.out, HDD.out 1] at this
            rw [this]
            refine Prod.ext rfl (Prod.ext ?_ rfl)
            show dd + (_ + 1) = dd + 1 + _
            omega)
          clear HFD
          by_cases hc1 : c = 1
          · omega
          · have hc2 : 1 < c := by omega
            have hq3 : (1 : Int) ≤ (q : Int) := by omega
            go_wp2_with fail
            exact ⟨⟨off + 1, dd + 1, ps, LeftV.next (s := 1) hn.symm (by omega) hc HM.out (fun _ => rfl), F9.out, E9.out, by omega, by omega⟩, by simp [slLen]; omega⟩
        · have hbn : ((cr : Int) != (u4 : Int) * 256 + (u5 : Int)) = false := bne_eq_false_iff_eq.2 (by omega)
          replace HSS := Lib.hid (HSS.out.by_ (gb_drewN (gb_refl _ none) nq))
          replace HSL2 := Lib.hid (HSL2.out.by_ (gb_drewN (gb_refl _ none) nq))
          have hlq := HQ0.out
          have e2 := sl_cell HSL2.out 2 (by omega)
          have e3 := sl_cell HSL2.out 3 (by omega)
          have hs4 := sl_sub HSL2.out 4 y (c - 4) (by omega) (by omega) (by have := HM.out; omega)
          have HDL := Lib.hid (sub_len l 4 y (by omega))
          have ht2 : l.getD 2 0 < 256 := getD_lt HBL.out _
          have ht3 : l.getD 3 0 < 256 := getD_lt HBL.out _
          have HST := Lib.hid q6
          rw [HDL.out] at hs4
          clear q5 q6 HQ5 hw1 hw2 hw3 hw4 hw5 hw6 hw7 hw8 hw9 hwa hwb hor HT HSLQ e0 e1 e4 e5 HE1 hlq HCR
          generalize wr.drewN nq = w3 at *
          generalize l.getD 2 0 = ad at *
          generalize l.getD 3 0 = ki at *
          generalize (l.drop 4).take y = dt at *
          go_upto_region 13 with fail
          have hw1 : IntKind.i64.wrap (4 + (y : Int)) = 4 + (y : Int) := IntWalk.i64_in _ (by omega)
          have hw2 : IntKind.i64.wrap (ad : Int) = (ad : Int) := IntWalk.i64_in _ (by omega)
          have hw3 : IntKind.i64.wrap (ki : Int) = (ki : Int) := IntWalk.i64_in _ (by omega)
          have hw4 : (4 + (y : Int)).toNat = 4 + y := by omega
          have hw6 : (4 : Int) ≤ 4 + (y : Int) := by omega
          have hw7 : 4 + (y : Int) ≤ (c : Int) := by omega
          have hw8 : (2 : Int) < (q : Int) := by omega
          have hw9 : (3 : Int) < (q : Int) := by omega
          have hwd : ¬ c = 4 := by omega
          have hbl := World.block_lt_of_cell? _ _ e2
          have e2d : w3.drew.cell? ⟨gl, off + 2, none⟩ = some (.int .u8 ad) := e2
          have e3d : w3.drew.cell? ⟨gl, off + 3, none⟩ = some (.int .u8 ki) := e3
          have HSD := Lib.hid (HSS.out.by_ (gb_drew (gb_refl w3 none)))
          have HD4 := Lib.hid (hs4.by_ (gb_drew (gb_refl w3 none)))
          have hszd : w.heap.size ≤ w3.drew.heap.size := HSD.out.g.size
          clear hs4 hszw HSS
          go_region_held3 (fun w' => w'.cell? ⟨gl, off + 2, none⟩ = some (.int .u8 ad) ∧ w'.cell? ⟨gl, off + 3, none⟩ = some (.int .u8 ki))
            (first | (with_reducible exact ⟨e2d, e3d⟩) | (with_reducible exact ⟨f2, f3⟩) | (with_reducible exact ⟨b2, b3⟩) | (with_reducible exact ⟨d2, d3⟩) | fail)
            ((first
              | (refine step_app _ (by rfl) _ _ 22 (by rfl) w.heap.size 5 iu _ 1 1 Try.underlying22 hiu hiu1 hiu2 hiu3 rfl (by omega) (.slice none 0 0) 0 [] (by rfl) (World.ownsRow_nil _ _ _ _) (.slice (some ⟨gl, off + 4, none⟩) y (c - 4)) y (bytes dt) (by rfl) HD4.out (bytes_one _) (by simp [maxLen]; omega) (by omega) hszd ?_; intro v1 w4 hown hg; rw [Nat.zero_add, List.nil_append] at hown; obtain ⟨va, vc, hve⟩ := own_slc hown; subst hve; have hg4 : w3.drew.grownBy w4 none := hg; have f2 : w4.cell? ⟨gl, off + 2, none⟩ = some (.int .u8 ad) := (by rw [← e2d]; exact gb_cell hg4 hbl (by simp) _); have f3 : w4.cell? ⟨gl, off + 3, none⟩ = some (.int .u8 ki) := (by rw [← e3d]; exact gb_cell hg4 hbl (by simp) _); have S4 := HSD.out.by_ hg4; have o5 := gb_alloc (gb_refl w4 none) (.cells #[.int .i64 ad, .int .i64 ki, .slice va y vc] 24); have hbl4 := World.block_lt_of_cell? _ _ f2; have b2 : (w4.alloc (.cells #[.int .i64 ad, .int .i64 ki, .slice va y vc] 24)).cell? ⟨gl, off + 2, none⟩ = some (.int .u8 ad) := (by rw [← f2]; exact gb_cell o5 hbl4 (by simp) _); have b3 : (w4.alloc (.cells #[.int .i64 ad, .int .i64 ki, .slice va y vc] 24)).cell? ⟨gl, off + 3, none⟩ = some (.int .u8 ki) := (by rw [← f3]; exact gb_cell o5 hbl4 (by simp) _); have S5 := S4.by_ o5; have HS5 := Lib.hid S5; have HO5 := Lib.hid (own_by hown o5); have HP := Lib.hid S5.fr.1; have HNW := Lib.hid (sl_new w4 #[.int .i64 ad, .int .i64 ki, .slice va y vc] 24 w4.heap.size rfl (sz := 3) (by simp [maxLen]) rfl); have hsz := S5.g.size; clear S4 S5 hown hg hg4 o5)
              | (refine step_app _ (by rfl) _ _ 29 (by rfl) w.heap.size 24 ie _ 3 40 Try.underlying29 hie hie1 hie2 hie3 rfl (by omega) (.slice fa ps.length fc) ps.length (ps.flatMap encFr) (by rfl) HP.out (.slice (some ⟨w4.heap.size, 0, none⟩) 1 1) 1 [.int .i64 ad, .int .i64 ki, .slice va y vc] (by rfl) HNW.out (by intro u hu; simp at hu; rcases hu with rfl | rfl | rfl <;> rfl) (by simp [maxLen]; omega) (by omega) hsz ?_; intro v' w6 hown hg6; have hbl5 := World.block_lt_of_cell? _ _ b2; have hng := own_ne_row HS5.out.o HP.out; have d2 : w6.cell? ⟨gl, off + 2, none⟩ = some (.int .u8 ad) := (by rw [← b2]; exact gb_cell hg6 hbl5 hng _); have d3 : w6.cell? ⟨gl, off + 3, none⟩ = some (.int .u8 ki) := (by rw [← b3]; exact gb_cell hg6 hbl5 hng _); have HO6 := Lib.hid hown; have HG6 := Lib.hid hg6; obtain ⟨xa, xc, hv⟩ := own_slc hown; subst hv; clear hown hg6)))
          have S6 := HS5.out.app (ps' := ps ++ [(⟨ad, ki, dt⟩, .slice va y vc)]) HG6.out (by simpa [encFr] using HO6.out) (fun p hp => by
            rcases List.mem_append.1 hp with hp | hp
            · exact .inl hp
            · right
              rw [List.mem_singleton] at hp
              subst hp
              have o := HO5.out
              dsimp only
              rw [HDL.out]
              exact o)
          have e6 := HFD.out
          rw [feed_take HST.out, HDD.out (6 + y)] at e6
          have HS6 := Lib.hid S6
          have HE6 := Lib.hid e6
          clear S6 e6 hw1 hw2 hw3 hw4 hw6 hw7 hw8 hw9 hwd e2d e3d f2 f3 b2 b3 d2 d3 e2 e3
          have hz1 : (0 : Int) ≤ 6 + (y : Int) := by omega
          have hz2 : 6 + (y : Int) ≤ (q : Int) := by omega
          have hz3 : (6 + (y : Int)).toNat = 6 + y := by omega
          go_wp2_with fail
          have e6 := HE6.out
          refine ⟨⟨off + (6 + y), dd, ps ++ [(⟨ad, ki, dt⟩, .slice va y vc)], ?_, by rw [HX.out]; exact HS6.out, by rw [e6]; simp, by omega, by simp; omega⟩, by simp only [slLen]; omega⟩
          by_cases hcs : c = 6 + y
          · rw [if_pos hcs]
            exact LeftV.next (s := 6 + y) hn.symm (by omega) hc HM.out (fun h => by omega)
          · rw [if_neg hcs]
            exact LeftV.next (s := 6 + y) hn.symm (by omega) hc HM.out (fun _ => rfl)
end Go.Proofs.Ytolkjklejcealaa
