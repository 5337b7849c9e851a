/- The statement TelegramBack: what was written is read; the walk. -/
import Derived.Test.YtolkjklejcealaaF2
namespace Go.Proofs.Ytolkjklejcealaa
open Go.RowKit
attribute [local go_sem ↓] Go.wp_at_zero Go.wp_at_succ

/-- A telegram that was written is taken. -/
theorem wr_take (f : Fr) (h1 : 0 ≤ f.addr ∧ f.addr ≤ 255) (h2 : 0 ≤ f.kind ∧ f.kind ≤ 255) (h3 : f.data.length ≤ 64) : act4 (wrFr f).1 = .take f (6 + f.data.length) := by
  obtain ⟨_, hlen, hw⟩ := wrFr_ok f h1 h2 h3
  obtain ⟨addr, kind, data⟩ := f
  dsimp only at *
  generalize hd : data.length = d at *
  obtain ⟨a, rfl⟩ : ∃ a : Nat, addr = a := ⟨addr.toNat, by omega⟩
  obtain ⟨k, rfl⟩ : ∃ k : Nat, kind = k := ⟨kind.toNat, by omega⟩
  rw [Int.toNat_natCast, Int.toNat_natCast] at hw
  generalize (wrFr ⟨a, k, data⟩).1 = x at *
  have c0 : x.getD 0 0 = 126 := by rw [hw]; rfl
  have c1 : x.getD 1 0 = d := by rw [hw]; rfl
  have c2 : x.getD 2 0 = a := by rw [hw]; rfl
  have c3 : x.getD 3 0 = k := by rw [hw]; rfl
  have hdr : (x.drop 1).take (3 + d) = [d, a, k] ++ data := by
    rw [hw, List.append_assoc]
    simp only [List.cons_append, List.nil_append, List.drop_succ_cons, List.drop_zero]
    rw [show 3 + d = d + 3 by omega]
    simp only [List.take_succ_cons]
    rw [List.take_append_of_le_length (by omega), List.take_of_length_le (by omega)]
  have hd4 : (x.drop 4).take d = data := by
    rw [hw, List.append_assoc]
    simp only [List.cons_append, List.nil_append, List.drop_succ_cons, List.drop_zero]
    rw [List.take_append_of_le_length (by omega), List.take_of_length_le (by omega)]
  have hcl := crcOf_lt ([d, a, k] ++ data) 65535 (by omega)
  have g1 : x.getD (4 + d) 0 = crcOf 65535 ([d, a, k] ++ data) / 256 % 256 := by
    rw [hw, List.getD_eq_getElem?_getD, List.getElem?_append_right (by simp; omega)]
    simp [crc2, hd, show 4 + d - (d + 4) = 0 by omega]
  have g2 : x.getD (5 + d) 0 = crcOf 65535 ([d, a, k] ++ data) % 256 := by
    rw [hw, List.getD_eq_getElem?_getD, List.getElem?_append_right (by simp; omega)]
    simp [crc2, hd, show 5 + d - (d + 4) = 1 by omega]
  unfold act4
  rw [if_neg (by rintro rfl; simp at hlen; omega), if_neg (by rw [c0]; simp), if_neg (by omega), c1, if_neg (by omega), if_neg (by omega), hdr, g1, g2, if_pos (by omega), c2, c3, hd4]
theorem feed_wr (f : Fr) (h1 : 0 ≤ f.addr ∧ f.addr ≤ 255) (h2 : 0 ≤ f.kind ∧ f.kind ≤ 255) (h3 : f.data.length ≤ 64) : feed (wrFr f).1 = ([f], 0, []) := by
  have h := wr_take f h1 h2 h3
  have hl := (wrFr_ok f h1 h2 h3).2.1
  have e : feed [] = ([], 0, []) := rfl
  rw [feed_take h, List.drop_eq_nil_of_le (by omega), e]
theorem feed_snoc {al : List Nat} {fs : List Fr} (h : feed al = (fs, 0, [])) (f : Fr) (h1 : 0 ≤ f.addr ∧ f.addr ≤ 255) (h2 : 0 ≤ f.kind ∧ f.kind ≤ 255) (h3 : f.data.length ≤ 64) : feed (al ++ (wrFr f).1) = (fs ++ [f], 0, []) := by
  rw [feed_app _ _ al (Nat.le_refl _), h]
  dsimp only
  rw [List.nil_append, feed_wr f h1 h2 h3]
  rfl
/-- Behind any bytes a telegram is found, or another one before it. -/
theorem feed_far (f : Fr) (n : Nat) (h : act4 (wrFr f).1 = .take f n) (z : List Nat) (hz : 70 ≤ (wrFr f).1.length + z.length) : ∀ x : List Nat, (feed (x ++ ((wrFr f).1 ++ z))).1 ≠ [] := by
  intro x
  induction x with
  | nil =>
    rw [List.nil_append, feed_take (act4_take_app h)]
    simp
  | cons b x ih =>
    cases ha : act4 (b :: x ++ ((wrFr f).1 ++ z)) with
    | stop =>
      exfalso
      have hlen : (b :: x ++ ((wrFr f).1 ++ z)).length = 1 + x.length + ((wrFr f).1.length + z.length) := by simp; omega
      rcases act4_parts _ (show 0 < (b :: x ++ ((wrFr f).1 ++ z)).length by omega) with ⟨_, q⟩ | ⟨_, p1, _⟩ | ⟨_, _, _, q⟩ | ⟨_, _, p2, p3, _⟩ | ⟨_, _, _, ⟨_, q⟩ | ⟨_, q⟩⟩
      · rw [q] at ha; cases ha
      · omega
      · rw [q] at ha; cases ha
      · omega
      · rw [q] at ha; cases ha
      · rw [q] at ha; cases ha
    | drop =>
      rw [feed_drop ha]
      simpa using ih
    | take g m =>
      rw [feed_take ha]
      simp
def fr200 : Fr := ⟨200, 77, [1]⟩
theorem wr200_e : (wrFr fr200).2 = 0 := by kernel_rfl
theorem wr200_n : (wrFr fr200).1.length = 7 := by kernel_rfl
theorem far_ne (x : List Nat) : (feed (x ++ ((wrFr fr200).1 ++ List.replicate 75 0))).1 ≠ [] :=
  feed_far fr200 7 (wr_take fr200 (by decide) (by decide) (by decide)) _ (by rw [wr200_n]; simp) x

theorem psV {W : World} {base : Nat} {v : Value} {ps : List (Fr × Value)} (h : W.ownsRow base 24 3 v ps.length (ps.flatMap encFr)) (hd : ∀ p ∈ ps, Sl W p.2 1 p.1.data.length (bytes p.1.data)) : FrsV W v (ps.map Prod.fst) := by
  obtain ⟨a, cap, rfl, hn, hm, hx⟩ := (own_sl h).shape
  refine ⟨a, cap, by rw [List.length_map], by rw [List.length_map]; exact hn, hm, ?_⟩
  rw [List.length_map]
  rcases hx with hx | ⟨g, off, ha, hc⟩
  · exact .inl hx
  · refine .inr ⟨g, off, ha, fun k hk => ?_⟩
    have e := Sl.elem encFr_len (fr0, undef) hc k
    have ef : (ps.map Prod.fst).getD k fr0 = (ps.getD k (fr0, undef)).1 := by
      simp [List.getD_eq_getElem?_getD, List.getElem?_map, List.getElem?_eq_getElem hk]
    rw [ef]
    have hm2 : ps.getD k (fr0, undef) ∈ ps := by
      rw [List.getD_eq_getElem?_getD, List.getElem?_eq_getElem hk]
      exact List.getElem_mem _
    refine ⟨?_, ?_, _, ?_, hd _ hm2⟩
    · have := e 0 hk (by omega)
      rw [Nat.add_zero] at this
      exact this
    · have := e 1 hk (by omega)
      rw [← Nat.add_assoc] at this
      exact this
    · have := e 2 hk (by omega)
      rw [← Nat.add_assoc] at this
      exact this

/-- While telegrams are drawn and written one behind the other. -/
structure BkS (w : World) (b : Nat) (lc : List Nat) (av : Value) (al : List Nat) (wv : Value) (ps : List (Fr × Value)) (W : World) : Prop where
  cd : ∃ j, CdAt W b lc j
  o : W.ownsRow w.heap.size 5 1 av al.length (bytes al)
  big : al.length = 0 ∧ av = .slice none 0 0 ∨ 3 ≤ al.length
  fr : W.ownsRow w.heap.size 24 3 wv ps.length (ps.flatMap encFr)
  da : ∀ p ∈ ps, DataK W p.2 p.1.data
  g : w.grownBy W (some b)
  lt : b < w.heap.size
theorem BkS.by_ {w : World} {b : Nat} {lc : List Nat} {av : Value} {al : List Nat} {wv : Value} {ps : List (Fr × Value)} {W W' : World} (h : BkS w b lc av al wv ps W) (o : W.grownBy W' none) : BkS w b lc av al wv ps W' :=
  let ⟨j, c⟩ := h.cd
  ⟨⟨j, c.keep o (fun g e => by cases e)⟩, own_by h.o o, h.big, own_by h.fr o, fun p hp => (h.da p hp).by_ o, gb_none h.g o, h.lt⟩
theorem BkS.draw {w : World} {b : Nat} {lc : List Nat} {av : Value} {al : List Nat} {wv : Value} {ps : List (Fr × Value)} {W W' : World} (h : BkS w b lc av al wv ps W) (c : ∃ j, CdAt W' b lc j) (o : W.grownBy W' (some b)) : BkS w b lc av al wv ps W' := by
  obtain ⟨j, c0⟩ := h.cd
  obtain ⟨_, _, kb⟩ := c0.bk
  exact ⟨c, h.o.kept o (.inr fun e => by have := own_base h.o _ e; have := h.lt; omega), h.big, h.fr.kept o (.inr fun e => by have := own_base h.fr _ e; have := h.lt; omega),
    fun p hp => (h.da p hp).of o (fun g x y k e => by injection e with e; subst e; exact (kb.ne k (by decide)) rfl), gb_same h.g o, h.lt⟩
theorem BkS.appA {w : World} {b : Nat} {lc : List Nat} {av av' : Value} {al al' : List Nat} {wv : Value} {ps : List (Fr × Value)} {W W' : World} (h : BkS w b lc av al wv ps W) (o : W.grownBy W' av.ownBlock) (ho : W'.ownsRow w.heap.size 5 1 av' al'.length (bytes al')) (hb : 3 ≤ al'.length) : BkS w b lc av' al' wv ps W' :=
  let ⟨j, c⟩ := h.cd
  ⟨⟨j, c.keep o (fun g e => by have := own_base h.o g e; have := h.lt; omega)⟩, ho, .inr hb, h.fr.kept o (own_own h.fr h.o (by decide)), fun p hp => (h.da p hp).of o (fun g x y k => own_big h.o h.big k), gb_call h.g o (fun g e => .inr (own_base h.o g e)), h.lt⟩
theorem BkS.appW {w : World} {b : Nat} {lc : List Nat} {av : Value} {al : List Nat} {wv wv' : Value} {ps ps' : List (Fr × Value)} {W W' : World} (h : BkS w b lc av al wv ps W) (o : W.grownBy W' wv.ownBlock) (ho : W'.ownsRow w.heap.size 24 3 wv' ps'.length (ps'.flatMap encFr))
    (hd : ∀ p ∈ ps', p ∈ ps ∨ DataK W p.2 p.1.data) : BkS w b lc av al wv' ps' W' :=
  let ⟨j, c⟩ := h.cd
  ⟨⟨j, c.keep o (fun g e => by have := own_base h.fr g e; have := h.lt; omega)⟩, h.o.kept o (own_own h.o h.fr (by decide)), h.big, ho, fun p hp => ((hd p hp).elim (h.da p) id).of o (fun g x y k => own_ne h.fr k (by decide)), gb_call h.g o (fun g e => .inr (own_base h.fr g e)), h.lt⟩
theorem sl_bk {W : World} {n : Nat} {cs : Array Value} {T : TypeId} {sz : Nat} (k : Bk W n cs T) (hs : cs.size = sz) : Sl W (.slice (some ⟨n, 0, none⟩) 1 1) sz 1 cs.toList := by
  refine ⟨by simpa using hs, .inr ⟨_, 0, 1, rfl, Nat.le_refl _, by simp [maxLen], fun j hj => ?_⟩⟩
  rw [Nat.zero_add, k.cell j, List.getD_eq_getElem?_getD, Array.getElem?_toList, Array.getElem?_eq_getElem (by omega)]
  rfl
end Go.Proofs.Ytolkjklejcealaa
