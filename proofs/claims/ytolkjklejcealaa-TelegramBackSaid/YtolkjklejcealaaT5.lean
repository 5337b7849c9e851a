/- The document's Write of telegrams. -/
import Derived.Test.YtolkjklejcealaaT4
namespace Go.Proofs.Ytolkjklejcealaa
open Go.RowKit
attribute [local go_sem ↓] Go.wp_at_zero Go.wp_at_succ

theorem Try.infoU8 : (Try.prog.info? 5).map (fun i => (i.zero, i.size, i.bytes)) = some (some (.int .u8 0), 1, 1) := by kernel_rfl
/-- A telegram. -/
structure Fr where
  addr : Int
  kind : Int
  data : List Nat
def crc2 (c : Nat) : List Nat := [c / 256 % 256, c % 256]
def wrFr (f : Fr) : List Nat × Int :=
  if f.addr < 0 ∨ 255 < f.addr ∨ f.kind < 0 ∨ 255 < f.kind then ([], 1)
  else if 64 < f.data.length then ([], 2)
  else ([126, f.data.length, f.addr.toNat, f.kind.toNat] ++ f.data ++ crc2 (crcOf 65535 ([f.data.length, f.addr.toNat, f.kind.toNat] ++ f.data)), 0)
theorem crcBit_lt (n b : Nat) : crcBit n b < 65536 := by
  unfold crcBit
  split
  · omega
  · exact Nat.xor_lt_two_pow (n := 16) (by omega) (by omega)
theorem crcBits_lt (b : Nat) : ∀ (k n : Nat), n < 65536 → crcBits b k n < 65536
  | 0, _, h => h
  | k + 1, _, _ => crcBits_lt b k _ (crcBit_lt _ _)
theorem crcOf_lt : ∀ (l : List Nat) (n : Nat), n < 65536 → crcOf n l < 65536
  | [], _, h => h
  | b :: l, n, h => crcOf_lt l _ (crcBits_lt b 8 n h)
/-- A list that was just laid is owned. -/
theorem own_new (W : World) (cs : Array Value) (T : TypeId) (base n : Nat) (hb : base ≤ W.heap.size) (hn : cs.size = n) (hm : n ≤ maxLen) : (W.alloc (.cells cs T)).ownsRow base T 1 (.slice (some ⟨W.heap.size, 0, none⟩) n n) n cs.toList := by
  refine ⟨by simp; omega, .inr ⟨W.heap.size, n, cs, rfl, hb, Bk.new W cs T, Nat.le_refl _, hm, by omega, ?_⟩⟩
  rw [List.take_of_length_le]
  simp; omega
theorem bytes_len (l : List Nat) : (bytes l).length = l.length * 1 := by simp [bytes]
theorem bytes_one (l : List Nat) : ∀ u ∈ bytes l, u.oneCell' = true := by
  intro u hu
  obtain ⟨x, _, rfl⟩ := List.mem_map.1 hu
  rfl
theorem bytes_app (l k : List Nat) : bytes (l ++ k) = bytes l ++ bytes k := by simp [bytes]
/-- Two elements that were just laid. -/
theorem sl_new2 (W : World) (cs : Array Value) (T : TypeId) (hs : cs.size = 2 := by rfl) : Sl (W.alloc (.cells cs T)) (.slice (some ⟨W.heap.size, 0, none⟩) 2 2) 1 2 cs.toList := by
  refine ⟨by simpa using hs, .inr ⟨_, 0, 2, rfl, Nat.le_refl _, by simp [maxLen], fun j hj => ?_⟩⟩
  rw [Nat.zero_add, (Bk.new W cs T).cell j, List.getD_eq_getElem?_getD, Array.getElem?_toList, Array.getElem?_eq_getElem (by omega)]
  rfl
/-- A slice without its first element. -/
theorem Sl.tail {w : World} {g off cap x : Nat} {l : List Nat} (h : ∀ j, j < (x :: l).length * 1 → w.cell? ⟨g, off + j, none⟩ = some ((bytes (x :: l)).getD j undef)) (hc : l.length ≤ cap) (hm : cap ≤ maxLen) : Sl w (.slice (some ⟨g, off + 1, none⟩) l.length cap) 1 l.length (bytes l) := by
  refine ⟨bytes_len l, .inr ⟨g, off + 1, cap, rfl, hc, hm, fun j hj => ?_⟩⟩
  have := h (j + 1) (by simp at hj ⊢; omega)
  rw [show off + 1 + j = off + (j + 1) by omega, this]
  simp [bytes]

theorem own_cap {w : World} {base : Nat} {e : TypeId} {size : Nat} {a : Option Addr} {n cap : Nat} {xs : List Value} (h : w.ownsRow base e size (.slice a n cap) n xs) : n ≤ cap ∧ cap ≤ maxLen := by
  rcases h.2 with ⟨h1, _⟩ | ⟨g, c, cur, h1, _, _, h2, h3, _⟩
  · injection h1 with _ h4 h5
    subst h4 h5
    exact ⟨Nat.le_refl _, Nat.zero_le _⟩
  · injection h1 with _ _ h5
    subst h5
    exact ⟨h2, h3⟩
/-- An owned list of bytes without its first one. -/
theorem own_tail {w : World} {g cap x : Nat} {l : List Nat} {n : Nat} {base : Nat} {e : TypeId} (h : w.ownsRow base e 1 (.slice (some ⟨g, 0, none⟩) n cap) n (bytes (x :: l))) (hn : n = l.length + 1) : Sl w (.slice (some ⟨g, 1, none⟩) l.length (cap - 1)) 1 l.length (bytes l) := by
  subst hn
  obtain ⟨h1, h2⟩ := own_cap h
  obtain ⟨g', c', hv, _, hc, _, _⟩ := own_open h (by omega)
  injection hv with hv1 _ hv2
  injection hv1 with hv1
  injection hv1 with hv1
  subst hv1 hv2
  have := Sl.tail (w := w) (g := g) (off := 0) (cap := cap - 1) (x := x) (l := l) (fun j hj => by
    rw [Nat.zero_add, hc j (by simpa using hj), List.getD_eq_getElem?_getD, List.getElem?_eq_getElem (by rw [bytes_len]; exact hj)]; rfl) (by omega) (by omega)
  exact this

set_option maxRecDepth 100000 in
set_option maxHeartbeats 4000000 in
theorem refWrite_any (dv : Value) (f : Fr) (w : World) (h : Sl w dv 1 f.data.length (bytes f.data)) (hb : ∀ x ∈ f.data, x < 256) :
    Calls Try.prog 13 #[.agg #[.int .i64 f.addr, .int .i64 f.kind, dv]] w fun e w' => ∃ v, e = .returned (.tuple #[v, .int .i64 (wrFr f).2]) ∧ w'.ownsRow w.heap.size 5 1 v (wrFr f).1.length (bytes (wrFr f).1) ∧ w.grownBy w' none := by
  obtain ⟨da, dc, rfl, dn, dm, hc⟩ := h.shape
  obtain ⟨ie, hie, hie1, hie2, hie3⟩ := info_parts Try.infoU8
  have k1 := Bk.new w #[.int .i64 f.addr, .int .i64 f.kind, .slice da f.data.length dc] 24
  have g1 := gb_alloc (gb_refl w none) (.cells #[.int .i64 f.addr, .int .i64 f.kind, .slice da f.data.length dc] 24)
  have h1 := h.by_ g1
  unfold maxLen at dm
  generalize hW : wrFr f = wf
  have HW := Lib.hid hW
  have HB := Lib.hid hb
  clear hc h hW hb
  go_enter Try.func13, Try.ntmps13
  go_upto_region 1 with fail
  generalize w.alloc _ = W at *
  have k1c := k1.cell
  go_cut [23] from 6 (fun s wx => s = .bool (decide (f.addr < 0 ∨ 255 < f.addr ∨ f.kind < 0 ∨ 255 < f.kind)) ∧ wx = W)
  case first =>
    have a0 : W.cell? ⟨w.heap.size, 0, none⟩ = some (.int .i64 f.addr) := k1c 0
    have a1 : W.cell? ⟨w.heap.size, 1, none⟩ = some (.int .i64 f.kind) := k1c 1
    clear k1c k1 h1 HW
    by_cases c1 : f.addr < 0
    · have c1' : decide (f.addr < 0) = true := by simpa using c1
      go_wp2_with fail
      go_meet
      exact ⟨congrArg Value.bool (by rw [decide_eq_true]; omega), rfl⟩
    have c1' : decide (f.addr < 0) = false := by simpa using c1
    by_cases c2 : 255 < f.addr
    · have c2' : decide (255 < f.addr) = true := by simpa using c2
      go_wp2_with fail
      go_meet
      exact ⟨congrArg Value.bool (by rw [decide_eq_true]; omega), rfl⟩
    have c2' : decide (255 < f.addr) = false := by simpa using c2
    by_cases c3 : f.kind < 0
    · have c3' : decide (f.kind < 0) = true := by simpa using c3
      go_wp2_with fail
      go_meet
      exact ⟨congrArg Value.bool (by rw [decide_eq_true]; omega), rfl⟩
    have c3' : decide (f.kind < 0) = false := by simpa using c3
    go_wp2_with fail
    go_meet
    refine ⟨congrArg Value.bool ?_, rfl⟩
    by_cases c4 : 255 < f.kind
    · rw [decide_eq_true c4, decide_eq_true]; omega
    · rw [decide_eq_false c4, decide_eq_false]; omega
  case rest =>
    obtain ⟨rfl, rfl⟩ := hcut
    by_cases hr : f.addr < 0 ∨ 255 < f.addr ∨ f.kind < 0 ∨ 255 < f.kind
    · have hE := HW.out
      unfold wrFr at hE
      rw [if_pos hr] at hE
      subst hE
      rw [decide_eq_true hr]
      go_wp2_with fail
      refine bodyPost_ret (v := .tuple #[.slice none 0 0, .int .i64 1]) (by simp [results, Try.results13, go_sem]) rfl ?_
      exact ⟨_, rfl, World.ownsRow_nil _ _ _ _, g1⟩
    · rw [decide_eq_false hr]
      have hE := HW.out
      unfold wrFr at hE
      rw [if_neg hr] at hE
      by_cases hl : 64 < f.data.length
      · rw [if_pos hl] at hE
        subst hE
        clear HW hr
        go_wp2_with fail
        refine bodyPost_ret (v := .tuple #[.slice none 0 0, .int .i64 2]) (by simp [results, Try.results13, go_sem]) rfl ?_
        exact ⟨_, rfl, World.ownsRow_nil _ _ _ _, g1⟩
      · rw [if_neg hl] at hE
        have hld : decide ((64 : Int) < (f.data.length : Int)) = false := by simp; omega
        obtain ⟨a, ha⟩ : ∃ a : Nat, f.addr = a := ⟨f.addr.toNat, by omega⟩
        obtain ⟨k, hk⟩ : ∃ k : Nat, f.kind = k := ⟨f.kind.toNat, by omega⟩
        rw [ha, hk, Int.toNat_natCast, Int.toNat_natCast] at hE
        have HE := Lib.hid hE
        clear hE HW
        obtain ⟨addr, kind, data⟩ := f
        dsimp only at *
        subst ha
        subst hk
        have u1 : IntKind.u8.wrap (a : Int) = (a : Int) := wraps_u8 _ (by omega) (by omega)
        have u2 : IntKind.u8.wrap (k : Int) = (k : Int) := wraps_u8 _ (by omega) (by omega)
        have u3 : IntKind.u8.wrap (data.length : Int) = (data.length : Int) := wraps_u8 _ (by omega) (by omega)
        have hl64 : data.length ≤ 64 := by omega
        have ha9 : a ≤ 255 := by omega
        have hk9 : k ≤ 255 := by omega
        clear hr hl
        have h5 := h1.by_ (gb_alloc (gb_refl wc none) (.cells #[.int .u8 126, .int .u8 data.length, .int .u8 a, .int .u8 k] 5))
        have hs := g1.size
        have hk1 := k1.lt
        have O1 := own_new wc #[.int .u8 126, .int .u8 data.length, .int .u8 a, .int .u8 k] 5 w.heap.size 4 hs rfl (by simp [maxLen])
        have HH := Lib.hid h5
        have HO := Lib.hid O1
        clear h5 O1 h1
        go_upto_region 5 with fail
        go_wp2_with (at_builtin; go_loud (refine wpList_app _ rfl _ _ 22 rfl w.heap.size 5 ie _ 1 1 Try.underlying22 hie hie1 hie2 hie3 rfl (by omega) (.slice (some ⟨wc.heap.size, 0, none⟩) 4 4) 4 [.int .u8 126, .int .u8 data.length, .int .u8 a, .int .u8 k] rfl HO.out (.slice da data.length dc) data.length (bytes data) rfl HH.out (bytes_one _) (by simp [maxLen]; omega) (by omega) (by simp; omega) ?_); intro v' w8 hown hg8; have HO8 := Lib.hid hown; have g8 := gb_new (gb_alloc g1 (.cells #[.int .u8 126, .int .u8 data.length, .int .u8 a, .int .u8 k] 5)) hg8 hs; obtain ⟨gg, cap, hv, _⟩ := own_open hown (by omega); subst hv; obtain ⟨hcap1, hcap2⟩ := own_cap hown; unfold maxLen at hcap2; have hcap3 : 1 < cap := (by omega); clear hown hg8)
        have hO8 := HO8.out
        have eL : [Value.int .u8 126, .int .u8 data.length, .int .u8 a, .int .u8 k] ++ bytes data = bytes (126 :: ([data.length, a, k] ++ data)) := by simp [bytes]
        rw [eL] at hO8
        have hS := own_tail hO8 (by simp; omega)
        rw [show ([data.length, a, k] ++ data).length = 3 + data.length by simp; omega] at hS
        have hL3 : ∀ x ∈ [data.length, a, k] ++ data, x < 256 := by
          intro x hx
          rcases List.mem_append.1 hx with hx | hx
          · simp at hx; omega
          · exact HB.out x hx
        have hc9 := crcOf_lt ([data.length, a, k] ++ data) 65535 (by omega)
        refine (check_any _ ([data.length, a, k] ++ data) _ (by rw [show ([data.length, a, k] ++ data).length = 3 + data.length by simp; omega]; exact hS) hL3).mono ?_
        clear hS hL3 eL
        have HE1 := HE.out
        clear HE
        generalize crcOf 65535 ([data.length, a, k] ++ data) = c at *
        rintro e w9 ⟨rfl, g9⟩
        have hO9 := own_by hO8 g9
        have g9' := gb_none g8 g9
        have hs9 := g9'.size
        obtain ⟨ch, hch, hch2⟩ : ∃ ch : Nat, c / 256 = ch ∧ ch < 256 := ⟨_, rfl, by omega⟩
        obtain ⟨cl, hcl, hcl2⟩ : ∃ cl : Nat, c % 256 = cl ∧ cl < 256 := ⟨_, rfl, by omega⟩
        have u4 : IntKind.u8.wrap ((c : Int) / 256) = (ch : Int) := by rw [IntKind.wrap_u8]; omega
        have u5 : IntKind.u8.wrap (c : Int) = (cl : Int) := by rw [IntKind.wrap_u8]; omega
        have O2 := own_by hO9 (gb_alloc (gb_refl w9 none) (.cells #[.int .u8 ch, .int .u8 cl] 5))
        have S2 := sl_new2 w9 #[.int .u8 ch, .int .u8 cl] 5
        have HE2 := Lib.hid (show wf = (126 :: ([data.length, a, k] ++ data) ++ [ch, cl], 0) by rw [← HE1, crc2, hch, hcl, Nat.mod_eq_of_lt hch2]; simp)
        have HS2 := Lib.hid S2
        have HO2 := Lib.hid O2
        clear hO8 hO9 HO8 HO HH g9 hch hcl HE1 O2 S2 hc9
        go_upto_region 7 with fail
        go_wp2_with (at_builtin; go_loud (refine wpList_app _ rfl _ _ 22 rfl w.heap.size 5 ie _ 1 1 Try.underlying22 hie hie1 hie2 hie3 rfl (by omega) (.slice (some ⟨gg, 0, none⟩) (4 + data.length) cap) (4 + data.length) (bytes (126 :: ([data.length, a, k] ++ data))) rfl HO2.out (.slice (some ⟨w9.heap.size, 0, none⟩) 2 2) 2 (bytes [ch, cl]) rfl HS2.out (bytes_one _) (by simp [maxLen]; omega) (by omega) (by simp; omega) ?_); intro v' w10 hown hg10; have HO10 := Lib.hid hown; have g10 := gb_call (gb_alloc g9' (.cells #[.int .u8 ch, .int .u8 cl] 5)) hg10 (fun g e => .inr (own_base HO2.out g e)); obtain ⟨xa, xc, hv⟩ := own_slc hown; subst hv; clear hown hg10)
        refine bodyPost_ret (v := .tuple #[.slice xa (4 + data.length + 2) xc, .int .i64 0]) (by simp [results, Try.results13, go_sem]) rfl ?_
        rw [HE2.out]
        refine ⟨_, rfl, ?_, g10⟩
        have o := HO10.out
        rw [← bytes_app] at o
        rw [show (126 :: ([data.length, a, k] ++ data) ++ [ch, cl], (0 : Int)).1.length = 4 + data.length + 2 by simp; omega]
        exact o
end Go.Proofs.Ytolkjklejcealaa
