/- The program's Feed. -/
import Derived.Test.YtolkjklejcealaaP3
namespace Go.Proofs.Ytolkjklejcealaa
open Go.RowKit
attribute [local go_sem ↓] Go.wp_at_zero Go.wp_at_succ

def encFr (p : Fr × Value) : List Value := [.int .i64 p.1.addr, .int .i64 p.1.kind, p.2]
theorem encFr_len (p : Fr × Value) : (encFr p).length = 3 := rfl
/-- Telegrams of the call's own. -/
def PsO (W : World) (base : Nat) (v : Value) (ps : List (Fr × Value)) : Prop :=
  W.ownsRow base 24 3 v ps.length (ps.flatMap encFr) ∧ ∀ p ∈ ps, W.ownsRow base 5 1 p.2 p.1.data.length (bytes p.1.data)
def FrsO (W : World) (base : Nat) (v : Value) (fs : List Fr) : Prop := ∃ ps, ps.map Prod.fst = fs ∧ PsO W base v ps
theorem PsO.nil (W : World) (base : Nat) : PsO W base (.slice none 0 0) [] := ⟨World.ownsRow_nil _ _ _ _, fun p hp => by simp at hp⟩
theorem PsO.by_ {W W' : World} {base : Nat} {v : Value} {ps : List (Fr × Value)} (h : PsO W base v ps) (g : W.grownBy W' none) : PsO W' base v ps := ⟨own_by h.1 g, fun p hp => own_by (h.2 p hp) g⟩
theorem PsO.set {W : World} {base : Nat} {v : Value} {ps : List (Fr × Value)} (h : PsO W base v ps) {b : Nat} {cs : Array Value} {T : TypeId} (k : Bk W b cs T) (h1 : 24 ≠ T) (h2 : 5 ≠ T) {W' : World} (g : W.grownBy W' (some b)) : PsO W' base v ps :=
  ⟨h.1.kept g (.inr (own_ne h.1 k h1)), fun p hp => (h.2 p hp).kept g (.inr (own_ne (h.2 p hp) k h2))⟩
theorem FrsO.by_ {W W' : World} {base : Nat} {v : Value} {fs : List Fr} (h : FrsO W base v fs) (g : W.grownBy W' none) : FrsO W' base v fs := let ⟨ps, e, h⟩ := h; ⟨ps, e, h.by_ g⟩
theorem FrsO.v {W : World} {base : Nat} {v : Value} {fs : List Fr} (h : FrsO W base v fs) : FrsV W v fs := by
  obtain ⟨ps, rfl, h, hd⟩ := h
  obtain ⟨a, cap, rfl, hn, hm, hx⟩ := (own_sl h).shape
  refine ⟨a, cap, by rw [List.length_map], by rw [List.length_map]; exact hn, hm, ?_⟩
  rw [List.length_map]
  rcases hx with hx | ⟨g, off, ha, hc⟩
  · exact .inl hx
  · refine .inr ⟨g, off, ha, fun k hk => ?_⟩
    have e := Sl.elem encFr_len (fr0, undef) hc k
    have ef : (ps.map Prod.fst).getD k fr0 = (ps.getD k (fr0, undef)).1 := by
      simp [List.getD_eq_getElem?_getD, List.getElem?_map, List.getElem?_eq_getElem hk]
    rw [ef]
    have hm2 : ps.getD k (fr0, undef) ∈ ps := by
      rw [List.getD_eq_getElem?_getD, List.getElem?_eq_getElem hk]
      exact List.getElem_mem _
    refine ⟨?_, ?_, _, ?_, own_sl (hd _ hm2)⟩
    · have := e 0 hk (by omega)
      rw [Nat.add_zero] at this
      exact this
    · have := e 1 hk (by omega)
      rw [← Nat.add_assoc] at this
      exact this
    · have := e 2 hk (by omega)
      rw [← Nat.add_assoc] at this
      exact this

/-- What is left of bytes that lie in memory of the call's own. -/
def LeftV (lv0 : Value) (all : List Nat) (off : Nat) (v : Value) : Prop :=
  off ≤ all.length ∧ ((off = all.length ∧ (v = .slice none 0 0 ∨ ∃ a c, v = .slice (some a) 0 c ∧ c ≤ maxLen)) ∨
    (off < all.length ∧ ∃ gl c0 c, lv0 = .slice (some ⟨gl, 0, none⟩) all.length c0 ∧ v = .slice (some ⟨gl, off, none⟩) (all.length - off) c ∧ all.length - off ≤ c ∧ c ≤ maxLen))
theorem LeftV.first {W : World} {base : Nat} {v : Value} {all : List Nat} (h : W.ownsRow base 5 1 v all.length (bytes all)) : LeftV v all 0 v := by
  refine ⟨Nat.zero_le _, ?_⟩
  by_cases h0 : 0 < all.length
  · obtain ⟨g, cap, rfl, _⟩ := own_open h h0
    have hc := own_cap h
    exact .inr ⟨h0, g, cap, cap, rfl, rfl, hc.1, hc.2⟩
  · left
    refine ⟨by omega, ?_⟩
    have hz : all.length = 0 := by omega
    rcases h.2 with ⟨hv, _⟩ | ⟨g, cap, cur, hv, _, _, _, hm, _⟩
    · exact .inl hv
    · rw [hz] at hv
      exact .inr ⟨_, _, hv, hm⟩
theorem LeftV.next {all : List Nat} {off s n gl c0 c : Nat} {a : Addr} (hn : n = all.length - off) (hs : off + s ≤ all.length) (hc : n ≤ c) (hm : c ≤ maxLen) (ha : off + s < all.length → a = ⟨gl, off + s, none⟩) :
    LeftV (.slice (some ⟨gl, 0, none⟩) all.length c0) all (off + s) (.slice (some a) (n - s) (c - s)) := by
  subst hn
  refine ⟨hs, ?_⟩
  by_cases h : off + s < all.length
  · rw [ha h]
    exact .inr ⟨h, gl, c0, c - s, rfl, by rw [show all.length - off - s = all.length - (off + s) by omega], by omega, by omega⟩
  · exact .inl ⟨by omega, .inr ⟨a, c - s, by rw [show all.length - off - s = 0 by omega], by omega⟩⟩
theorem drop_len {all : List Nat} {off n : Nat} (hn : all.length - off = n) : (all.drop off).length = n := by rw [List.length_drop]; exact hn
theorem LeftV.sl {W : World} {lv0 v : Value} {all : List Nat} {off : Nat} (h : LeftV lv0 all off v) (hs : Sl W lv0 1 all.length (bytes all)) : Sl W v 1 (all.drop off).length (bytes (all.drop off)) := by
  obtain ⟨hl, ⟨he, hv⟩ | ⟨hlt, gl, c0, c, rfl, rfl, hc, hm⟩⟩ := h
  · subst he
    rw [List.drop_length]
    exact ⟨rfl, .inl ⟨rfl, hv⟩⟩
  · have k := sl_sub hs off (all.length - off) c (by omega) hc hm
    rw [List.take_of_length_le (by rw [List.length_drop]; omega)] at k
    rw [Nat.zero_add] at k
    exact k

/-- While bytes are read. -/
structure FdS (w : World) (hv lv0 : Value) (all : List Nat) (fv : Value) (ps : List (Fr × Value)) (d : Int) (W : World) : Prop where
  kb : Bk W w.heap.size #[hv, .int .i64 d] 36
  kr : Bk W (w.heap.size + 1) #[.slice none 0 0, .int .i64 0] 36
  o : W.ownsRow w.heap.size 5 1 lv0 all.length (bytes all)
  fr : PsO W w.heap.size fv ps
  g : w.grownBy W none
theorem FdS.by_ {w : World} {hv lv0 : Value} {all : List Nat} {fv : Value} {ps : List (Fr × Value)} {d : Int} {W W' : World} (h : FdS w hv lv0 all fv ps d W) (o : W.grownBy W' none) : FdS w hv lv0 all fv ps d W' :=
  ⟨h.kb.of o (by simp), h.kr.of o (by simp), own_by h.o o, h.fr.by_ o, gb_none h.g o⟩
theorem FdS.set {w : World} {hv lv0 : Value} {all : List Nat} {fv : Value} {ps : List (Fr × Value)} {d : Int} {W : World} (h : FdS w hv lv0 all fv ps d W) (d' : Int) : FdS w hv lv0 all fv ps d' (W.setCell ⟨w.heap.size, 1, none⟩ (.int .i64 d')) := by
  have o := gb_set (gb_refl W (some w.heap.size)) ⟨w.heap.size, 1, none⟩ (.inl rfl) (.int .i64 d')
  have k := h.kb.set 1 (.int .i64 d')
  exact ⟨k, h.kr.of o (by simp), h.o.kept o (.inr (own_ne h.o h.kb (by decide))), h.fr.set h.kb (by decide) (by decide) o, gb_new h.g o (Nat.le_refl _)⟩
theorem FdS.fin {w : World} {hv lv0 : Value} {all : List Nat} {fv : Value} {ps : List (Fr × Value)} {d : Int} {W : World} (h : FdS w hv lv0 all fv ps d W) {hv' : Value} {l : List Nat} (ho : W.ownsRow w.heap.size 5 1 hv' l.length (bytes l)) :
    ∃ W', W' = ((W.setCell ⟨w.heap.size, 0, none⟩ hv').setCell ⟨w.heap.size + 1, 0, none⟩ hv').setCell ⟨w.heap.size + 1, 1, none⟩ (.int .i64 d) ∧
      Bk W' (w.heap.size + 1) #[hv', .int .i64 d] 36 ∧ W'.ownsRow w.heap.size 5 1 hv' l.length (bytes l) ∧ PsO W' w.heap.size fv ps ∧ w.grownBy W' none := by
  have o1 := gb_set (gb_refl W (some w.heap.size)) ⟨w.heap.size, 0, none⟩ (.inl rfl) hv'
  have k1 := h.kr.of o1 (by simp)
  have p1 := h.fr.set h.kb (by decide) (by decide) o1
  have q1 := ho.kept o1 (.inr (own_ne ho h.kb (by decide)))
  have o2 := setC_gb (w.heap.size + 1) [hv', .int .i64 d] (W.setCell ⟨w.heap.size, 0, none⟩ hv') 0
  exact ⟨_, rfl, k1.all [hv', .int .i64 d] rfl, q1.kept o2 (.inr (own_ne q1 k1 (by decide))), p1.set k1 (by decide) (by decide) o2, gb_new (gb_new h.g o1 (Nat.le_refl _)) o2 (by omega)⟩
theorem FdS.app {w : World} {hv lv0 : Value} {all : List Nat} {fv fv' : Value} {ps ps' : List (Fr × Value)} {d : Int} {W W' : World} (h : FdS w hv lv0 all fv ps d W) (o : W.grownBy W' fv.ownBlock)
    (h1 : W'.ownsRow w.heap.size 24 3 fv' ps'.length (ps'.flatMap encFr)) (hd : ∀ p ∈ ps', p ∈ ps ∨ W.ownsRow w.heap.size 5 1 p.2 p.1.data.length (bytes p.1.data)) : FdS w hv lv0 all fv' ps' d W' := by
  have hne : ∀ {b : Nat} {cs : Array Value}, Bk W b cs 36 → fv.ownBlock ≠ some b := fun k => own_ne h.fr.1 k (by decide)
  refine ⟨h.kb.of o (hne h.kb), h.kr.of o (hne h.kr), h.o.kept o (own_own h.o h.fr.1 (by decide)), ⟨h1, fun p hp => ?_⟩, gb_call h.g o fun g e => .inr (own_base h.fr.1 g e)⟩
  have hp2 : W.ownsRow w.heap.size 5 1 p.2 p.1.data.length (bytes p.1.data) := (hd p hp).elim (h.fr.2 p) id
  exact hp2.kept o (own_own hp2 h.fr.1 (by decide))

def slLen : Value → Nat
  | .slice _ n _ => n
  | _ => 0
theorem take_getD {l : List Nat} {s i : Nat} (h : i < s) : (l.take s).getD i 0 = l.getD i 0 := by
  rw [List.getD_eq_getElem?_getD, List.getElem?_take, if_pos h, List.getD_eq_getElem?_getD]
/-- What is done at the front, by the size that the program reckons. -/
theorem act4_cases (l : List Nat) (h0 : 0 < l.length) : (l.length < sizeOf4 l ∧ act4 l = .stop) ∨ (sizeOf4 l = 0 ∧ act4 l = .drop) ∨
    (sizeOf4 l = 6 + l.getD 1 0 ∧ sizeOf4 l ≤ l.length ∧ l.getD 1 0 ≤ 64 ∧ ((¬ crcOf 65535 ((l.drop 1).take (3 + l.getD 1 0)) = l.getD (4 + l.getD 1 0) 0 * 256 + l.getD (5 + l.getD 1 0) 0 ∧ act4 l = .drop) ∨
      (crcOf 65535 ((l.drop 1).take (3 + l.getD 1 0)) = l.getD (4 + l.getD 1 0) 0 * 256 + l.getD (5 + l.getD 1 0) 0 ∧ act4 l = .take ⟨l.getD 2 0, l.getD 3 0, (l.drop 4).take (l.getD 1 0)⟩ (6 + l.getD 1 0)))) := by
  have hne : l ≠ [] := List.length_pos_iff.1 h0
  unfold act4 sizeOf4
  by_cases h2 : l.getD 0 0 ≠ 126
  · rw [if_pos h2, if_neg hne, if_pos h2]
    exact .inr (.inl ⟨rfl, rfl⟩)
  rw [if_neg h2, if_neg hne, if_neg h2]
  by_cases h3 : l.length = 1
  · rw [if_pos h3, if_pos h3]
    exact .inl ⟨by omega, rfl⟩
  rw [if_neg h3, if_neg h3]
  by_cases h4 : 64 < l.getD 1 0
  · rw [if_pos h4, if_pos h4]
    exact .inr (.inl ⟨rfl, rfl⟩)
  rw [if_neg h4, if_neg h4]
  by_cases h5 : l.length < 6 + l.getD 1 0
  · rw [if_pos h5]
    exact .inl ⟨h5, rfl⟩
  rw [if_neg h5]
  refine .inr (.inr ⟨rfl, by omega, by omega, ?_⟩)
  by_cases h6 : crcOf 65535 ((l.drop 1).take (3 + l.getD 1 0)) = l.getD (4 + l.getD 1 0) 0 * 256 + l.getD (5 + l.getD 1 0) 0
  · rw [if_pos h6]; exact .inr ⟨h6, rfl⟩
  · rw [if_neg h6]; exact .inl ⟨h6, rfl⟩
end Go.Proofs.Ytolkjklejcealaa
