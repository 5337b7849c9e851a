/- The document's Check of telegrams. -/
import Derived.Test.YtolkjklejcealaaBa
import Derived.Laws.BitsLemmas
namespace Go.Proofs.Ytolkjklejcealaa
open Go.RowKit
attribute [local go_sem ↓] Go.wp_at_zero Go.wp_at_succ

theorem wraps_i64 (n : Int) (h₀ : 0 ≤ n) (h₁ : n < 2 ^ 31) : IntKind.i64.wrap n = n := by rw [IntKind.wrap_i64]; omega
theorem and1_i64 (x : Int) (h : 0 ≤ x ∧ x < 2 ^ 31) : bits .and .i64 x 1 = x % 2 := bits_mask .i64 31 (by decide) wraps_i64 1 (by decide) x h.1 h.2
theorem mask16_i64 (x : Int) (h : 0 ≤ x ∧ x < 2 ^ 31) : bits .and .i64 x 65535 = x % 65536 := bits_mask .i64 31 (by decide) wraps_i64 16 (by decide) x h.1 h.2
theorem and1_u8 (x : Int) (h : 0 ≤ x ∧ x < 2 ^ 8) : bits .and .u8 x 1 = x % 2 := bits_mask .u8 8 (by decide) wraps_u8 1 (by decide) x h.1 h.2
theorem xor_i64 (a b : Nat) (ha : a < 2 ^ 31) (hb : b < 2 ^ 31) : bits .xor .i64 (a : Int) (b : Int) = ((a ^^^ b : Nat) : Int) := by
  have ha' : a % 2 ^ IntKind.i64.bits = a := Nat.mod_eq_of_lt (Nat.lt_of_lt_of_le ha (by decide))
  have hb' : b % 2 ^ IntKind.i64.bits = b := Nat.mod_eq_of_lt (Nat.lt_of_lt_of_le hb (by decide))
  simp only [bits, BitVec.ofInt_natCast, BitVec.toNat_xor, BitVec.toNat_ofNat, ha', hb']
  exact wraps_i64 _ (Int.natCast_nonneg _) (by exact_mod_cast Nat.xor_lt_two_pow ha hb)
def bytes (l : List Nat) : List Value := l.map fun (x : Nat) => Value.int .u8 (x : Int)
def crcBit (n bit : Nat) : Nat := if n / 32768 % 2 = bit then n * 2 % 65536 else (n * 2 % 65536) ^^^ 4129
/-- The bits k - 1 .. 0 of a byte. -/
def crcBits (b : Nat) : Nat → Nat → Nat
  | 0, n => n
  | k + 1, n => crcBits b k (crcBit n (b / 2 ^ k % 2))
def crcOf : Nat → List Nat → Nat
  | n, [] => n
  | n, b :: l => crcOf (crcBits b 8 n) l

set_option maxHeartbeats 2000000 in
theorem check_any (v : Value) (l : List Nat) (w : World) (h : Sl w v 1 l.length (bytes l)) (hb : ∀ x ∈ l, x < 256) :
    Calls Try.prog 15 #[v] w fun e w' => e = .returned (.int .i64 (crcOf 65535 l : Nat)) ∧ w.grownBy w' none := by
  obtain ⟨a, cap, rfl, hn, hm, hc⟩ := h.shape
  unfold maxLen at hm
  have HC := Lib.hid hc
  have HB := Lib.hid hb
  clear h hc hb
  go_enter Try.func15, Try.ntmps15
  go_wp2_with fail
  go_loopw [3, 4] (fun n i wr => ∃ (k c : Nat), k ≤ l.length ∧ i = .int .i64 k ∧ n = .int .i64 c ∧ c < 65536 ∧ crcOf 65535 l = crcOf c (l.drop k) ∧ w.grownBy wr none) (fun _ i _ => l.length - (intOf i).toNat)
  case atStart => exact ⟨0, 65535, Nat.zero_le _, rfl, rfl, by omega, rfl, gb_refl _ _⟩
  case round =>
    obtain ⟨k, c, hk, rfl, rfl, hc, he, hg⟩ := hrel
    have HE := Lib.hid he
    clear he
    by_cases hlt : k < l.length
    · obtain ⟨g, off, rfl, hcell⟩ : ∃ g off, a = some ⟨g, off, none⟩ ∧ ∀ j, j < l.length * 1 → w.cell? ⟨g, off + j, none⟩ = some ((bytes l).getD j undef) := by
        rcases HC.out with h | h
        · omega
        · exact h
      have e0 : wr.cell? ⟨g, off + k, none⟩ = some (.int .u8 (l.getD k 0 : Nat)) := by
        have e := hcell k (by omega)
        rw [← gb_cell hg (World.block_lt_of_cell? _ _ e) (by simp)] at e
        rw [e]
        simp [bytes, List.getD_eq_getElem?_getD, List.getElem?_eq_getElem hlt]
      have hbl : l.getD k 0 < 256 := HB.out _ (by rw [List.getD_eq_getElem?_getD, List.getElem?_eq_getElem hlt]; exact List.getElem_mem _)
      clear hcell
      have hgb' : l[k] = l.getD k 0 := by simp [List.getD_eq_getElem?_getD, List.getElem?_eq_getElem hlt]
      generalize l.getD k 0 = b at *
      have HGB := Lib.hid hgb'
      clear hgb'
      go_wp2_with fail
      go_loopw [3, 5] (fun n i wx => ∃ (j c' : Nat), j ≤ 8 ∧ i = .int .i64 ((j : Int) - 1) ∧ n = .int .i64 c' ∧ c' < 65536 ∧ crcBits b 8 c = crcBits b j c' ∧ wr.grownBy wx none) (fun _ i _ => (intOf i + 1).toNat)
      case atStart => exact ⟨8, c, by omega, rfl, rfl, hc, rfl, gb_refl _ _⟩
      case round =>
        obtain ⟨j, c', hj, rfl, rfl, hc', he', hg'⟩ := hrel
        cases j with
        | zero =>
          have HS := Lib.hid (show crcOf 65535 l = crcOf c' (l.drop (k + 1)) by
            rw [HE.out, List.drop_eq_getElem_cons hlt, crcOf, HGB.out, he']; rfl)
          clear he'
          go_wp2_with fail
          exact ⟨⟨k + 1, c', by omega, by go_num, rfl, hc', HS.out, gb_none hg hg'⟩, by simp [intOf]; omega⟩
        | succ j =>
          have e1 : wr.cell? ⟨g, off + k, none⟩ = some (.int .u8 (b : Nat)) := by
            rw [← e0]; exact gb_cell hg' (World.block_lt_of_cell? _ _ e0) (by simp) _
          have i0 : (0 : Int) ≤ (k : Int) := by omega
          have i1 : (k : Int) < (l.length : Int) := by omega
          have HE' := Lib.hid he'
          clear he' e0
          obtain ⟨t, ht, ht2⟩ : ∃ t : Nat, b / 2 ^ j = t ∧ t < 256 := ⟨_, rfl, by have := Nat.div_le_self b (2 ^ j); omega⟩
          have hcast : (b : Int) / 2 ^ j = (t : Int) := by rw [← ht]; simp
          obtain ⟨u, hu, hu2⟩ : ∃ u : Nat, t % 2 = u ∧ u < 2 := ⟨_, rfl, Nat.mod_lt _ (by omega)⟩
          obtain ⟨v, hv⟩ : ∃ v : Nat, c' / 32768 % 2 = v := ⟨_, rfl⟩
          obtain ⟨z, hz, hz2⟩ : ∃ z : Nat, c' * 2 % 65536 = z ∧ z < 65536 := ⟨_, rfl, Nat.mod_lt _ (by omega)⟩
          obtain ⟨y, hy, hx⟩ : ∃ y : Nat, z ^^^ 4129 = y ∧ y < 65536 := ⟨_, rfl, Nat.xor_lt_two_pow (n := 16) (by omega) (by omega)⟩
          have n1 : bits .and .i64 ((c' : Int) / 32768) 1 = (v : Int) := by rw [and1_i64 _ (by omega)]; omega
          have n2 : bits .and .u8 (t : Int) 1 = (u : Int) := by rw [and1_u8 _ (by omega)]; omega
          have n3 : bits .and .i64 ((c' : Int) * 2) 65535 = (z : Int) := by rw [mask16_i64 _ (by omega)]; omega
          have n4 : bits .xor .i64 (z : Int) 4129 = (y : Int) := by
            have h := xor_i64 z 4129 (by omega) (by omega)
            rw [hy] at h
            exact h
          have n5 : wrap64 (u : Int) = (u : Int) := IntWalk.wrap64_in _ (by omega)
          have HN := Lib.hid (show crcBits b 8 c = crcBits b j (if v = u then z else y) by rw [HE'.out, crcBits, ht, crcBit, hv, hu, hz, hy])
          have HZ := Lib.hid hz2
          have HY := Lib.hid hx
          clear HE' ht hy hz hu hv hu2 hz2 hx ht2
          by_cases hq : v = u
          · subst hq
            have HS := Lib.hid (show crcBits b 8 c = crcBits b j z by rw [HN.out, if_pos rfl])
            clear HN
            go_wp2_with fail
            clear n1 n2 n3 n4 n5
            exact ⟨⟨j, z, by omega, rfl, rfl, HZ.out, HS.out, hg'⟩, by simp [intOf]⟩
          · have HS := Lib.hid (show crcBits b 8 c = crcBits b j y by rw [HN.out, if_neg hq])
            have q1 : ((v : Int) != (u : Int)) = true := bne_iff_ne.2 fun h => hq (Int.ofNat_inj.1 h)
            clear HN
            go_wp2_with fail
            clear n1 n2 n3 n4 n5
            exact ⟨⟨j, y, by omega, rfl, rfl, HY.out, HS.out, hg'⟩, by simp [intOf]⟩
    · obtain rfl : k = l.length := by omega
      have HS := Lib.hid (show crcOf 65535 l = c by rw [HE.out, List.drop_length]; rfl)
      have HG := Lib.hid hg
      clear hg HE
      go_wp2_with fail
      go_ret
      exact ⟨by rw [HS.out]; rfl, HG.out⟩
end Go.Proofs.Ytolkjklejcealaa
