/- Stage 5, the program's within, Check, Nothing, greatest, tellsState. -/
import Derived.Test.YtackckljldpldaaV5
namespace Go.Proofs.Ytackckljldpldaa
open Go.RowKit
attribute [local go_sem ↓] Go.wp_at_zero Go.wp_at_succ

def inAll (lo hi : Int) : List Int → Bool
  | [] => true
  | x :: xs => if x < lo ∨ hi < x then false else inAll lo hi xs
def ints (xs : List Int) : List Value := xs.map (Value.int .i64)

set_option maxHeartbeats 2000000 in
theorem within_any (lo hi : Int) (v : Value) (xs : List Int) (w : World) (h : Sl w v 1 xs.length (ints xs)) :
    Calls Try.prog 45 #[.int .i64 lo, .int .i64 hi, v] w fun e w' => e = .returned (.bool (inAll lo hi xs)) ∧ w' = w := by
  obtain ⟨a, cap, rfl, hn, hm, hc⟩ := h.shape
  unfold maxLen at hm
  have HC := Lib.hid hc
  clear h hc
  go_enter Try.func45, Try.ntmps45
  go_wp2_with fail
  go_loopw [11] (fun i wr => ∃ (k : Nat), k ≤ xs.length ∧ i = .int .i64 k ∧ inAll lo hi xs = inAll lo hi (xs.drop k) ∧ wr = w) (fun i _ => xs.length - (intOf i).toNat)
  case atStart => exact ⟨0, Nat.zero_le _, rfl, rfl, rfl⟩
  case round =>
    obtain ⟨k, hk, rfl, he, rfl⟩ := hrel
    have HE := Lib.hid he
    clear he
    by_cases hlt : k < xs.length
    · obtain ⟨g, off, rfl, hcell⟩ : ∃ g off, a = some ⟨g, off, none⟩ ∧ ∀ j, j < xs.length * 1 → wr.cell? ⟨g, off + j, none⟩ = some ((ints xs).getD j undef) := by
        rcases HC.out with h | h
        · omega
        · exact h
      have e0 : wr.cell? ⟨g, off + k, none⟩ = some (.int .i64 (xs.getD k 0)) := by
        rw [hcell k (by omega)]
        simp [ints, List.getD_eq_getElem?_getD, List.getElem?_eq_getElem hlt]
      clear hcell
      have hst : xs.drop k = xs.getD k 0 :: xs.drop (k + 1) := by
        rw [List.drop_eq_getElem_cons hlt]
        simp [List.getD_eq_getElem?_getD, List.getElem?_eq_getElem hlt]
      generalize xs.getD k 0 = x at *
      have HS := Lib.hid (show inAll lo hi xs = (if x < lo ∨ hi < x then false else inAll lo hi (xs.drop (k + 1))) by rw [HE.out, hst, inAll])
      clear hst
      have i0 : (0 : Int) ≤ (k : Int) := by omega
      have i1 : (k : Int) < (xs.length : Int) := by omega
      by_cases c1 : x < lo
      · have c1' : decide (x < lo) = true := by simpa using c1
        have HT := Lib.hid (show inAll lo hi xs = false by rw [HS.out, if_pos (.inl c1)])
        go_wp2_with fail
        go_ret
        exact ⟨by rw [HT.out]; rfl, rfl⟩
      · have c1' : decide (x < lo) = false := by simpa using c1
        by_cases c2 : hi < x
        · have c2' : decide (hi < x) = true := by simpa using c2
          have HT := Lib.hid (show inAll lo hi xs = false by rw [HS.out, if_pos (.inr c2)])
          go_wp2_with fail
          go_ret
          exact ⟨by rw [HT.out]; rfl, rfl⟩
        · have c2' : decide (hi < x) = false := by simpa using c2
          have HT := Lib.hid (show inAll lo hi xs = inAll lo hi (xs.drop (k + 1)) by rw [HS.out, if_neg (by omega)])
          go_wp2_with fail
          exact ⟨⟨k + 1, by omega, by go_num, HT.out, by trivial⟩, by simp [intOf]; omega⟩
    · obtain rfl : k = xs.length := by omega
      have HT := Lib.hid (show inAll lo hi xs = true by rw [HE.out, List.drop_length]; rfl)
      go_wp2_with fail
      go_ret
      exact ⟨by rw [HT.out]; rfl, rfl⟩

theorem in1 (lo hi x : Int) : inAll lo hi [x] = decide (lo ≤ x ∧ x ≤ hi) := by
  unfold inAll; unfold inAll
  by_cases h : lo ≤ x ∧ x ≤ hi
  · rw [if_neg (by omega), decide_eq_true h]
  · rw [if_pos (by omega), decide_eq_false h]
theorem in2 (lo hi x y : Int) : inAll lo hi [x, y] = decide ((lo ≤ x ∧ x ≤ hi) ∧ (lo ≤ y ∧ y ≤ hi)) := by
  rw [inAll, in1]
  by_cases h : lo ≤ x ∧ x ≤ hi
  · rw [if_neg (by omega)]; simp [h]
  · rw [if_pos (by omega)]; simp [h]
theorem sl_one (w : World) (x : Int) (T : TypeId) (n : Nat) (hn : w.heap.size = n) : Sl (w.alloc (.cells #[.int .i64 x] T)) (.slice (some ⟨n, 0, none⟩) 1 1) 1 [x].length (ints [x]) := by
  subst hn
  refine ⟨rfl, .inr ⟨_, 0, 1, rfl, Nat.le_refl _, by decide, fun j hj => ?_⟩⟩
  have hj0 : j = 0 := by simp at hj; omega
  subst hj0
  rw [Nat.zero_add, (Bk.new w _ T).cell 0]; rfl
theorem sl_two (w : World) (x y : Int) (T : TypeId) (n : Nat) (hn : w.heap.size = n) : Sl (w.alloc (.cells #[.int .i64 x, .int .i64 y] T)) (.slice (some ⟨n, 0, none⟩) 2 2) 1 [x, y].length (ints [x, y]) := by
  subst hn
  refine ⟨rfl, .inr ⟨_, 0, 2, rfl, Nat.le_refl _, by decide, fun j hj => ?_⟩⟩
  rcases (show j = 0 ∨ j = 1 by simp at hj; omega) with rfl | rfl
  · rw [Nat.zero_add, (Bk.new w _ T).cell 0]; rfl
  · rw [Nat.zero_add, (Bk.new w _ T).cell 1]; rfl

/-- within of one number, and of two, in a slice that is laid for the call. -/
theorem win1 (lo hi x : Int) (w : World) (n : Nat) (hn : w.heap.size = n) (T : TypeId) :
    Calls Try.prog 45 #[.int .i64 lo, .int .i64 hi, .slice (some ⟨n, 0, none⟩) 1 1] (w.alloc (.cells #[.int .i64 x] T)) fun e w' => e = .returned (.bool (decide (lo ≤ x ∧ x ≤ hi))) ∧ w.grownBy w' none := by
  refine (within_any lo hi _ [x] _ (sl_one w x T n hn)).mono ?_
  rintro e w' ⟨rfl, rfl⟩
  exact ⟨by rw [in1], gb_alloc (gb_refl w none) _⟩
theorem win2 (lo hi x y : Int) (w : World) (n : Nat) (hn : w.heap.size = n) (T : TypeId) :
    Calls Try.prog 45 #[.int .i64 lo, .int .i64 hi, .slice (some ⟨n, 0, none⟩) 2 2] (w.alloc (.cells #[.int .i64 x, .int .i64 y] T)) fun e w' => e = .returned (.bool (decide ((lo ≤ x ∧ x ≤ hi) ∧ (lo ≤ y ∧ y ≤ hi)))) ∧ w.grownBy w' none := by
  refine (within_any lo hi _ [x, y] _ (sl_two w x y T n hn)).mono ?_
  rintro e w' ⟨rfl, rfl⟩
  exact ⟨by rw [in2], gb_alloc (gb_refl w none) _⟩

theorem pnothing_any (w : World) : Calls Try.prog 30 #[] w fun e w' => e = .returned (.agg #[.int .i64 nothingSp.1, .int .i64 nothingSp.2]) ∧ w.grownBy w' none := by
  go_enter Try.func30, Try.ntmps30
  have k := Bk.new w #[.int .i64 (-1125899906842624), .int .i64 1125899906842624] 29
  have g := gb_alloc (gb_refl w none) (.cells #[.int .i64 (-1125899906842624), .int .i64 1125899906842624] 29)
  go_wp2_with fail
  generalize w.alloc _ = W at *
  have kc := k.cell
  refine bodyPost_ret (v := .agg #[.int .i64 (-1125899906842624), .int .i64 1125899906842624]) (by simp [results, Try.results30, go_sem, kc]) rfl ?_
  exact ⟨rfl, g⟩
/-- The greatest raw number of a kind. -/
def grk (k : Int) : Int := if k = 4 then 1 else if k = 5 then 2 else if k = 6 then 5 else 65535
theorem greatest_any (k : Int) (w : World) : Calls Try.prog 46 #[.int .i64 k] w fun e w' => e = .returned (.int .i64 (grk k)) ∧ w' = w := by
  unfold grk
  by_cases h4 : k = 4
  · subst h4
    go_enter Try.func46, Try.ntmps46
    go_wp2_with fail
    go_ret
    exact ⟨rfl, rfl⟩
  · have h4' : (k == 4) = false := beq_false_of_ne h4
    rw [if_neg h4]
    by_cases h5 : k = 5
    · subst h5
      go_enter Try.func46, Try.ntmps46
      go_wp2_with fail
      go_ret
      exact ⟨rfl, rfl⟩
    · have h5' : (k == 5) = false := beq_false_of_ne h5
      rw [if_neg h5]
      by_cases h6 : k = 6
      · subst h6
        go_enter Try.func46, Try.ntmps46
        go_wp2_with fail
        go_ret
        exact ⟨rfl, rfl⟩
      · have h6' : (k == 6) = false := beq_false_of_ne h6
        rw [if_neg h6]
        go_enter Try.func46, Try.ntmps46
        go_wp2_with fail
        go_ret
        exact ⟨rfl, rfl⟩
theorem tells_any (k : Int) (w : World) : Calls Try.prog 47 #[.int .i64 k] w fun e w' => e = .returned (.bool (decide (k = 4 ∨ k = 5 ∨ k = 6))) ∧ w' = w := by
  by_cases h4 : k = 4
  · subst h4
    go_enter Try.func47, Try.ntmps47
    go_wp2_with fail
    go_ret
    exact ⟨rfl, rfl⟩
  · have h4' : (k == 4) = false := beq_false_of_ne h4
    by_cases h5 : k = 5
    · subst h5
      go_enter Try.func47, Try.ntmps47
      go_wp2_with fail
      go_ret
      exact ⟨rfl, rfl⟩
    · have h5' : (k == 5) = false := beq_false_of_ne h5
      by_cases h6 : k = 6
      · subst h6
        go_enter Try.func47, Try.ntmps47
        go_wp2_with fail
        go_ret
        exact ⟨rfl, rfl⟩
      · have h6' : (k == 6) = false := beq_false_of_ne h6
        go_enter Try.func47, Try.ntmps47
        go_wp2_with fail
        go_ret
        exact ⟨by rw [decide_eq_false (p := k = 4 ∨ k = 5 ∨ k = 6) (by omega)]; rfl, rfl⟩
end Go.Proofs.Ytackckljldpldaa
