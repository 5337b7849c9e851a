/- One byte that is another one gives another check value; what Feed finds in a damaged telegram. -/
import Derived.Test.YtolkjklejcealaaLn
namespace Go.Proofs.Ytolkjklejcealaa

theorem xor_par (a : Nat) (h : a % 2 = 0) : (a ^^^ 4129) % 2 = 1 := by
  have e := Nat.xor_mod_two_pow (a := a) (b := 4129) (n := 1)
  rw [Nat.pow_one] at e
  rw [e, h]
  rfl
theorem xor_cancel {a b p : Nat} (h : a ^^^ p = b ^^^ p) : a = b := by
  have := congrArg (· ^^^ p) h
  simpa [Nat.xor_assoc, Nat.xor_self] using this
theorem crcBit_par (n b : Nat) : crcBit n b % 2 = if n / 32768 % 2 = b then 0 else 1 := by
  unfold crcBit
  split
  · omega
  · exact xor_par _ (by omega)
/-- What is known of the registers ahead of the last k bits, if they end alike. -/
theorem crcBits_back : ∀ (k n m b c : Nat), k ≤ 15 → crcBits b k n = crcBits c k m → n < 65536 → m < 65536 → n % 2 ^ (16 - k) = m % 2 ^ (16 - k) := by
  intro k
  induction k with
  | zero => intro n m b c _ h _ _; rw [show n = m from h]
  | succ k ih =>
    intro n m b c hk h hn hm
    have h1 := ih (crcBit n (b / 2 ^ k % 2)) (crcBit m (c / 2 ^ k % 2)) b c (by omega) h (crcBit_lt _ _) (crcBit_lt _ _)
    have hj : 16 - k = (16 - (k + 1)) + 1 := by omega
    have hp : crcBit n (b / 2 ^ k % 2) % 2 = crcBit m (c / 2 ^ k % 2) % 2 := by
      have d : 2 ∣ 2 ^ (16 - k) := by rw [hj, Nat.pow_succ]; exact Nat.dvd_mul_left _ _
      rw [← Nat.mod_mod_of_dvd _ d, h1, Nat.mod_mod_of_dvd _ d]
    rw [crcBit_par, crcBit_par] at hp
    have h2 : (n * 2 % 65536) % 2 ^ (16 - k) = (m * 2 % 65536) % 2 ^ (16 - k) := by
      unfold crcBit at h1
      by_cases q1 : n / 32768 % 2 = b / 2 ^ k % 2
      · have q2 : m / 32768 % 2 = c / 2 ^ k % 2 := by
          rw [if_pos q1] at hp
          by_cases q2 : m / 32768 % 2 = c / 2 ^ k % 2
          · exact q2
          · rw [if_neg q2] at hp; omega
        rw [if_pos q1, if_pos q2] at h1
        exact h1
      · have q2 : ¬ m / 32768 % 2 = c / 2 ^ k % 2 := by
          rw [if_neg q1] at hp
          intro q2
          rw [if_pos q2] at hp
          omega
        rw [if_neg q1, if_neg q2, Nat.xor_mod_two_pow, Nat.xor_mod_two_pow] at h1
        exact xor_cancel h1
    have d : 2 ^ (16 - k) ∣ 65536 := by
      rw [show (65536 : Nat) = 2 ^ 16 from rfl]
      exact Nat.pow_dvd_pow 2 (by omega)
    rw [Nat.mod_mod_of_dvd _ d, Nat.mod_mod_of_dvd _ d, hj, Nat.pow_succ, Nat.mul_mod_mul_right, Nat.mul_mod_mul_right] at h2
    omega
theorem crcBits_byte : ∀ (k n b c : Nat), k ≤ 8 → crcBits b k n = crcBits c k n → n < 65536 → b % 2 ^ k = c % 2 ^ k := by
  intro k
  induction k with
  | zero => intro n b c _ _ _; simp [Nat.mod_one]
  | succ k ih =>
    intro n b c hk h hn
    have h1 := crcBits_back k (crcBit n (b / 2 ^ k % 2)) (crcBit n (c / 2 ^ k % 2)) b c (by omega) h (crcBit_lt _ _) (crcBit_lt _ _)
    have hp : crcBit n (b / 2 ^ k % 2) % 2 = crcBit n (c / 2 ^ k % 2) % 2 := by
      have d : 2 ∣ 2 ^ (16 - k) := by rw [show 16 - k = (15 - k) + 1 by omega, Nat.pow_succ]; exact Nat.dvd_mul_left _ _
      rw [← Nat.mod_mod_of_dvd _ d, h1, Nat.mod_mod_of_dvd _ d]
    rw [crcBit_par, crcBit_par] at hp
    have hbc : b / 2 ^ k % 2 = c / 2 ^ k % 2 := by
      have b1 : b / 2 ^ k % 2 < 2 := Nat.mod_lt _ (by omega)
      have c1 : c / 2 ^ k % 2 < 2 := Nat.mod_lt _ (by omega)
      have n1 : n / 32768 % 2 < 2 := Nat.mod_lt _ (by omega)
      by_cases q1 : n / 32768 % 2 = b / 2 ^ k % 2
      · rw [if_pos q1] at hp
        by_cases q2 : n / 32768 % 2 = c / 2 ^ k % 2
        · omega
        · rw [if_neg q2] at hp; omega
      · rw [if_neg q1] at hp
        by_cases q2 : n / 32768 % 2 = c / 2 ^ k % 2
        · rw [if_pos q2] at hp; omega
        · omega
    have h3 := ih (crcBit n (b / 2 ^ k % 2)) b c (by omega) (by rw [crcBits, crcBits, ← hbc] at h; exact h) (crcBit_lt _ _)
    rw [Nat.mod_pow_succ, Nat.mod_pow_succ, h3, hbc]
theorem crcBit_inj {n m b : Nat} (hb : b < 2) (hn : n < 65536) (hm : m < 65536) (h : crcBit n b = crcBit m b) : n = m := by
  have hp := congrArg (· % 2) h
  simp only [crcBit_par] at hp
  unfold crcBit at h
  by_cases q1 : n / 32768 % 2 = b
  · rw [if_pos q1] at hp h
    by_cases q2 : m / 32768 % 2 = b
    · rw [if_pos q2] at h; omega
    · rw [if_neg q2] at hp; omega
  · rw [if_neg q1] at hp h
    by_cases q2 : m / 32768 % 2 = b
    · rw [if_pos q2] at hp; omega
    · rw [if_neg q2] at h
      have := xor_cancel h
      omega
theorem crcBits_inj : ∀ (k n m b : Nat), n < 65536 → m < 65536 → crcBits b k n = crcBits b k m → n = m := by
  intro k
  induction k with
  | zero => intro n m b _ _ h; exact h
  | succ k ih =>
    intro n m b hn hm h
    exact crcBit_inj (Nat.mod_lt _ (by omega)) hn hm (ih _ _ b (crcBit_lt _ _) (crcBit_lt _ _) h)
theorem crcOf_inj : ∀ (l : List Nat) (n m : Nat), n < 65536 → m < 65536 → crcOf n l = crcOf m l → n = m := by
  intro l
  induction l with
  | nil => intro n m _ _ h; exact h
  | cons b l ih =>
    intro n m hn hm h
    exact crcBits_inj 8 n m b hn hm (ih _ _ (crcBits_lt b 8 n hn) (crcBits_lt b 8 m hm) h)
/-- Another byte, another check value. -/
theorem crcOf_set : ∀ (l : List Nat) (n j y : Nat), n < 65536 → (∀ x ∈ l, x < 256) → y < 256 → j < l.length → l.getD j 0 ≠ y → crcOf n (l.set j y) ≠ crcOf n l := by
  intro l
  induction l with
  | nil => intro n j y _ _ _ hj; simp at hj
  | cons b l ih =>
    intro n j y hn hl hy hj hne h
    cases j with
    | zero =>
      have h1 := crcOf_inj l _ _ (crcBits_lt y 8 n hn) (crcBits_lt b 8 n hn) h
      have h2 := crcBits_byte 8 n y b (by omega) h1 hn
      have hb := hl b (by simp)
      simp at hne
      rw [Nat.mod_eq_of_lt hy, Nat.mod_eq_of_lt hb] at h2
      exact hne h2.symm
    | succ j =>
      exact ih _ j y (crcBits_lt b 8 n hn) (fun x hx => hl x (by simp [hx])) hy (by simpa using hj) (by simpa using hne) h

theorem cntF_mem {l : List Fr} {f : Fr} (h : f ∈ l) : 6 + f.data.length ≤ cntF l := by
  induction l with
  | nil => simp at h
  | cons g l ih =>
    rcases List.mem_cons.1 h with rfl | h
    · simp only [cntF]; omega
    · have := ih h
      simp only [cntF]; omega
theorem feed_fit {l : List Nat} {f : Fr} (h : f ∈ (feed l).1) : 6 + f.data.length ≤ l.length := by
  have h1 := cntF_mem h
  have h2 := feed_cnt l.length l (Nat.le_refl _)
  omega
/-- No telegram of its length is read of a telegram with another byte. -/
theorem damaged (f : Fr) (h1 : 0 ≤ f.addr ∧ f.addr ≤ 255) (h2 : 0 ≤ f.kind ∧ f.kind ≤ 255) (h3 : f.data.length ≤ 64) (hb : ∀ x ∈ f.data, x < 256) (k y : Nat) (hk : k < (wrFr f).1.length) (hy : y < 256) (hne : (wrFr f).1.getD k 0 ≠ y)
    (g : Fr) (hg : g ∈ (feed ((wrFr f).1.set k y)).1) : g.data.length ≠ f.data.length := by
  obtain ⟨_, hlen, hw⟩ := wrFr_ok f h1 h2 h3
  have hlt := wrFr_lt f hb
  generalize hd : f.data.length = d at *
  generalize (wrFr f).1 = x at *
  have hxl : (x.set k y).length = 6 + d := by rw [List.length_set]; exact hlen
  have rest : ∀ n, 0 < n → n ≤ 6 + d → g ∈ (feed ((x.set k y).drop n)).1 → g.data.length ≠ d := fun n h0 hn h => by
    have := feed_fit h
    rw [List.length_drop, hxl] at this
    omega
  have hset : ∀ j, j ≠ k → (x.set k y).getD j 0 = x.getD j 0 := fun j hj => by
    rw [List.getD_eq_getElem?_getD, List.getD_eq_getElem?_getD, List.getElem?_set_ne (Ne.symm hj)]
  have hsk : (x.set k y).getD k 0 = y := by
    rw [List.getD_eq_getElem?_getD, List.getElem?_set_self hk]; rfl
  cases ha : act4 (x.set k y) with
  | stop => rw [feed_stop ha] at hg; simp at hg
  | drop => rw [feed_drop ha] at hg; exact rest 1 (by omega) (by omega) hg
  | take f' n =>
    rw [feed_take ha] at hg
    obtain ⟨e1, e2, e3, e4, e5, e6⟩ := act4_take ha
    rcases List.mem_cons.1 hg with rfl | hg
    · have hgl : g.data.length = (x.set k y).getD 1 0 := by rw [e5]; exact sub_len _ 4 _ (by omega)
      rw [hgl]
      intro hd1
      rw [hd1] at e6
      have c0 : x.getD 0 0 = 126 := by rw [hw]; rfl
      have c1 : x.getD 1 0 = d := by rw [hw]; rfl
      have hk0 : k ≠ 0 := fun e => by subst e; rw [hsk] at e4; omega
      have hk1 : k ≠ 1 := fun e => by subst e; rw [hsk] at hd1; omega
      -- the telegram as it was has the right check value
      have hc : crcOf 65535 ((x.drop 1).take (3 + d)) = x.getD (4 + d) 0 * 256 + x.getD (5 + d) 0 := by
        have hdr : (x.drop 1).take (3 + d) = [d, f.addr.toNat, f.kind.toNat] ++ f.data := by
          rw [hw, List.append_assoc]
          simp only [List.cons_append, List.nil_append, List.drop_succ_cons, List.drop_zero]
          rw [show 3 + d = d + 3 by omega]
          simp only [List.take_succ_cons]
          rw [List.take_append_of_le_length (by omega), List.take_of_length_le (by omega)]
        rw [hdr]
        have hcl := crcOf_lt ([d, f.addr.toNat, f.kind.toNat] ++ f.data) 65535 (by omega)
        generalize crcOf 65535 ([d, f.addr.toNat, f.kind.toNat] ++ f.data) = c at *
        have g1 : x.getD (4 + d) 0 = c / 256 % 256 := by
          rw [hw, List.getD_eq_getElem?_getD, List.getElem?_append_right (by simp; omega)]
          simp [crc2, hd, show 4 + d - (d + 4) = 0 by omega]
        have g2 : x.getD (5 + d) 0 = c % 256 := by
          rw [hw, List.getD_eq_getElem?_getD, List.getElem?_append_right (by simp; omega)]
          simp [crc2, hd, show 5 + d - (d + 4) = 1 by omega]
        rw [g1, g2]
        omega
      by_cases hk4 : k < 4 + d
      · rw [hset (4 + d) (by omega), hset (5 + d) (by omega), ← hc] at e6
        have hds : ((x.set k y).drop 1).take (3 + d) = ((x.drop 1).take (3 + d)).set (k - 1) y := by
          obtain ⟨k', rfl⟩ : ∃ k', k = k' + 1 := ⟨k - 1, by omega⟩
          rw [List.drop_set]
          rw [if_neg (by omega), List.take_set, show k' + 1 - 1 = k' by omega]
        rw [hds] at e6
        refine crcOf_set _ 65535 (k - 1) y (by omega) (fun z hz => hlt z (List.mem_of_mem_drop (List.mem_of_mem_take hz))) hy (by rw [sub_len x 1 (3 + d) (by omega)]; omega) ?_ e6
        rw [take_getD (by omega), List.getD_eq_getElem?_getD, List.getElem?_drop, show 1 + (k - 1) = k by omega, ← List.getD_eq_getElem?_getD]
        exact hne
      · have hds : ((x.set k y).drop 1).take (3 + d) = (x.drop 1).take (3 + d) := by
          apply List.ext_getElem?
          intro i
          rw [List.getElem?_take, List.getElem?_take]
          split
          · rw [List.getElem?_drop, List.getElem?_drop, List.getElem?_set_ne (by omega)]
          · rfl
        rw [hds, hc] at e6
        have z4 : x.getD (4 + d) 0 < 256 := getD_lt hlt _
        have z5 : x.getD (5 + d) 0 < 256 := getD_lt hlt _
        have hkk : k = 4 + d ∨ k = 5 + d := by omega
        rcases hkk with rfl | rfl
        · rw [hsk, hset (5 + d) (by omega)] at e6
          omega
        · rw [hsk, hset (4 + d) (by omega)] at e6
          omega
    · exact rest n (by omega) (by omega) hg
end Go.Proofs.Ytolkjklejcealaa
