/- Stage 5, the document's functions: in, Check, Nothing, Floor, Ceil, Stately, Gassy. -/
import Derived.Test.YtackckljldpldaaBa
namespace Go.Proofs.Ytackckljldpldaa
open Go.RowKit
attribute [local go_sem ↓] Go.wp_at_zero Go.wp_at_succ

/-- A sensor. -/
structure Sn where
  addr : Int
  kind : Int
  target : Int
  offset : Int
  scale : Int
  error : Int
  drift : Int
  life : Int
def senL (s : Sn) : List Value := [.int .i64 s.addr, .int .i64 s.kind, .int .i64 s.target, .int .i64 s.offset, .int .i64 s.scale, .int .i64 s.error, .int .i64 s.drift, .int .i64 s.life]
def snOk (s : Sn) : Prop := (0 ≤ s.addr ∧ s.addr ≤ 255) ∧ 0 ≤ s.target ∧ (-1000000 ≤ s.offset ∧ s.offset ≤ 1000000) ∧ (-1000000 ≤ s.scale ∧ s.scale ≤ 1000000) ∧ (0 ≤ s.error ∧ s.error ≤ 1000000) ∧ (0 ≤ s.drift ∧ s.drift ≤ 1000000) ∧ (1 ≤ s.life ∧ s.life ≤ 1000000)
instance (s : Sn) : Decidable (snOk s) := by unfold snOk; infer_instance
/-- The first error of a sensor. -/
def ckSn (s : Sn) : Int := if ¬ (1 ≤ s.kind ∧ s.kind ≤ 6) then 5 else if ¬ snOk s then 1 else 0

theorem in_any (n low high : Int) (w : World) : Calls Try.prog 50 #[.int .i64 n, .int .i64 low, .int .i64 high] w fun e w' => e = .returned (.bool (decide (low ≤ n ∧ n ≤ high))) ∧ w' = w := by
  by_cases h1 : low ≤ n
  · have h1' : decide (low ≤ n) = true := by simpa using h1
    by_cases h2 : n ≤ high
    · have h2' : decide (n ≤ high) = true := by simpa using h2
      go_enter Try.func50, Try.ntmps50
      go_wp2_with fail
      go_ret
      exact ⟨by first | rfl | (rw [decide_eq_true (p := low ≤ n ∧ n ≤ high) ⟨h1, h2⟩]; rfl), rfl⟩
    · have h2' : decide (n ≤ high) = false := by simpa using h2
      go_enter Try.func50, Try.ntmps50
      go_wp2_with fail
      go_ret
      exact ⟨by first | rfl | (rw [decide_eq_false (p := low ≤ n ∧ n ≤ high) (by omega)]; rfl), rfl⟩
  · have h1' : decide (low ≤ n) = false := by simpa using h1
    go_enter Try.func50, Try.ntmps50
    go_wp2_with fail
    go_ret
    exact ⟨by first | rfl | (rw [decide_eq_false (p := low ≤ n ∧ n ≤ high) (by omega)]; rfl), rfl⟩

set_option maxRecDepth 100000 in
set_option maxHeartbeats 4000000 in
theorem refCk_any (s : Sn) (w : World) : Calls Try.prog 49 #[.agg (senL s).toArray] w fun e w' => e = .returned (.int .i64 (ckSn s)) ∧ w.grownBy w' none := by
  have k1 := Bk.new w (senL s).toArray 24
  have g1 := gb_alloc (gb_refl w none) (.cells (senL s).toArray 24)
  obtain ⟨ck, hck⟩ : ∃ ck, ckSn s = ck := ⟨_, rfl⟩
  rw [hck]
  have HCK := Lib.hid hck
  have HG := Lib.hid g1
  clear hck g1
  unfold senL at *
  go_enter Try.func49, Try.ntmps49
  go_upto_region 1 with fail
  generalize w.alloc _ = W at *
  have k1c := k1.cell
  clear k1
  go_wp2_with fail
  refine (in_any s.kind 1 6 _).mono ?_
  rintro e w2 ⟨rfl, rfl⟩
  by_cases c0 : 1 ≤ s.kind ∧ s.kind ≤ 6
  · rw [decide_eq_true c0]
    go_wp2_with fail
    refine (in_any s.addr (0) 255 _).mono ?_
    rintro e w3 ⟨rfl, rfl⟩
    by_cases d0 : (0 : Int) ≤ s.addr ∧ s.addr ≤ 255
    · rw [decide_eq_true d0]
      by_cases d1 : s.target < 0
      · have d1' : decide (s.target < 0) = true := by simpa using d1
        have hck : ck = 1 := by rw [← HCK.out]; unfold ckSn; rw [if_neg (by omega), if_pos (by unfold snOk; omega)]
        subst hck
        go_wp2_with fail
        go_ret
        exact ⟨rfl, HG.out⟩
      · have d1' : decide (s.target < 0) = false := by simpa using d1
        go_wp2_with fail
        refine (in_any s.offset (-1000000) 1000000 _).mono ?_
        rintro e w5 ⟨rfl, rfl⟩
        by_cases d2 : (-1000000 : Int) ≤ s.offset ∧ s.offset ≤ 1000000
        · rw [decide_eq_true d2]
          go_wp2_with fail
          refine (in_any s.scale (-1000000) 1000000 _).mono ?_
          rintro e w6 ⟨rfl, rfl⟩
          by_cases d3 : (-1000000 : Int) ≤ s.scale ∧ s.scale ≤ 1000000
          · rw [decide_eq_true d3]
            go_wp2_with fail
            refine (in_any s.error (0) 1000000 _).mono ?_
            rintro e w7 ⟨rfl, rfl⟩
            by_cases d4 : (0 : Int) ≤ s.error ∧ s.error ≤ 1000000
            · rw [decide_eq_true d4]
              go_wp2_with fail
              refine (in_any s.drift (0) 1000000 _).mono ?_
              rintro e w8 ⟨rfl, rfl⟩
              by_cases d5 : (0 : Int) ≤ s.drift ∧ s.drift ≤ 1000000
              · rw [decide_eq_true d5]
                go_wp2_with fail
                refine (in_any s.life (1) 1000000 _).mono ?_
                rintro e w9 ⟨rfl, rfl⟩
                by_cases d6 : (1 : Int) ≤ s.life ∧ s.life ≤ 1000000
                · rw [decide_eq_true d6]
                  have hck : ck = 0 := by rw [← HCK.out]; unfold ckSn; rw [if_neg (by omega), if_neg (by unfold snOk; omega)]
                  subst hck
                  go_wp2_with fail
                  go_ret
                  exact ⟨rfl, HG.out⟩
                · rw [decide_eq_false d6]
                  have hck : ck = 1 := by rw [← HCK.out]; unfold ckSn; rw [if_neg (by omega), if_pos (by unfold snOk; omega)]
                  subst hck
                  go_wp2_with fail
                  go_ret
                  exact ⟨rfl, HG.out⟩
              · rw [decide_eq_false d5]
                have hck : ck = 1 := by rw [← HCK.out]; unfold ckSn; rw [if_neg (by omega), if_pos (by unfold snOk; omega)]
                subst hck
                go_wp2_with fail
                go_ret
                exact ⟨rfl, HG.out⟩
            · rw [decide_eq_false d4]
              have hck : ck = 1 := by rw [← HCK.out]; unfold ckSn; rw [if_neg (by omega), if_pos (by unfold snOk; omega)]
              subst hck
              go_wp2_with fail
              go_ret
              exact ⟨rfl, HG.out⟩
          · rw [decide_eq_false d3]
            have hck : ck = 1 := by rw [← HCK.out]; unfold ckSn; rw [if_neg (by omega), if_pos (by unfold snOk; omega)]
            subst hck
            go_wp2_with fail
            go_ret
            exact ⟨rfl, HG.out⟩
        · rw [decide_eq_false d2]
          have hck : ck = 1 := by rw [← HCK.out]; unfold ckSn; rw [if_neg (by omega), if_pos (by unfold snOk; omega)]
          subst hck
          go_wp2_with fail
          go_ret
          exact ⟨rfl, HG.out⟩
    · rw [decide_eq_false d0]
      have hck : ck = 1 := by rw [← HCK.out]; unfold ckSn; rw [if_neg (by omega), if_pos (by unfold snOk; omega)]
      subst hck
      go_wp2_with fail
      go_ret
      exact ⟨rfl, HG.out⟩
  · rw [decide_eq_false c0]
    have hck : ck = 5 := by rw [← HCK.out]; unfold ckSn; rw [if_pos c0]
    subst hck
    go_wp2_with fail
    go_ret
    exact ⟨rfl, HG.out⟩

theorem quo1000 (a : Int) : (a.tmod 1000 < 0 ∧ a.tdiv 1000 - 1 = a / 1000) ∨ (0 ≤ a.tmod 1000 ∧ a.tdiv 1000 = a / 1000) := by
  have h1 := Int.mul_tdiv_add_tmod a 1000
  have h5 := Int.tmod_lt_of_pos a (show (0 : Int) < 1000 by omega)
  have h6 := Int.lt_tmod_of_pos a (show (0 : Int) < 1000 by omega)
  omega
set_option maxHeartbeats 1000000 in
theorem floor_any (a : Int) (w : World) (ha : -4611686018427387904 ≤ a) (ha2 : a ≤ 4611686018427387904) :
    Calls Try.prog 29 #[.int .i64 a, .int .i64 1000] w fun e w' => e = .returned (.int .i64 (a / 1000)) ∧ w' = w := by
  have hf := quo1000 a
  have hq1 : -4611686018427388 ≤ a / 1000 := by omega
  have hq2 : a / 1000 ≤ 4611686018427388 := by omega
  generalize a / 1000 = q at *
  obtain ⟨r, hr⟩ : ∃ r, a.tmod 1000 = r := ⟨_, rfl⟩
  obtain ⟨p, hp⟩ : ∃ p, a.tdiv 1000 = p := ⟨_, rfl⟩
  rw [hr, hp] at hf
  have hp1 : -4611686018427389 ≤ p := by omega
  have hp2 : p ≤ 4611686018427389 := by omega
  by_cases hn : r < 0
  · have hn' : decide (r < 0) = true := by simpa using hn
    obtain rfl : q = p - 1 := by omega
    clear hf
    go_enter Try.func29, Try.ntmps29
    go_wp2_with fail
    go_ret
    exact ⟨rfl, rfl⟩
  · have hn' : decide (r < 0) = false := by simpa using hn
    obtain rfl : q = p := by omega
    clear hf
    go_enter Try.func29, Try.ntmps29
    go_wp2_with fail
    go_ret
    exact ⟨rfl, rfl⟩
set_option maxHeartbeats 1000000 in
theorem ceil_any (a : Int) (w : World) (ha : -4611686018427387904 ≤ a) (ha2 : a ≤ 4611686018427387904) :
    Calls Try.prog 52 #[.int .i64 a, .int .i64 1000] w fun e w' => e = .returned (.int .i64 (-((-a) / 1000))) ∧ w' = w := by
  obtain ⟨q, hq⟩ : ∃ q, (-a) / 1000 = q := ⟨_, rfl⟩
  have h1 : -4611686018427389 ≤ q := by omega
  have h2 : q ≤ 4611686018427389 := by omega
  rw [hq]
  have HQ := Lib.hid hq
  clear hq
  go_enter Try.func52, Try.ntmps52
  go_wp2_with fail
  refine (floor_any (-a) w (by omega) (by omega)).mono ?_
  rintro e w2 ⟨rfl, rfl⟩
  rw [HQ.out]
  go_wp2_with fail
  go_ret
  exact ⟨rfl, rfl⟩
theorem stately_any (k : Int) (w : World) : Calls Try.prog 51 #[.int .i64 k] w fun e w' => e = .returned (.bool (decide (4 ≤ k))) ∧ w' = w := by
  go_enter Try.func51, Try.ntmps51
  go_wp2_with fail
  go_ret
  exact ⟨by first | rfl | simp, rfl⟩
theorem gassy_any (k : Int) (w : World) : Calls Try.prog 53 #[.int .i64 k] w fun e w' => e = .returned (.bool (decide (k = 1 ∨ k = 2))) ∧ w' = w := by
  by_cases h1 : k = 1
  · subst h1
    go_enter Try.func53, Try.ntmps53
    go_wp2_with fail
    go_ret
    exact ⟨rfl, rfl⟩
  · have h1' : (k == 1) = false := beq_false_of_ne h1
    by_cases h2 : k = 2
    · subst h2
      go_enter Try.func53, Try.ntmps53
      go_wp2_with fail
      go_ret
      exact ⟨rfl, rfl⟩
    · have h2' : (k == 2) = false := beq_false_of_ne h2
      go_enter Try.func53, Try.ntmps53
      go_wp2_with fail
      go_ret
      exact ⟨by rw [decide_eq_false (p := k = 1 ∨ k = 2) (by omega)]; rfl, rfl⟩

/-- A span as two numbers. -/
def nothingSp : Int × Int := (-1125899906842624, 1125899906842624)
/-- What a raw number says. -/
def valSn (s : Sn) (raw : Int) : Int × Int :=
  if ckSn s ≠ 0 ∨ ¬ (0 ≤ raw ∧ raw ≤ 65535) then nothingSp
  else if 4 ≤ s.kind then (if (if s.kind = 6 then 5 else if s.kind = 5 then 2 else 1) < raw then nothingSp else (raw, raw))
  else if s.kind = 1 ∨ s.kind = 2 then (max (s.offset + (s.scale * raw) / 1000 - s.error) 0, max (s.offset + -((-(s.scale * raw)) / 1000) + s.error) 0)
  else (s.offset + (s.scale * raw) / 1000 - s.error, s.offset + -((-(s.scale * raw)) / 1000) + s.error)
theorem nothing_any (w : World) : Calls Try.prog 43 #[] w fun e w' => e = .returned (.agg #[.int .i64 nothingSp.1, .int .i64 nothingSp.2]) ∧ w.grownBy w' none := by
  go_enter Try.func43, Try.ntmps43
  have k := Bk.new w #[.int .i64 (-1125899906842624), .int .i64 1125899906842624] 29
  have g := gb_alloc (gb_refl w none) (.cells #[.int .i64 (-1125899906842624), .int .i64 1125899906842624] 29)
  go_wp2_with fail
  generalize w.alloc _ = W at *
  have kc := k.cell
  refine bodyPost_ret (v := .agg #[.int .i64 (-1125899906842624), .int .i64 1125899906842624]) (by simp [results, Try.results43, go_sem, kc]) rfl ?_
  exact ⟨rfl, g⟩
end Go.Proofs.Ytackckljldpldaa
