/- The statement WindowUntil: the walk. -/
import Derived.Test.YtackckljldpldaaMd
import Derived.Test.YtackckljldpldaaRa6
namespace Go.Proofs.Ytackckljldpldaa
open Go.RowKit
attribute [local go_sem ↓] Go.wp_at_zero Go.wp_at_succ loadAt_s

/-- The sensor and the measurement in variables. -/
structure UwS (w : World) (n6 n7 : Nat) (s : Sn) (ms mt lo hi : Int) (W : World) : Prop where
  s6 : SnAt W n6 0 s
  m7 : MsAt W n7 ms mt lo hi
  g : w.grownBy W none
theorem UwS.by_ {w : World} {n6 n7 : Nat} {s : Sn} {ms mt lo hi : Int} {W W' : World} (h : UwS w n6 n7 s ms mt lo hi W) (o : W.grownBy W' none) : UwS w n6 n7 s ms mt lo hi W' := ⟨h.s6.by_ o, h.m7.by_ o, gb_none h.g o⟩

theorem less_q {s : Sn} {ms mt lo hi v k : Int} (hv : v ≤ 1000000) : lessP s ms mt lo hi v k = decide (abv (atSn s ms mt lo hi (mt + k)).1 (atSn s ms mt lo hi (mt + k)).2 v = -1) := by
  unfold lessP
  by_cases h : atSn s ms mt lo hi (mt + k) = nothingSp
  · rw [h]
    have : ¬ abv nothingSp.1 nothingSp.2 v = -1 := by
      unfold abv nothingSp
      dsimp only
      rw [if_neg (by omega)]
      split
      · omega
      · rw [if_neg (by omega)]; omega
    rw [decide_eq_false this]; simp
  · rw [decide_eq_true h]; simp
theorem less_no {s : Sn} {ms mt lo hi v k : Int} (h : (lo, hi) = nothingSp) : lessP s ms mt lo hi v k = false := by
  unfold lessP atSn
  rw [if_pos (.inr (.inr h))]
  simp
/-- The last time that the law's loop has seen. -/
def lastT (mt : Int) (k : Nat) : Int := if k = 0 then -1 else mt + (k : Int) - 1
theorem until_eq {s : Sn} {ms mt lo hi v u : Int} {n : Nat} (h : UntR s ms mt lo hi v n u) (k : Nat) (hk : k ≤ n + 1) (h1 : ∀ j : Nat, j < k → lessP s ms mt lo hi v (j : Int) = true) (h2 : k ≤ n → lessP s ms mt lo hi v (k : Int) = false) : u = lastT mt k := by
  unfold lastT
  by_cases h0 : k = 0
  · subst h0
    rw [if_pos rfl]
    have h3 := h2 (by omega)
    rcases h with ⟨_, h⟩ | ⟨h, _⟩
    · exact h
    · rw [show ((0 : Nat) : Int) = 0 by omega, h] at h3; cases h3
  · rw [if_neg h0]
    have h3 := h1 0 (by omega)
    rcases h with ⟨h, _⟩ | ⟨_, r, hu, hr, h4, h5⟩
    · rw [show ((0 : Nat) : Int) = 0 by omega, h] at h3; cases h3
    · have hr1 : ¬ k ≤ r := by
        intro hkr
        have h6 := h4 (k - 1) (by omega)
        have h7 := h2 (by omega)
        rw [show ((k - 1 : Nat) : Int) + 1 = (k : Int) by omega, h7] at h6
        cases h6
      have hr2 : ¬ r + 1 < k := by
        intro hkr
        have h6 := h5 r (Nat.le_refl _) (by omega)
        have h7 := h1 (r + 1) hkr
        rw [show ((r + 1 : Nat) : Int) = (r : Int) + 1 by omega, h6] at h7
        cases h7
      omega

set_option maxRecDepth 100000 in
set_option maxHeartbeats 16000000 in
theorem until_walk (cv : Value) (lc : List Nat) (v : Int) (w : World) (hc : Sl w cv 1 lc.length (bytes lc)) (hb : ∀ x ∈ lc, x < 256) (hv1 : -9223372036854775808 ≤ v) (hv2 : v ≤ 9223372036854775807) :
    Calls Try.prog 12 #[cv, .int .i64 v] w fun e w' => e = .returned (.bool true) ∧ w.grownBy w' none := by
  obtain ⟨a, cap, rfl, _, _, _⟩ := hc.shape
  have HN := Lib.hid (new_sl _ lc w hc hb)
  clear hc hb
  go_enter Try.func12, Try.ntmps12
  go_wp2_with fail
  refine HN.out.mono ?_
  rintro e W2 ⟨rfl, ⟨l3, hcd⟩, hg⟩
  have G2 := Lib.hid hg
  clear hg HN
  go_wp2_with fail
  refine (range_ex w.heap.size l3 0 1 6 _ hcd (by omega) (by omega) (by omega)).mono ?_
  rintro e W2b ⟨k1, j1, rfl, hk1, hk3, hcd1, ho⟩
  have HS := Lib.hid (sensor_any w.heap.size l3 j1 k1 0 0 W2b hcd1)
  have G2b := Lib.hid (gb_new G2.out (gb_only ho) (Nat.le_refl _))
  clear hcd hcd1 ho G2
  go_wp2_with fail
  refine HS.out.mono ?_
  rintro e W3 ⟨s, rfl, hk, hl, hx, ⟨j3, hcd3⟩, hg3⟩
  have hck := ck_drawn hk hl hx (by omega) (by omega) (by omega)
  have HM := Lib.hid (measured_any w.heap.size l3 j3 W3 hcd3)
  have G3 := Lib.hid (gb_new G2b.out hg3 (Nat.le_refl _))
  have HCK := Lib.hid (And.intro hck hl)
  clear hk hl hx hck HS hcd3 hg3 G2b hk1 hk3
  unfold senL
  go_wp2_with fail
  refine HM.out.mono ?_
  rintro e W4 ⟨ms, mt, lo, hi, rfl, hms, hmt, hsp, _, hg⟩
  have G4 := Lib.hid (gb_new G3.out hg (Nat.le_refl _))
  clear hg HM G3
  obtain ⟨n, hn⟩ : ∃ n : Nat, s.life = (n : Int) := ⟨s.life.toNat, by have := HCK.out.2; omega⟩
  have hnb : 1 ≤ n ∧ n ≤ 200 := by have := HCK.out.2; omega
  have HN := Lib.hid hn
  have hlb : -4503599627370496 ≤ lo ∧ lo ≤ 4503599627370496 := by
    rcases hsp with h | h
    · unfold nothingSp at h; injection h with h1 h2; omega
    · omega
  have hhb : -4503599627370496 ≤ hi ∧ hi ≤ 4503599627370496 := by
    rcases hsp with h | h
    · unfold nothingSp at h; injection h with h1 h2; omega
    · omega
  have hmono : ∀ v, ∀ a b : Nat, a ≤ b → lessP s ms mt lo hi v ((b : Int) + 1) = true → lessP s ms mt lo hi v ((a : Int) + 1) = true := by
    intro v a b hab h
    rcases hsp with h1 | h1
    · rw [less_no h1] at h; cases h
    · exact less_mono HCK.out.1 (by omega) (by omega) a b hab h
  have g5 := gb_alloc (gb_alloc (gb_refl W4 none) (.cells (senL s).toArray 24)) (.cells #[.int .i64 ms, .int .i64 mt, .int .i64 lo, .int .i64 hi] 43)
  have k7 := Bk.new (W4.alloc (.cells (senL s).toArray 24)) #[.int .i64 ms, .int .i64 mt, .int .i64 lo, .int .i64 hi] 43
  rw [World.size_alloc] at k7
  have HS5 := Lib.hid (⟨(Bk.snAt (Bk.new W4 _ _)).by_ (gb_alloc (gb_refl _ none) _), ⟨k7.cell 0, k7.cell 1, k7.cell 2, k7.cell 3⟩, gb_none G4.out g5⟩ : UwS w W4.heap.size (W4.heap.size + 1) s ms mt lo hi ((W4.alloc (.cells (senL s).toArray 24)).alloc (.cells #[.int .i64 ms, .int .i64 mt, .int .i64 lo, .int .i64 hi] 43)))
  have HMO := Lib.hid hmono
  have HB := Lib.hid (And.intro hlb hhb)
  clear g5 k7 hsp hms hlb hhb hmono hn G4
  unfold msV
  unfold senL at HS5
  go_upto_region 3 with fail
  generalize (W4.alloc _).alloc _ = W5 at *
  generalize W4.heap.size = n6 at *
  go_wp2_with fail
  refine (mod_pos v 260 _ (by omega) hv1 hv2 (by omega)).mono ?_
  rintro e W6 ⟨rfl, rfl⟩
  obtain ⟨k, hk⟩ : ∃ k, v % 260 = k := ⟨_, rfl⟩
  have hk1 : 0 ≤ k ∧ k < 260 := by omega
  rw [hk]
  clear hk hv1 hv2
  obtain ⟨vm, hvm⟩ : ∃ vm, k - 60 = vm := ⟨_, rfl⟩
  have hw : wrap64 (k - 60) = vm := by rw [hvm]; exact IntWalk.wrap64_in vm (by omega)
  have hvb : vm ≤ 1000000 := by omega
  have HVB := Lib.hid hvb
  clear hk1 hvm hvb
  have HU := Lib.hid (fun w => pUntil_any s ms mt lo hi vm n w HN.out (by omega) HB.out.1 HB.out.2 (by omega) (HMO.out vm))
  unfold msV at HU
  have c1 : W5.cell? ⟨n6 + 1, 1, none⟩ = some (.int .i64 mt) := HS5.out.m7.2.1
  go_wp2_with fail
  clear c1
  rw [hw]
  clear hw
  go_loopg [9, 10] (n + 1) (fun kx i9 i10 wr => ∃ (k : Nat), k ≤ n + 1 ∧ n + 1 - k ≤ kx ∧ i9 = .int .i64 (lastT mt k) ∧ i10 = .int .i64 (mt + (k : Int)) ∧ Hid (∀ j : Nat, j < k → lessP s ms mt lo hi vm (j : Int) = true) ∧ Hid (UwS w n6 (n6 + 1) s ms mt lo hi wr))
  case atStart => exact ⟨0, by omega, by omega, rfl, by simp, Lib.hid (fun j hj => absurd hj (Nat.not_lt_zero _)), HS5⟩
  case round =>
    obtain ⟨k, hk, hkx, rfl, rfl, HL, HS⟩ := hrel
    clear HS5
    have c1 : wr.cell? ⟨n6 + 1, 1, none⟩ = some (.int .i64 mt) := HS.out.m7.2.1
    have c2 : wr.cell? ⟨n6, 7, none⟩ = some (.int .i64 n) := by rw [← HN.out]; exact HS.out.s6.2.2.2.2.2.2.2
    by_cases hkn : k ≤ n
    · have b1 : decide (mt + (k : Int) ≤ mt + (n : Int)) = true := by simpa using hkn
      have L := run_loadS HS.out.s6
      obtain ⟨m0, m1, m2, m3⟩ := HS.out.m7
      have HA := Lib.hid (fun w => rAt_any s ms mt lo hi (mt + (k : Int)) w HB.out.1 HB.out.2 (by omega) (by omega))
      have hq := less_q (s := s) (ms := ms) (mt := mt) (lo := lo) (hi := hi) (v := vm) (k := (k : Int)) HVB.out
      obtain ⟨p, hp⟩ : ∃ p, atSn s ms mt lo hi (mt + (k : Int)) = p := ⟨_, rfl⟩
      rw [hp] at HA hq
      obtain ⟨x, y⟩ := p
      unfold msV spV at HA
      dsimp only at HA hq
      have HAB := Lib.hid (fun w => rAbove_any x y vm w)
      obtain ⟨ab, hab⟩ : ∃ ab, abv x y vm = ab := ⟨_, rfl⟩
      rw [hab] at HAB hq
      have HQ := Lib.hid hq
      clear hp hab hq
      go_wp2_with fail
      refine (HA.out _).mono ?_
      rintro e W8 ⟨rfl, hg⟩
      have HS8 := Lib.hid (HS.out.by_ hg)
      clear L m0 m1 m2 m3 c1 c2 hg HS
      go_wp2_with fail
      refine (HAB.out _).mono ?_
      rintro e W9 ⟨rfl, hg⟩
      have HS := Lib.hid (HS8.out.by_ hg)
      clear hg HS8
      by_cases hab : ab = -1
      · subst hab
        have HL2 := Lib.hid (show ∀ j : Nat, j < k + 1 → lessP s ms mt lo hi vm (j : Int) = true by
          intro j hj
          by_cases h : j < k
          · exact HL.out j h
          · obtain rfl : j = k := by omega
            rw [HQ.out]; simp)
        have hlast : lastT mt (k + 1) = mt + (k : Int) := by unfold lastT; rw [if_neg (by omega)]; omega
        go_wp2_with fail
        go_roundg (n - k)
        case measure => omega
        case rel => exact ⟨k + 1, by omega, by omega, by rw [hlast], by go_num, HL2, HS⟩
      · have hab' : (ab != -1) = true := bne_iff_ne.2 hab
        have hlk : k ≤ n → lessP s ms mt lo hi vm (k : Int) = false := fun _ => by rw [HQ.out, decide_eq_false hab]
        have L := run_loadS HS.out.s6
        obtain ⟨m0, m1, m2, m3⟩ := HS.out.m7
        go_wp2_with fail
        refine (HU.out _).mono ?_
        rintro e W20 ⟨⟨u, rfl, hu⟩, hg⟩
        have hul := until_eq hu k hk HL.out hlk
        subst hul
        have hq : (lastT mt k == lastT mt k) = true := by simp
        have HS20 := Lib.hid (HS.out.by_ hg)
        clear L m0 m1 m2 m3 hg hu
        go_wp2_with fail
        refine (awake6_any _).mono ?_
        rintro e W21 ⟨rfl, hg⟩
        go_wp2_with fail
        go_ret
        exact ⟨rfl, gb_none HS20.out.g hg⟩
    · have b1 : decide (mt + (k : Int) ≤ mt + (n : Int)) = false := by
        have : ¬ (mt + (k : Int) ≤ mt + (n : Int)) := by omega
        simpa using this
      have hlk : k ≤ n → lessP s ms mt lo hi vm (k : Int) = false := fun h => absurd h hkn
      have L := run_loadS HS.out.s6
      obtain ⟨m0, m1, m2, m3⟩ := HS.out.m7
      go_wp2_with fail
      refine (HU.out _).mono ?_
      rintro e W20 ⟨⟨u, rfl, hu⟩, hg⟩
      have hul := until_eq hu k hk HL.out hlk
      subst hul
      have hq : (lastT mt k == lastT mt k) = true := by simp
      have HS20 := Lib.hid (HS.out.by_ hg)
      clear L m0 m1 m2 m3 hg hu
      go_wp2_with fail
      refine (awake6_any _).mono ?_
      rintro e W21 ⟨rfl, hg⟩
      go_wp2_with fail
      go_ret
      exact ⟨rfl, gb_none HS20.out.g hg⟩
end Go.Proofs.Ytackckljldpldaa
