/- The statement SensorValues: the walk. -/
import Derived.Test.YtackckljldpldaaMs
namespace Go.Proofs.Ytackckljldpldaa
open Go.RowKit
attribute [local go_sem ↓] Go.wp_at_zero Go.wp_at_succ loadAt_s

theorem pVal_v (s : Sn) (raw : Int) (w : World) (h1 : -9223372036854775808 ≤ raw) (h2 : raw ≤ 9223372036854775807) :
    Calls Try.prog 17 #[snV s, .int .i64 raw] w fun e w' => e = .returned (.agg #[.int .i64 (valSn s raw).1, .int .i64 (valSn s raw).2]) ∧ w.grownBy w' none := pVal_any s raw w h1 h2
theorem refVal_v (s : Sn) (raw : Int) (w : World) (h1 : -9223372036854775808 ≤ raw) (h2 : raw ≤ 9223372036854775807) :
    Calls Try.prog 18 #[snV s, .int .i64 raw] w fun e w' => e = .returned (.agg #[.int .i64 (valSn s raw).1, .int .i64 (valSn s raw).2]) ∧ w.grownBy w' none := refVal_any s raw w h1 h2

/-- A list of two sensors. -/
structure VlS (w : World) (nb : Nat) (s r : Sn) (W : World) : Prop where
  a0 : SnAt W nb 0 s
  a8 : SnAt W nb 8 r
  g : w.grownBy W none
theorem VlS.by_ {w : World} {nb : Nat} {s r : Sn} {W W' : World} (h : VlS w nb s r W) (o : W.grownBy W' none) : VlS w nb s r W' := ⟨h.a0.by_ o, h.a8.by_ o, gb_none h.g o⟩
/-- .. and one of them in a variable. -/
structure VrS (w : World) (nb : Nat) (s r : Sn) (n11 : Nat) (x : Sn) (W : World) : Prop where
  v : VlS w nb s r W
  at_ : SnAt W n11 0 x
theorem VrS.by_ {w : World} {nb : Nat} {s r x : Sn} {n11 : Nat} {W W' : World} (h : VrS w nb s r n11 x W) (o : W.grownBy W' none) : VrS w nb s r n11 x W' := ⟨h.v.by_ o, h.at_.by_ o⟩
theorem VrS.all {w : World} {nb : Nat} {s r x : Sn} {n11 : Nat} {W : World} (h : VrS w nb s r n11 x W) : (loadS (.pointer (some ⟨n11, 0, none⟩))).run Try.prog W = .ok (snV x) W ∧ VrS w nb s r n11 x W := ⟨run_loadS h.at_, h⟩
theorem run_loadS_lit {W : World} {g o : Nat} {s : Sn} (k : SnAt W g o s) : (loadS (.pointer (some ⟨g, o, none⟩))).run Try.prog W = .ok (.agg #[.int .i64 s.addr, .int .i64 s.kind, .int .i64 s.target, .int .i64 s.offset, .int .i64 s.scale, .int .i64 s.error, .int .i64 s.drift, .int .i64 s.life]) W := run_loadS k
theorem snAt2 {W : World} {n : Nat} {s r : Sn} {T : TypeId} (k : Bk W n (senL s ++ senL r).toArray T) : SnAt W n 0 s ∧ SnAt W n 8 r :=
  ⟨⟨k.cell 0, k.cell 1, k.cell 2, k.cell 3, k.cell 4, k.cell 5, k.cell 6, k.cell 7⟩, ⟨k.cell 8, k.cell 9, k.cell 10, k.cell 11, k.cell 12, k.cell 13, k.cell 14, k.cell 15⟩⟩
theorem tmod7 (z : Int) : -9223372036854775808 ≤ z.tmod 7 ∧ z.tmod 7 ≤ 9223372036854775807 := by
  rcases tmod_emod z 7 (by omega) with h | h <;> omega

set_option maxRecDepth 100000 in
set_option maxHeartbeats 8000000 in
theorem values_walk (cv : Value) (lc : List Nat) (r : Sn) (n by_ : Int) (w : World) (hc : Sl w cv 1 lc.length (bytes lc)) (hb : ∀ x ∈ lc, x < 256) (hn1 : -9223372036854775808 ≤ n) (hn2 : n ≤ 9223372036854775807) :
    Calls Try.prog 3 #[cv, .agg (senL r).toArray, .int .i64 n, .int .i64 by_] w fun e w' => e = .returned (.bool true) ∧ w.grownBy w' none := by
  obtain ⟨a, cap, rfl, _, _, _⟩ := hc.shape
  have g1 := gb_alloc (gb_refl w none) (.cells (senL r).toArray 24)
  have k1 := Bk.new w (senL r).toArray 24
  have HC := Lib.hid (hc.by_ g1)
  have HB := Lib.hid hb
  have K1 := Lib.hid (Bk.snAt k1)
  have G1 := Lib.hid g1
  clear g1 k1 hc hb
  unfold senL at HC K1 G1 ⊢
  go_enter Try.func3, Try.ntmps3
  go_upto_region 1 with fail
  generalize w.alloc _ = W1 at *
  go_wp2_with fail
  refine (mod_pos n 3000 _ (by omega) hn1 hn2 (by omega)).mono ?_
  rintro e W2 ⟨rfl, rfl⟩
  obtain ⟨k, hk⟩ : ∃ k, n % 3000 = k := ⟨_, rfl⟩
  have hk1 : 0 ≤ k ∧ k < 3000 := by omega
  rw [hk]
  clear hk
  go_upto_region 2 with fail
  have hgd := gb_drew (gb_refl W1 none)
  have KD := Lib.hid (K1.out.by_ hgd)
  have GD := Lib.hid (gb_none G1.out hgd)
  have HM := Lib.hid (made_sl _ lc by_ _ (HC.out.by_ hgd) HB.out)
  have L0 := run_loadS_lit KD.out
  unfold senL at HM
  clear hgd K1 G1
  go_region_held3 (fun w' => (loadS (.pointer (some ⟨w.heap.size, 0, none⟩))).run Try.prog w' = .ok (.agg #[.int .i64 r.addr, .int .i64 r.kind, .int .i64 r.target, .int .i64 r.offset, .int .i64 r.scale, .int .i64 r.error, .int .i64 r.drift, .int .i64 r.life]) w')
    (first | (with_reducible exact L0) | (with_reducible exact L6) | (with_reducible exact L7) | fail)
    ((first
      | (go_at_call 16; refine HM.out.mono ?_; rintro e w6 ⟨s, rfl, hg6⟩; have K6 := Lib.hid (KD.out.by_ hg6); have G6 := Lib.hid (gb_none GD.out hg6); have L6 := run_loadS_lit K6.out; have L7 := run_loadS_lit (K6.out.by_ (gb_alloc (gb_refl w6 none) (.cells #[.int .i64 s.addr, .int .i64 s.kind, .int .i64 s.target, .int .i64 s.offset, .int .i64 s.scale, .int .i64 s.error, .int .i64 s.drift, .int .i64 s.life, .int .i64 r.addr, .int .i64 r.kind, .int .i64 r.target, .int .i64 r.offset, .int .i64 r.scale, .int .i64 r.error, .int .i64 r.drift, .int .i64 r.life] 24))))
      | fail))
  all_goals
    have S8 : VlS w w6.heap.size s r (w6.alloc (.cells #[.int .i64 s.addr, .int .i64 s.kind, .int .i64 s.target, .int .i64 s.offset, .int .i64 s.scale, .int .i64 s.error, .int .i64 s.drift, .int .i64 s.life, .int .i64 r.addr, .int .i64 r.kind, .int .i64 r.target, .int .i64 r.offset, .int .i64 r.scale, .int .i64 r.error, .int .i64 r.drift, .int .i64 r.life] 24)) := ⟨(snAt2 (Bk.new w6 _ _)).1, (snAt2 (Bk.new w6 _ _)).2, gb_alloc G6.out _⟩
    have HS8 := Lib.hid S8
    clear L0 L6 L7 K6 G6 S8 KD GD HM HC HB
    generalize w6.alloc _ = W8 at *
    generalize w6.heap.size = nb at *
    go_wp2_with fail
    refine wp_loop_rounds 3 ?_
    rw [rounds_succ]
    have L0 := run_loadS_lit HS8.out.a0
    have HV0 := Lib.hid (show VrS w nb s r W8.heap.size s (W8.alloc (.cells #[.int .i64 s.addr, .int .i64 s.kind, .int .i64 s.target, .int .i64 s.offset, .int .i64 s.scale, .int .i64 s.error, .int .i64 s.drift, .int .i64 s.life] 24)) from ⟨HS8.out.by_ (gb_alloc (gb_refl _ none) _), Bk.snAt (Bk.new _ _ _)⟩)
    go_upto_region 5 with fail
    clear L0 HS8
    generalize W8.alloc _ = W20 at *
    generalize W8.heap.size = n20 at *
    have hS0 := VrS.all (HV0.out.by_ (gb_drew (gb_refl W20 none)))
    have PN := Lib.hid (fun W => pVal_v s n W hn1 hn2)
    have PK := Lib.hid (fun W => pVal_v s k W (by omega) (by omega))
    have PQ := Lib.hid (fun W => pVal_v s (k.tmod 7) W (tmod7 k).1 (tmod7 k).2)
    have RN := Lib.hid (fun W => refVal_v s n W hn1 hn2)
    have RK := Lib.hid (fun W => refVal_v s k W (by omega) (by omega))
    have RQ := Lib.hid (fun W => refVal_v s (k.tmod 7) W (tmod7 k).1 (tmod7 k).2)
    go_region_held3 (fun w' => (loadS (.pointer (some ⟨n20, 0, none⟩))).run Try.prog w' = .ok (snV s) w' ∧ VrS w nb s r n20 s w')
      (first | (with_reducible exact hS6) | (with_reducible exact hS0) | fail)
      ((first
        | (go_at_call 17; (first | (with_reducible refine (PN.out _).mono ?_) | (with_reducible refine (PK.out _).mono ?_) | (with_reducible refine (PQ.out _).mono ?_)); rintro e w6 ⟨rfl, hg6⟩; have hS6 := VrS.all (VrS.by_ (And.right (by assumption)) hg6); clear hg6)
        | (go_at_call 18; (first | (with_reducible refine (RN.out _).mono ?_) | (with_reducible refine (RK.out _).mono ?_) | (with_reducible refine (RQ.out _).mono ?_)); rintro e w6 ⟨rfl, hg6⟩; have hS6 := VrS.all (VrS.by_ (And.right (by assumption)) hg6); clear hg6)
        | fail))
    clear PN PK PQ RN RK RQ hS0 HV0
    go_wp2_with fail
    have HS90 := Lib.hid hS6.2.v
    clear hS6
    generalize w6 = V1 at *
    rw [rounds_succ]
    have L1 := run_loadS_lit HS90.out.a8
    have HV1 := Lib.hid (show VrS w nb s r V1.heap.size r (V1.alloc (.cells #[.int .i64 r.addr, .int .i64 r.kind, .int .i64 r.target, .int .i64 r.offset, .int .i64 r.scale, .int .i64 r.error, .int .i64 r.drift, .int .i64 r.life] 24)) from ⟨HS90.out.by_ (gb_alloc (gb_refl _ none) _), Bk.snAt (Bk.new _ _ _)⟩)
    go_upto_region 5 with fail
    clear L1 HS90
    generalize V1.alloc _ = W21 at *
    generalize V1.heap.size = n21 at *
    have hS0 := VrS.all (HV1.out.by_ (gb_drew (gb_refl W21 none)))
    have PN := Lib.hid (fun W => pVal_v r n W hn1 hn2)
    have PK := Lib.hid (fun W => pVal_v r k W (by omega) (by omega))
    have PQ := Lib.hid (fun W => pVal_v r (k.tmod 7) W (tmod7 k).1 (tmod7 k).2)
    have RN := Lib.hid (fun W => refVal_v r n W hn1 hn2)
    have RK := Lib.hid (fun W => refVal_v r k W (by omega) (by omega))
    have RQ := Lib.hid (fun W => refVal_v r (k.tmod 7) W (tmod7 k).1 (tmod7 k).2)
    go_region_held3 (fun w' => (loadS (.pointer (some ⟨n21, 0, none⟩))).run Try.prog w' = .ok (snV r) w' ∧ VrS w nb s r n21 r w')
      (first | (with_reducible exact hS6) | (with_reducible exact hS0) | fail)
      ((first
        | (go_at_call 17; (first | (with_reducible refine (PN.out _).mono ?_) | (with_reducible refine (PK.out _).mono ?_) | (with_reducible refine (PQ.out _).mono ?_)); rintro e w6 ⟨rfl, hg6⟩; have hS6 := VrS.all (VrS.by_ (And.right (by assumption)) hg6); clear hg6)
        | (go_at_call 18; (first | (with_reducible refine (RN.out _).mono ?_) | (with_reducible refine (RK.out _).mono ?_) | (with_reducible refine (RQ.out _).mono ?_)); rintro e w6 ⟨rfl, hg6⟩; have hS6 := VrS.all (VrS.by_ (And.right (by assumption)) hg6); clear hg6)
        | fail))
    clear PN PK PQ RN RK RQ hS0 HV1
    go_wp2_with fail
    have HS91 := Lib.hid hS6.2.v
    clear hS6
    rw [rounds_succ]
    go_wp2_with fail
    refine (awake_any _).mono ?_
    rintro e W30 ⟨rfl, hg⟩
    go_wp2_with fail
    go_ret
    exact ⟨rfl, gb_none HS91.out.g hg⟩
end Go.Proofs.Ytackckljldpldaa
