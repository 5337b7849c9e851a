/- Mine: a mine drawn from codes. -/
import Derived.Test.YtbiikgkfklhohaaRo
import Derived.Deep.RegionLaw
import Derived.Deep.AppendLies
import Derived.Deep.Cut
namespace Go.Proofs.Ytbiikgkfklhohaa
open Go.RowKit
attribute [local go_sem ↓] Go.wp_at_zero Go.wp_at_succ

theorem Try.infoPlace : (Try.prog.info? 37).map (fun i => (i.zero, i.size, i.bytes)) = some (some (.agg #[.int .i64 0, .bool false]), 2, 16) := by kernel_rfl
theorem Try.infoRoad : (Try.prog.info? 41).map (fun i => (i.zero, i.size, i.bytes)) = some (some (.agg #[.int .i64 0, .int .i64 0, .int .i64 0, .int .i64 0, .bool false, .bool false, .int .i64 0, .int .i64 0, .int .i64 0, .int .i64 0]), 10, 72) := by kernel_rfl

theorem own_ne {W : World} {base : Nat} {e : TypeId} {size : Nat} {v : Value} {n : Nat} {xs : List Value} {m : Nat} {cs : Array Value} {T : TypeId} (h : W.ownsRow base e size v n xs) (k : Bk W m cs T) (hT : e ≠ T) : v.ownBlock ≠ some m := by
  rcases h.2 with ⟨rfl, _⟩ | ⟨g, cap, cur, rfl, _, hg, _⟩
  · simp [Value.ownBlock]
  · have := Bk.ne (show Bk W g cur e from hg) k hT
    simpa [Value.ownBlock] using this
theorem own_base {W : World} {base : Nat} {e : TypeId} {size : Nat} {v : Value} {n : Nat} {xs : List Value} (h : W.ownsRow base e size v n xs) : ∀ g, v.ownBlock = some g → base ≤ g := fun g hg => (h.lt g hg).1
theorem own_own {W : World} {base : Nat} {e f : TypeId} {size size' : Nat} {v u : Value} {n n' : Nat} {xs ys : List Value} (h : W.ownsRow base e size v n xs) (k : W.ownsRow base f size' u n' ys) (hT : e ≠ f) : v.ownBlock = none ∨ v.ownBlock ≠ u.ownBlock := by
  rcases k.2 with ⟨rfl, _⟩ | ⟨g, cap, cur, rfl, _, hg, _⟩
  · by_cases e : v.ownBlock = none
    · exact .inl e
    · exact .inr (by simpa [Value.ownBlock] using e)
  · exact .inr (own_ne h (show Bk W g cur f from hg) hT)

/-- The state in Mine: the codes, the result's block, the mine's block, the two lists. -/
structure MiSt (w : World) (b : Nat) (l : List Nat) (nM : Nat) (ps : List Pl) (rs : List Rd) (pv rv : Value) (W : World) : Prop where
  cd : ∃ j, CdAt W b l j
  kR : Bk W w.heap.size #[.slice none 0 0, .slice none 0 0] 26
  kM : Bk W nM #[pv, rv] 26
  p : W.ownsRow w.heap.size 37 2 pv ps.length (ps.flatMap Pl.cells)
  r : W.ownsRow w.heap.size 41 10 rv rs.length (rs.flatMap Rd.cells)
  g : w.grownBy W (some b)
  lt : b < w.heap.size ∧ w.heap.size < nM
section
variable {w : World} {b : Nat} {l : List Nat} {nM : Nat} {ps : List Pl} {rs : List Rd} {pv rv : Value} {W : World}
theorem MiSt.drew (h : MiSt w b l nM ps rs pv rv W) : MiSt w b l nM ps rs pv rv W.drew := ⟨h.cd, h.kR, h.kM, h.p, h.r, gb_drew h.g, h.lt⟩
theorem MiSt.by_ {W' : World} (h : MiSt w b l nM ps rs pv rv W) (o : W.grownBy W' (some b)) {j : Nat} (c : CdAt W' b l j) : MiSt w b l nM ps rs pv rv W' :=
  ⟨⟨j, c⟩, h.kR.of o (by have := h.lt; simp; omega), h.kM.of o (by have := h.lt; simp; omega),
    h.p.kept o (.inr fun e => by have := own_base h.p b e; have := h.lt; omega), h.r.kept o (.inr fun e => by have := own_base h.r b e; have := h.lt; omega), gb_same h.g o, h.lt⟩
theorem MiSt.alloc (h : MiSt w b l nM ps rs pv rv W) (o : Obj) : MiSt w b l nM ps rs pv rv (W.alloc o) :=
  let ⟨_, c⟩ := h.cd; h.by_ (gb_alloc (gb_refl _ _) _) (c.alloc o)
/-- Places grew, and were stored back. -/
theorem MiSt.addP {W' : World} (h : MiSt w b l nM ps rs pv rv W) (p : Pl) {pv' : Value} (hp : W'.ownsRow w.heap.size 37 2 pv' (ps.length + 1) (ps.flatMap Pl.cells ++ p.cells)) (o : W.grownBy W' pv.ownBlock) :
    MiSt w b l nM (ps ++ [p]) rs pv' rv (W'.setCell ⟨nM, 0, none⟩ pv') := by
  have hl := h.lt
  have n1 := own_ne h.p h.kM (by decide)
  have n2 := own_ne h.p h.kR (by decide)
  have hb : ∀ g, pv.ownBlock = some g → w.heap.size ≤ g := own_base h.p
  have kM' := h.kM.of o n1
  have kR' := h.kR.of o n2
  have g2 : W'.grownBy (W'.setCell ⟨nM, 0, none⟩ pv') (some nM) := gb_set (gb_refl _ _) ⟨nM, 0, none⟩ (.inl rfl) _
  obtain ⟨j, c⟩ := h.cd
  refine ⟨⟨j, (c.keep o (fun g e => by have := hb g e; omega)).keep g2 (fun g e => by injection e with e; omega)⟩, kR'.of g2 (by simp; omega), by simpa using kM'.set 0 pv', ?_, ?_, ?_, hl⟩
  · have e : (ps ++ [p]).flatMap Pl.cells = ps.flatMap Pl.cells ++ p.cells := by simp
    rw [e, List.length_append]
    exact hp.kept g2 (.inr (own_ne hp kM' (by decide)))
  · have hr := h.r.kept o (own_own h.r h.p (by decide))
    exact hr.kept g2 (.inr (own_ne hr kM' (by decide)))
  · exact gb_new (gb_call h.g o (fun g e => .inr (hb g e))) g2 (by omega)
theorem MiSt.addR {W' : World} (h : MiSt w b l nM ps rs pv rv W) (r : Rd) {rv' : Value} (hr : W'.ownsRow w.heap.size 41 10 rv' (rs.length + 1) (rs.flatMap Rd.cells ++ r.cells)) (o : W.grownBy W' rv.ownBlock) :
    MiSt w b l nM ps (rs ++ [r]) pv rv' (W'.setCell ⟨nM, 1, none⟩ rv') := by
  have hl := h.lt
  have n1 := own_ne h.r h.kM (by decide)
  have n2 := own_ne h.r h.kR (by decide)
  have hb : ∀ g, rv.ownBlock = some g → w.heap.size ≤ g := own_base h.r
  have kM' := h.kM.of o n1
  have kR' := h.kR.of o n2
  have g2 : W'.grownBy (W'.setCell ⟨nM, 1, none⟩ rv') (some nM) := gb_set (gb_refl _ _) ⟨nM, 1, none⟩ (.inl rfl) _
  obtain ⟨j, c⟩ := h.cd
  refine ⟨⟨j, (c.keep o (fun g e => by have := hb g e; omega)).keep g2 (fun g e => by injection e with e; omega)⟩, kR'.of g2 (by simp; omega), by simpa using kM'.set 1 rv', ?_, ?_, ?_, hl⟩
  · have hp := h.p.kept o (own_own h.p h.r (by decide))
    exact hp.kept g2 (.inr (own_ne hp kM' (by decide)))
  · have e : (rs ++ [r]).flatMap Rd.cells = rs.flatMap Rd.cells ++ r.cells := by simp
    rw [e, List.length_append]
    exact hr.kept g2 (.inr (own_ne hr kM' (by decide)))
  · exact gb_new (gb_call h.g o (fun g e => .inr (hb g e))) g2 (by omega)
end

theorem own_sl {W : World} {base : Nat} {e : TypeId} {size : Nat} {v : Value} {n : Nat} {xs : List Value} (h : W.ownsRow base e size v n xs) : Sl W v size n xs := by
  refine ⟨h.1, ?_⟩
  rcases h.2 with h2 | ⟨g, cap, cur, rfl, _, hg, hn, hm, hc, hx⟩
  · exact .inl ⟨h2.2, .inl h2.1⟩
  · refine .inr ⟨g, 0, cap, rfl, hn, hm, fun j hj => ?_⟩
    rw [Nat.zero_add, Bk.cell (show Bk W g cur e from hg) j, ← hx]
    have hle : n * size ≤ cap * size := Nat.mul_le_mul_right _ hn
    rw [List.getD_eq_getElem?_getD, List.getElem?_take, if_pos hj, Array.getElem?_toList, Array.getElem?_eq_getElem (by omega)]
    rfl

theorem own_slice {W : World} {base : Nat} {e : TypeId} {size : Nat} {v : Value} {n : Nat} {xs : List Value} (h : W.ownsRow base e size v n xs) : ∃ a m c, v = .slice a m c := by
  rcases h.2 with ⟨h2, _⟩ | ⟨g, cap, cur, h2, _⟩ <;> exact ⟨_, _, _, h2⟩

/-- The end: the mine is stored into the result. -/
theorem MiSt.fin {w : World} {b : Nat} {l : List Nat} {nM : Nat} {ps : List Pl} {rs : List Rd} {pv rv : Value} {W : World} (h : MiSt w b l nM ps rs pv rv W) :
    Bk (setC W w.heap.size 0 [pv, rv]) w.heap.size #[pv, rv] 26 ∧ MnV (setC W w.heap.size 0 [pv, rv]) (.agg #[pv, rv]) ⟨ps, rs⟩ ∧ (∃ j, CdAt (setC W w.heap.size 0 [pv, rv]) b l j) ∧ w.grownBy (setC W w.heap.size 0 [pv, rv]) (some b) := by
  have g := setC_gb w.heap.size [pv, rv] W 0
  obtain ⟨j, c⟩ := h.cd
  refine ⟨h.kR.all [pv, rv] rfl, ⟨pv, rv, rfl, own_sl (h.p.kept g (.inr (own_ne h.p h.kR (by decide)))), own_sl (h.r.kept g (.inr (own_ne h.r h.kR (by decide))))⟩, ⟨j, c.keep g (fun g e => by injection e with e; have := h.lt; omega)⟩, gb_new h.g g (Nat.le_refl _)⟩

theorem ckRd_good {n a c : Int} {r : Rd} (hn : 2 ≤ n) (ha : 0 ≤ a) (ha2 : a < n) (hc : 0 ≤ c) (hc2 : c < n - 1) (h : RdGood r a ((a + 1 + c) % n)) (cl : Bool) : ckRd ⟨r.f, r.t, r.len, r.area, r.walk, cl, r.rest, r.lift⟩ n = 0 := by
  obtain ⟨h1, h2, h3, h4, _, h6, h7⟩ := h
  have m1 := Int.emod_nonneg (a + 1 + c) (show n ≠ 0 by omega)
  have m2 := Int.emod_lt_of_pos (a + 1 + c) (show 0 < n by omega)
  have m3 : (a + 1 + c) % n ≠ a := by
    by_cases g : a + 1 + c < n
    · rw [Int.emod_eq_of_lt (by omega) g]; omega
    · rw [← Int.sub_emod_right, Int.emod_eq_of_lt (by omega) (by omega)]; omega
  have e1 : wi r.f 0 (n - 1) = true := by simp [wi]; omega
  have e2 : wi r.t 0 (n - 1) = true := by simp [wi]; omega
  have e3 : decide (r.f = r.t) = false := by simp; omega
  have e4 : wi r.len 1 100000 = true := by simp [wi]; omega
  have e5 : wi r.area 1 1000 = true := by simp [wi]; omega
  have e6 : spn r.rest 1 262144 = true := by simp [spn]; omega
  have e7 : spn r.lift (-2199023255552) 2199023255552 = true := by simp [spn]; omega
  simp [ckRd, e1, e2, e4, e5, e6, e7, of_decide_eq_false e3]

theorem ckPls_snoc {ps : List Pl} {p : Pl} (h : ckPls ps = true) (hp : wi p.h (-10000) 10000 = true) : ckPls (ps ++ [p]) = true := by
  unfold ckPls at *
  simp [List.all_append, h, hp]
theorem ckRds_snoc {n : Int} {r : Rd} : ∀ {rs : List Rd}, ckRds n rs = 0 → ckRd r n = 0 → ckRds n (rs ++ [r]) = 0
  | [], _, hr => by simp [ckRds, hr]
  | x :: rs, h, hr => by
    simp only [List.cons_append, ckRds] at *
    by_cases g : ckRd x n = 0
    · rw [if_pos g] at h ⊢; exact ckRds_snoc h hr
    · rw [if_neg g] at h; exact absurd h g

set_option maxHeartbeats 2000000 in
theorem mine_any (b : Nat) (l : List Nat) (i : Nat) (w : World) (h : CdAt w b l i) :
    Calls Try.prog 11 #[.pointer (some ⟨b, 0, none⟩)] w fun e w' => ∃ m : Mn, ∃ v : Value, e = .returned v ∧ MnV w' v m ∧ ck m = 0 ∧ 2 ≤ m.ps.length ∧ m.ps.length ≤ 7 ∧ m.rs.length ≤ 8 ∧ (∃ j, CdAt w' b l j) ∧ w.grownBy w' (some b) := by
  have hb := h.lt
  obtain ⟨ip, hip, hip1, hip2, hip3⟩ := info_parts Try.infoPlace
  obtain ⟨ir, hir, hir1, hir2, hir3⟩ := info_parts Try.infoRoad
  go_enter Try.func11, Try.ntmps11
  go_wp2_with fail
  have S0 : MiSt w b l (w.heap.size + 1 + 1) [⟨0, true⟩] [] (.slice (some ⟨w.heap.size + 1, 0, none⟩) 1 1) (.slice none 0 0) (((w.alloc (.cells #[.slice none 0 0, .slice none 0 0] 26)).alloc (.cells #[.int .i64 0, .bool true] 37)).alloc (.cells #[.slice (some ⟨w.heap.size + 1, 0, none⟩) 1 1, .slice none 0 0] 26)) := by
    have k1 := Bk.new w #[.slice none 0 0, .slice none 0 0] 26
    have k2 := Bk.new (w.alloc (.cells #[.slice none 0 0, .slice none 0 0] 26)) #[.int .i64 0, .bool true] 37
    have k3 := Bk.new ((w.alloc (.cells #[.slice none 0 0, .slice none 0 0] 26)).alloc (.cells #[.int .i64 0, .bool true] 37)) #[.slice (some ⟨w.heap.size + 1, 0, none⟩) 1 1, .slice none 0 0] 26
    simp only [World.size_alloc] at k2 k3
    have k2' := k2.of (gb_alloc (gb_refl _ none) (.cells #[.slice (some ⟨w.heap.size + 1, 0, none⟩) 1 1, .slice none 0 0] 26)) (by simp)
    refine ⟨⟨i, ((h.alloc _).alloc _).alloc _⟩, (k1.of (gb_alloc (gb_refl _ none) _) (by simp)).of (gb_alloc (gb_refl _ none) _) (by simp), k3, ⟨by rfl, .inr ⟨w.heap.size + 1, 1, _, rfl, by omega, k2', by simp, by simp [maxLen], by rfl, by rfl⟩⟩, World.ownsRow_nil _ _ _ _, gb_alloc (gb_alloc (gb_alloc (gb_refl _ _) _) _) _, ⟨hb, by omega⟩⟩
  generalize ((w.alloc _).alloc _).alloc _ = W0 at *
  generalize w.heap.size + 1 + 1 = nM at *
  obtain ⟨j0, c0⟩ := S0.cd
  refine (next_ex _ _ _ _ _ c0 (by omega) (by omega)).mono ?_
  rintro e w1 ⟨n, j1, rfl, a1, b1, c1, ho⟩
  have S1 := S0.by_ (gb_only ho) c1
  clear ho c1 c0 S0
  go_wp2_with fail
  go_loopw [4] (fun x wr => ∃ (k : Int) (ps : List Pl) (pv : Value), x = .int .i64 k ∧ 0 ≤ k ∧ 1 ≤ ps.length ∧ 2 ≤ ps.length + k ∧ ps.length + k ≤ 7 ∧ ckPls ps = true ∧ MiSt w b l nM ps [] pv (.slice none 0 0) wr) (fun x _ => (intOf x).toNat)
  case atStart => exact ⟨_, _, _, rfl, by omega, by simp, by simp; omega, by simp; omega, by decide, S1⟩
  case round =>
    clear S1
    obtain ⟨k, ps, pv, rfl, hk0, hp1, hp2, hp3, hck, S⟩ := hrel
    have Hck := Lib.hid hck
    clear hck
    by_cases hlt : 0 < k
    · obtain ⟨j, c⟩ := S.cd
      have HS := Lib.hid S
      have m0 : wr.cell? ⟨nM, 0, none⟩ = some pv := S.kM.cell 0
      clear S
      go_wp2_with fail
      go_region_law (first
        | (go_simp; go_at_call 38; refine (range_ex _ _ _ _ _ _ c.drew (by omega) (by omega) (by omega)).mono ?_; rintro e w2 ⟨v1, j1, rfl, a1, b1, c1, ho⟩; have S2 := HS.out.drew.by_ (gb_only ho) c1; have HS2 := Lib.hid S2; have m2 : w2.cell? ⟨nM, 0, none⟩ = some pv := S2.kM.cell 0; clear S2 ho)
        | (go_simp; go_at_call 39; refine (one_ex _ _ _ _ _ c1 (by omega) (by omega)).mono ?_; rintro e w3 ⟨v2, j2, rfl, c2, ho⟩; have S3 := HS2.out.by_ (gb_only ho) c2; have HS3 := Lib.hid S3; have m3 : w3.cell? ⟨nM, 0, none⟩ = some pv := S3.kM.cell 0; have m3a : (w3.alloc (.cells #[.int .i64 v1, .bool v2] 37)).cell? ⟨nM, 0, none⟩ = some pv := (S3.alloc _).kM.cell 0; clear S3 ho)
        | (refine step_append_lies _ (by rfl) _ _ _ (by rfl) w.heap.size 37 ip _ 2 16 Try.underlying23 hip hip1 hip2 hip3 rfl (by omega) pv ps.length (ps.flatMap Pl.cells) (by rfl) (HS3.out.alloc _).p ⟨w3.heap.size, 0, none⟩ 1 1 (Pl.cells ⟨v1, v2⟩) (by rfl) (by rfl) (World.news_of_block (cs := #[.int .i64 v1, .bool v2]) (t := 37) (fr := (0, 0)) (heap_alloc_new _ _)) (by simp [Pl.cells, Value.oneCell']) (by omega) (by simp [maxLen]; omega) (by omega) (by have := HS3.out.g.size; simp; omega) (w3.heap.size + 1) (by simp) ?_; intro gg cap w4 hown hgrow hat hlt2; have SA := HS3.out.alloc (.cells #[.int .i64 v1, .bool v2] 37); have kM4 := SA.kM.of hgrow (own_ne SA.p SA.kM (by decide)); have q4 : w4.cell? ⟨nM, 0, none⟩ = some pv := kM4.cell 0; have q4f : w4.frozen? ⟨nM, 0, none⟩ = false := kM4.frozen 0; have HS4 := Lib.hid (SA.addP ⟨v1, v2⟩ hown hgrow); clear SA kM4 hown))
      all_goals
        go_wp2_with fail
        exact ⟨⟨k - 1, ps ++ [⟨v1, v2⟩], _, rfl, by omega, by simp, by simp; omega, by simp; omega, ckPls_snoc Hck.out (by simp [wi]; omega), HS4.out⟩, by simp [intOf]; omega⟩
    · have hk : k = 0 := by omega
      subst hk
      have Hn := Lib.hid (show 2 ≤ ps.length ∧ ps.length ≤ 7 by omega)
      have n2 : (2 : Int) ≤ (ps.length : Int) := by omega
      have n7 : (ps.length : Int) ≤ 7 := by omega
      clear hp1 hp2 hp3 hk0
      have m0 : wr.cell? ⟨nM, 0, none⟩ = some pv := S.kM.cell 0
      obtain ⟨j, c⟩ := S.cd
      have hpf : ∃ g cap, pv = .slice (some ⟨g, 0, none⟩) ps.length cap := by
        obtain ⟨g, cap, h, _⟩ := S.p.form (by omega)
        exact ⟨g, cap, h⟩
      obtain ⟨g0, cap0, rfl⟩ := hpf
      go_wp2_with fail
      refine (next_ex _ _ _ _ _ c (by omega) (by omega)).mono ?_
      rintro e w2 ⟨q, j1, rfl, a1, b1, c1, ho⟩
      have S2 := S.by_ (gb_only ho) c1
      clear ho c1 c S m0
      go_wp2_with fail
      go_loopw [6] (fun x wr => ∃ (k : Int) (rs : List Rd) (rv : Value), x = .int .i64 k ∧ 0 ≤ k ∧ rs.length + k ≤ 8 ∧ ckRds ps.length rs = 0 ∧ MiSt w b l nM ps rs (.slice (some ⟨g0, 0, none⟩) ps.length cap0) rv wr) (fun x _ => (intOf x).toNat)
      case atStart => exact ⟨_, [], _, rfl, by omega, by simp; omega, rfl, S2⟩
      case round =>
        clear S2
        obtain ⟨k, rs, rv, rfl, hk0, hr3, hcr, S⟩ := hrel
        have Hcr := Lib.hid hcr
        clear hcr
        by_cases hlt : 0 < k
        · obtain ⟨j, c⟩ := S.cd
          go_wp2_with fail
          refine (next_ex _ _ _ _ _ c (by omega) (by omega)).mono ?_
          rintro e w3 ⟨v1, j1, rfl, a1, b1, c1, ho⟩
          have S3 := S.by_ (gb_only ho) c1
          clear ho c S
          go_wp2_with fail
          refine (next_ex _ _ _ _ _ c1 (by omega) (by omega)).mono ?_
          rintro e w4 ⟨v2, j2, rfl, a2, b2, c2, ho⟩
          have S4 := S3.by_ (gb_only ho) c2
          clear ho c1 S3
          go_wp2_with fail
          refine (road_any _ _ _ _ _ _ c2).mono ?_
          rintro e w5 ⟨r, rfl, hr, ⟨j3, c3⟩, ho⟩
          have S5 := S4.by_ ho c3
          clear ho c2 S4
          obtain ⟨rf, rt, rlen, rarea, rwalk, rclosed, ⟨r1, r2⟩, ⟨r3, r4⟩⟩ := r
          unfold Rd.v
          go_wp2_with fail
          have K := Bk.new w5 #[.int .i64 rf, .int .i64 rt, .int .i64 rlen, .int .i64 rarea, .bool rwalk, .bool rclosed, .int .i64 r1, .int .i64 r2, .int .i64 r3, .int .i64 r4] 41
          have F := gb_alloc (gb_refl w5 (some b)) (.cells #[.int .i64 rf, .int .i64 rt, .int .i64 rlen, .int .i64 rarea, .bool rwalk, .bool rclosed, .int .i64 r1, .int .i64 r2, .int .i64 r3, .int .i64 r4] 41)
          have c4 := c3.alloc (.cells #[.int .i64 rf, .int .i64 rt, .int .i64 rlen, .int .i64 rarea, .bool rwalk, .bool rclosed, .int .i64 r1, .int .i64 r2, .int .i64 r3, .int .i64 r4] 41)
          have hbr : b < w5.heap.size := c3.lt
          generalize w5.alloc _ = W5 at *
          refine (one_ex _ _ _ _ _ c4 (by omega) (by omega)).mono ?_
          rintro e w6 ⟨v3, j4, rfl, c5, ho⟩
          replace K := K.of (gb_only ho) (by simp; omega)
          replace F := gb_same F (gb_only ho)
          clear ho c4 c3
          have q5 : w6.cell? ⟨w5.heap.size, 5, none⟩ = some (.bool rclosed) := K.cell 5
          have q5f : w6.frozen? ⟨w5.heap.size, 5, none⟩ = false := K.frozen 5
          have K7 := K.set 5 (.bool v3)
          simp only [List.setIfInBounds_toArray, List.set_cons_succ, List.set_cons_zero] at K7
          have g7 : w6.grownBy (w6.setCell ⟨w5.heap.size, 5, none⟩ (.bool v3)) (some w5.heap.size) := gb_set (gb_refl _ _) ⟨w5.heap.size, 5, none⟩ (.inl rfl) _
          have S7 := S5.by_ (gb_new F g7 (Nat.le_refl _)) (c5.keep g7 (fun g e => by injection e with e; omega))
          clear K F c5 g7
          have K7c := K7.cell
          have m7 : (w6.setCell ⟨w5.heap.size, 5, none⟩ (.bool v3)).cell? ⟨nM, 1, none⟩ = some rv := S7.kM.cell 1
          have hnew := heap_alloc_new (w6.setCell ⟨w5.heap.size, 5, none⟩ (.bool v3)) (.cells #[.int .i64 rf, .int .i64 rt, .int .i64 rlen, .int .i64 rarea, .bool rwalk, .bool v3, .int .i64 r1, .int .i64 r2, .int .i64 r3, .int .i64 r4] 41)
          rw [World.size_setCell] at hnew
          have Hnew := Lib.hid hnew
          clear hnew
          have HS7 := Lib.hid S7
          have HS5 := Lib.hid S5
          have HK7 := Lib.hid K7
          clear S7 S5 K7
          go_wp2_with (at_builtin; go_loud (refine wpList_append_lies _ rfl _ _ _ rfl w.heap.size 41 ir _ 10 72 Try.underlying24 hir hir1 hir2 hir3 rfl (by omega) rv rs.length (rs.flatMap Rd.cells) rfl (HS7.out.alloc _).r ⟨w6.heap.size, 0, none⟩ 1 1 (Rd.cells ⟨rf, rt, rlen, rarea, rwalk, v3, ⟨r1, r2⟩, ⟨r3, r4⟩⟩) rfl rfl (World.news_of_block (cs := #[.int .i64 rf, .int .i64 rt, .int .i64 rlen, .int .i64 rarea, .bool rwalk, .bool v3, .int .i64 r1, .int .i64 r2, .int .i64 r3, .int .i64 r4]) (t := 41) (fr := (0, 0)) Hnew.out) (by simp [Rd.cells, Value.oneCell']) (by omega) (by simp [maxLen]; omega) (by omega) (by have := HS7.out.g.size; simp at this ⊢; omega) (w6.heap.size + 1) (by simp) ?_); intro gg cap w8 hown hgrow hat hlt2; have SA := HS7.out.alloc (.cells #[.int .i64 rf, .int .i64 rt, .int .i64 rlen, .int .i64 rarea, .bool rwalk, .bool v3, .int .i64 r1, .int .i64 r2, .int .i64 r3, .int .i64 r4] 41); have kM8 := SA.kM.of hgrow (own_ne SA.r SA.kM (by decide)); have q8 : w8.cell? ⟨nM, 1, none⟩ = some rv := kM8.cell 1; have q8f : w8.frozen? ⟨nM, 1, none⟩ = false := kM8.frozen 1; have HS8 := Lib.hid (SA.addR ⟨rf, rt, rlen, rarea, rwalk, v3, ⟨r1, r2⟩, ⟨r3, r4⟩⟩ hown hgrow); clear SA kM8 hown hgrow m7 K7c)
          have hr2 := ckRd_good (by omega) a1 b1 a2 b2 hr v3
          exact ⟨⟨k - 1, rs ++ [⟨rf, rt, rlen, rarea, rwalk, v3, ⟨r1, r2⟩, ⟨r3, r4⟩⟩], _, rfl, by omega, by simp; omega, ckRds_snoc Hcr.out hr2, HS8.out⟩, by simp [intOf]; omega⟩
        · have hk : k = 0 := by omega
          subst hk
          have hrl : rs.length ≤ 8 := by omega
          obtain ⟨ra, rn, rcap, rfl⟩ := own_slice S.r
          have F := Lib.hid S.fin
          have kMc := S.kM.cell
          have kRc := S.kR.cell
          have kRf := S.kR.frozen
          clear hr3 hk0
          have HS := Lib.hid S
          clear S
          go_wp2_with fail
          have F := F.out
          simp only [setC] at F
          generalize World.setCell _ _ _ = W9 at *
          obtain ⟨fk, fm, fc, fg⟩ := F
          have fkc := fk.cell
          clear kMc kRc kRf
          refine bodyPost_ret (v := .agg #[.slice (some ⟨g0, 0, none⟩) ps.length cap0, .slice ra rn rcap]) (by simp [results, Try.results11, go_sem, fkc]) rfl ?_
          refine ⟨⟨ps, rs⟩, _, rfl, fm, ?_, Hn.out.1, Hn.out.2, hrl, fc, fg⟩
          simp [ck, Hck.out, Hcr.out]
          have := Hn.out
          omega

end Go.Proofs.Ytbiikgkfklhohaa
