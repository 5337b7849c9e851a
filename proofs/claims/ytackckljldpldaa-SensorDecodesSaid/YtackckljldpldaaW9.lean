/- Stage 5, the program's said. -/
import Derived.Test.YtackckljldpldaaW8
import Derived.Test.YtackckljldpldaaE5
namespace Go.Proofs.Ytackckljldpldaa
open Go.RowKit
attribute [local go_sem ↓] Go.wp_at_zero Go.wp_at_succ

/-- What a telegram of a sensor says. -/
def saidSn (s : Sn) (f : Fr) : (Int × Int) × Int :=
  if f.kind = 1 ∧ f.data.length = 2 then (valSn s ((f.data.getD 0 0 : Int) * 256 + (f.data.getD 1 0 : Int)), 0)
  else if f.kind = 2 ∧ f.data.length = 0 then (nothingSp, 0)
  else if f.kind = 1 ∨ f.kind = 2 then ((0, 0), 6) else ((0, 0), 5)

structure SaS (w : World) (s : Sn) (x y z : Value) (W : World) : Prop where
  k0 : Bk W w.heap.size (senL s).toArray 24
  k1 : Bk W (w.heap.size + 1) #[x, y, z] 34
  k4 : Bk W (w.heap.size + 2) #[.int .i64 0, .int .i64 0] 29
  g : w.grownBy W none
theorem SaS.by_ {w : World} {s : Sn} {x y z : Value} {W W' : World} (h : SaS w s x y z W) (o : W.grownBy W' none) : SaS w s x y z W' := ⟨h.k0.of o (by simp), h.k1.of o (by simp), h.k4.of o (by simp), gb_none h.g o⟩
theorem SaS.fin {w : World} {s : Sn} {x y z : Value} {W : World} (h : SaS w s x y z W) (a b : Int) : Bk (setC W (w.heap.size + 2) 0 [.int .i64 a, .int .i64 b]) (w.heap.size + 2) #[.int .i64 a, .int .i64 b] 29 ∧ w.grownBy (setC W (w.heap.size + 2) 0 [.int .i64 a, .int .i64 b]) none :=
  ⟨h.k4.all [.int .i64 a, .int .i64 b] rfl, gb_new h.g (setC_gb _ _ _ _) (by omega)⟩

set_option maxRecDepth 100000 in
set_option maxHeartbeats 8000000 in
theorem said_any (s : Sn) (f : Fr) (dv : Value) (w : World) (h : Sl w dv 1 f.data.length (bytes f.data)) (hb : ∀ x ∈ f.data, x < 256) :
    Calls Try.prog 56 #[.agg (senL s).toArray, .agg #[.int .i64 f.addr, .int .i64 f.kind, dv]] w fun e w' => e = .returned (.tuple #[.agg #[.int .i64 (saidSn s f).1.1, .int .i64 (saidSn s f).1.2], .int .i64 (saidSn s f).2]) ∧ w.grownBy w' none := by
  obtain ⟨ad, kd, data⟩ := f
  dsimp only at h hb ⊢
  obtain ⟨a, cap, rfl, hn, hm, hc⟩ := h.shape
  unfold maxLen at hm
  have S1 : SaS w s (.int .i64 ad) (.int .i64 kd) (.slice a data.length cap) (((w.alloc (.cells (senL s).toArray 24)).alloc (.cells #[.int .i64 ad, .int .i64 kd, .slice a data.length cap] 34)).alloc (.cells #[.int .i64 0, .int .i64 0] 29)) := by
    have k2 := Bk.new ((w.alloc (.cells (senL s).toArray 24)).alloc (.cells #[.int .i64 ad, .int .i64 kd, .slice a data.length cap] 34)) #[.int .i64 0, .int .i64 0] 29
    have k1 := Bk.new (w.alloc (.cells (senL s).toArray 24)) #[.int .i64 ad, .int .i64 kd, .slice a data.length cap] 34
    rw [World.size_alloc] at k1
    rw [World.size_alloc, World.size_alloc] at k2
    exact ⟨((Bk.new w _ _).of (gb_alloc (gb_refl _ none) _) (by simp)).of (gb_alloc (gb_refl _ none) _) (by simp), k1.of (gb_alloc (gb_refl _ none) _) (by simp), k2, gb_alloc (gb_alloc (gb_alloc (gb_refl _ _) _) _) _⟩
  obtain ⟨v, hv⟩ : ∃ v, saidSn s ⟨ad, kd, data⟩ = v := ⟨_, rfl⟩
  obtain ⟨⟨vx, vy⟩, vc⟩ := v
  rw [hv]
  have HV := Lib.hid hv
  have HS1 := Lib.hid S1
  have HPV := Lib.hid (pVal_any s)
  have HD := Lib.hid (h.by_ S1.g)
  have HD0 := Lib.hid h
  clear hv S1 h
  unfold senL at HS1 HD HPV ⊢
  go_enter Try.func56, Try.ntmps56
  go_upto_region 1 with fail
  generalize ((w.alloc _).alloc _).alloc _ = W1 at *
  have k1c := HS1.out.k1.cell
  by_cases h1 : kd = 1
  · subst h1
    by_cases hl : data.length = 2
    · obtain ⟨x, y, rfl⟩ : ∃ x y, data = [x, y] := by
        match data, hl with
        | [x, y], _ => exact ⟨x, y, rfl⟩
      have hx : x < 256 := hb x (by simp)
      have hy : y < 256 := hb y (by simp)
      obtain ⟨g, off, rfl, _⟩ : ∃ g off, a = some ⟨g, off, none⟩ ∧ True := by
        rcases hc with h0 | ⟨g, off, e, _⟩
        · simp at h0
        · exact ⟨g, off, e, trivial⟩
      clear hc
      have c0 : W1.cell? ⟨g, off, none⟩ = some (.int .u8 (x : Int)) := by simpa using sl_cell (n := 2) HD.out 0 (by omega) rfl
      have c1 : W1.cell? ⟨g, off + 1, none⟩ = some (.int .u8 (y : Int)) := by simpa using sl_cell (n := 2) HD.out 1 (by omega) rfl
      have hw2 : IntKind.i64.wrap ((x : Int) * 256) = (x : Int) * 256 := IntWalk.i64_in _ (by omega)
      have hw3 : IntKind.i64.wrap ((x : Int) * 256 + (y : Int)) = (x : Int) * 256 + (y : Int) := IntWalk.i64_in _ (by omega)
      have hv : (valSn s ((x : Int) * 256 + (y : Int)), (0 : Int)) = ((vx, vy), vc) := by
        rw [← HV.out]
        unfold saidSn
        rw [if_pos ⟨rfl, rfl⟩]
        rfl
      simp only [Prod.mk.injEq] at hv
      obtain ⟨hv, rfl⟩ := hv
      have hE : IntKind.i64.wrap (IntKind.i64.wrap (IntKind.i64.wrap (x : Int) * 256) + IntKind.i64.wrap (y : Int)) = (x : Int) * 256 + (y : Int) := by
        rw [IntWalk.i64_in (x : Int) (by omega), IntWalk.i64_in (y : Int) (by omega), hw2, hw3]
      have hz : (-9223372036854775808 : Int) ≤ IntKind.i64.wrap (IntKind.i64.wrap (IntKind.i64.wrap (x : Int) * 256) + IntKind.i64.wrap (y : Int)) ∧ IntKind.i64.wrap (IntKind.i64.wrap (IntKind.i64.wrap (x : Int) * 256) + IntKind.i64.wrap (y : Int)) ≤ 9223372036854775807 := by rw [hE]; omega
      have HVAL := Lib.hid (HPV.out (IntKind.i64.wrap (IntKind.i64.wrap (IntKind.i64.wrap (x : Int) * 256) + IntKind.i64.wrap (y : Int))))
      have hv' : valSn s (IntKind.i64.wrap (IntKind.i64.wrap (IntKind.i64.wrap (x : Int) * 256) + IntKind.i64.wrap (y : Int))) = (vx, vy) := by rw [hE]; exact hv
      rw [hv'] at HVAL
      dsimp only at HVAL
      clear hv'
      have HZ := Lib.hid hz
      clear hv hz hb hn hE hw2 hw3
      go_upto_region 2 with fail
      have HSd := Lib.hid (HS1.out.by_ (gb_drew (gb_refl W1 none)))
      have c0d : W1.drew.cell? ⟨g, off, none⟩ = some (.int .u8 (x : Int)) := c0
      have c1d : W1.drew.cell? ⟨g, off + 1, none⟩ = some (.int .u8 (y : Int)) := c1
      have k1d : W1.drew.cell? ⟨w.heap.size + 1, 2, none⟩ = some (.slice (some ⟨g, off, none⟩) 2 cap) := HSd.out.k1.cell 2
      have k0d := HSd.out.k0.cell
      unfold senL at k0d
      have HDd := Lib.hid (HD.out.by_ (gb_drew (gb_refl W1 none)))
      clear HS1 c0 c1 k1c HD
      go_region_held3 (fun w' => (∀ o, w'.cell? ⟨w.heap.size, o, none⟩ = [Value.int .i64 s.addr, .int .i64 s.kind, .int .i64 s.target, .int .i64 s.offset, .int .i64 s.scale, .int .i64 s.error, .int .i64 s.drift, .int .i64 s.life].toArray[o]?) ∧ w'.cell? ⟨w.heap.size + 1, 2, none⟩ = some (.slice (some ⟨g, off, none⟩) 2 cap) ∧ w'.cell? ⟨g, off, none⟩ = some (.int .u8 (x : Int)) ∧ w'.cell? ⟨g, off + 1, none⟩ = some (.int .u8 (y : Int)))
        (first | (with_reducible exact ⟨k0d, k1d, c0d, c1d⟩) | (with_reducible exact ⟨f0, f1, f2, f3⟩) | (with_reducible exact ⟨q0, q1, q2, q3⟩) | fail)
        ((first
          | (go_at_call 17; refine (HVAL.out _ HZ.out.1 HZ.out.2).mono ?_; rintro e w6 ⟨rfl, hg6⟩; have HS6 := Lib.hid (HSd.out.by_ hg6); have HD6 := HDd.out.by_ hg6; have f0 := HS6.out.k0.cell; unfold senL at f0; have f1 : w6.cell? ⟨w.heap.size + 1, 2, none⟩ = some (.slice (some ⟨g, off, none⟩) 2 cap) := HS6.out.k1.cell 2; have f2 : w6.cell? ⟨g, off, none⟩ = some (.int .u8 (x : Int)) := (by simpa using sl_cell (n := 2) HD6 0 (by omega) rfl); have f3 : w6.cell? ⟨g, off + 1, none⟩ = some (.int .u8 (y : Int)) := (by simpa using sl_cell (n := 2) HD6 1 (by omega) rfl); have k4c := HS6.out.k4.cell; have k4f := HS6.out.k4.frozen; have HF9 := Lib.hid (HS6.out.fin vx vy); have HD9 := HD0.out.by_ HF9.out.2; have q0 := (HS6.out.k0.of (setC_gb (w.heap.size + 2) [.int .i64 vx, .int .i64 vy] w6 0) (by simp)).cell; unfold senL at q0; have q1 : (setC w6 (w.heap.size + 2) 0 [.int .i64 vx, .int .i64 vy]).cell? ⟨w.heap.size + 1, 2, none⟩ = some (.slice (some ⟨g, off, none⟩) 2 cap) := (HS6.out.k1.of (setC_gb (w.heap.size + 2) [.int .i64 vx, .int .i64 vy] w6 0) (by simp)).cell 2; have q2 : (setC w6 (w.heap.size + 2) 0 [.int .i64 vx, .int .i64 vy]).cell? ⟨g, off, none⟩ = some (.int .u8 (x : Int)) := (by simpa using sl_cell (n := 2) HD9 0 (by omega) rfl); have q3 : (setC w6 (w.heap.size + 2) 0 [.int .i64 vx, .int .i64 vy]).cell? ⟨g, off + 1, none⟩ = some (.int .u8 (y : Int)) := (by simpa using sl_cell (n := 2) HD9 1 (by omega) rfl); simp only [setC] at q0 q1 q2 q3; clear hg6 HD6 HD9)
          | fail))
      all_goals
        have F := HF9.out
        simp only [setC] at F
        have HF8 := Lib.hid F
        clear F HF9 q0 q1 q2 q3
        go_wp2_with fail
        generalize World.setCell _ ⟨w.heap.size + 2, 1, none⟩ _ = W9 at *
        have f9c := HF8.out.1.cell
        refine bodyPost_ret (v := .tuple #[.agg #[.int .i64 vx, .int .i64 vy], .int .i64 0]) (by simp [results, Try.results56, go_sem, f9c]) rfl ?_
        exact ⟨rfl, HF8.out.2⟩
    · have hl' : ((data.length : Int) == 2) = false := by simp; omega
      obtain ⟨⟨rfl, rfl⟩, rfl⟩ : (vx = 0 ∧ vy = 0) ∧ vc = 6 := by
        have e := HV.out
        unfold saidSn at e
        dsimp only at e
        rw [if_neg (by omega), if_neg (by omega), if_pos (by omega)] at e
        simp [Prod.ext_iff] at e
        omega
      clear hb hc hl hn
      have k4c := HS1.out.k4.cell
      have k4f := HS1.out.k4.frozen
      have F := HS1.out.fin 0 0
      simp only [setC] at F
      have HF9 := Lib.hid F
      clear F
      go_wp2_with fail
      generalize World.setCell _ ⟨w.heap.size + 2, 1, none⟩ _ = W9 at *
      have f9c := HF9.out.1.cell
      refine bodyPost_ret (v := .tuple #[.agg #[.int .i64 0, .int .i64 0], .int .i64 6]) (by simp [results, Try.results56, go_sem, f9c]) rfl ?_
      exact ⟨rfl, HF9.out.2⟩
  · have h1' : (kd == 1) = false := beq_false_of_ne h1
    by_cases h2 : kd = 2
    · subst h2
      by_cases hl : data.length = 0
      · have hl' : ((data.length : Int) == 0) = true := by simpa using hl
        obtain ⟨⟨rfl, rfl⟩, rfl⟩ : (vx = nothingSp.1 ∧ vy = nothingSp.2) ∧ vc = 0 := by
          have e := HV.out
          unfold saidSn at e
          dsimp only at e
          rw [if_neg (by omega), if_pos ⟨rfl, hl⟩] at e
          simp [Prod.ext_iff] at e
          omega
        clear hb hc hl hn
        go_wp2_with fail
        refine (pnothing_any _).mono ?_
        rintro e W8 ⟨rfl, hg8⟩
        have HS8 := Lib.hid (HS1.out.by_ hg8)
        clear hg8 k1c
        have k4c := HS8.out.k4.cell
        have k4f := HS8.out.k4.frozen
        have F := HS8.out.fin nothingSp.1 nothingSp.2
        simp only [setC] at F
        have HF9 := Lib.hid F
        clear F
        go_wp2_with fail
        generalize World.setCell _ ⟨w.heap.size + 2, 1, none⟩ _ = W9 at *
        have f9c := HF9.out.1.cell
        refine bodyPost_ret (v := .tuple #[.agg #[.int .i64 nothingSp.1, .int .i64 nothingSp.2], .int .i64 0]) (by simp [results, Try.results56, go_sem, f9c]) rfl ?_
        exact ⟨rfl, HF9.out.2⟩
      · have hl' : ((data.length : Int) == 0) = false := by simpa using hl
        obtain ⟨⟨rfl, rfl⟩, rfl⟩ : (vx = 0 ∧ vy = 0) ∧ vc = 6 := by
          have e := HV.out
          unfold saidSn at e
          dsimp only at e
          rw [if_neg (by omega), if_neg (fun hh => hl hh.2), if_pos (Or.inr rfl)] at e
          simp [Prod.ext_iff] at e
          omega
        clear hb hc hl hn
        have k4c := HS1.out.k4.cell
        have k4f := HS1.out.k4.frozen
        have F := HS1.out.fin 0 0
        simp only [setC] at F
        have HF9 := Lib.hid F
        clear F
        go_wp2_with fail
        generalize World.setCell _ ⟨w.heap.size + 2, 1, none⟩ _ = W9 at *
        have f9c := HF9.out.1.cell
        refine bodyPost_ret (v := .tuple #[.agg #[.int .i64 0, .int .i64 0], .int .i64 6]) (by simp [results, Try.results56, go_sem, f9c]) rfl ?_
        exact ⟨rfl, HF9.out.2⟩
    · have h2' : (kd == 2) = false := beq_false_of_ne h2
      obtain ⟨⟨rfl, rfl⟩, rfl⟩ : (vx = 0 ∧ vy = 0) ∧ vc = 5 := by
        have e := HV.out
        unfold saidSn at e
        dsimp only at e
        rw [if_neg (by omega), if_neg (by omega), if_neg (by omega)] at e
        simp [Prod.ext_iff] at e
        omega
      clear hb hc hn
      have k4c := HS1.out.k4.cell
      have k4f := HS1.out.k4.frozen
      have F := HS1.out.fin 0 0
      simp only [setC] at F
      have HF9 := Lib.hid F
      clear F
      go_wp2_with fail
      generalize World.setCell _ ⟨w.heap.size + 2, 1, none⟩ _ = W9 at *
      have f9c := HF9.out.1.cell
      refine bodyPost_ret (v := .tuple #[.agg #[.int .i64 0, .int .i64 0], .int .i64 5]) (by simp [results, Try.results56, go_sem, f9c]) rfl ?_
      exact ⟨rfl, HF9.out.2⟩
end Go.Proofs.Ytackckljldpldaa
