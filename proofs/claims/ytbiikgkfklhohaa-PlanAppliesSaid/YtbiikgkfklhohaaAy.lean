/- Apply. -/
import Derived.Test.YtbiikgkfklhohaaEd
namespace Go.Proofs.Ytbiikgkfklhohaa
open Go.RowKit

def applyMn (m : Mn) (d : Ed) : Mn × Int :=
  if ck m ≠ 0 then (⟨[], []⟩, ck m)
  else if ckEd m d ≠ 0 then (⟨[], []⟩, ckEd m d)
  else if ck (edMn m d) ≠ 0 then (⟨[], []⟩, ck (edMn m d))
  else (edMn m d, 0)

theorem ckEd_ok {m : Mn} {d : Ed} (h : ckEd m d = 0) : (1 ≤ d.kind ∧ d.kind ≤ 6) ∧ (3 ≤ d.kind → 0 ≤ d.road ∧ d.road < m.rs.length) := by
  unfold ckEd at h
  by_cases k12 : d.kind = 1 ∨ d.kind = 2
  · omega
  · rw [if_neg k12] at h
    by_cases k36 : d.kind = 3 ∨ d.kind = 4 ∨ d.kind = 5 ∨ d.kind = 6
    · rw [if_pos k36] at h
      by_cases hr : d.road < 0 ∨ m.rs.length ≤ d.road
      · rw [if_pos hr] at h; omega
      · omega
    · rw [if_neg k36] at h; omega
theorem ck_ok {m : Mn} (h : ck m = 0) : m.ps.length ≤ 64 ∧ m.rs.length ≤ 128 := by
  unfold ck at h
  by_cases g : 64 < m.ps.length ∨ 128 < m.rs.length
  · rw [if_pos g] at h; omega
  · omega

/-- While an edit is applied: the boxes, the result's block, the mine. -/
structure AyS (w : World) (m : Mn) (mv : Value) (pv rv : Value) (es : Array Value) (W : World) : Prop where
  k2 : Bk W w.heap.size #[pv, rv] 26
  k3 : Bk W (w.heap.size + 1) es 43
  k4 : Bk W (w.heap.size + 1 + 1) #[.slice none 0 0, .slice none 0 0] 26
  m : MnV W mv m
  g : w.grownBy W none
theorem MnV.by_ {w w' : World} {v : Value} {m : Mn} (h : MnV w v m) (o : w.grownBy w' none) : MnV w' v m := by
  obtain ⟨a, b, hv, h1, h2⟩ := h
  exact ⟨a, b, hv, Sl.by_ h1 o, Sl.by_ h2 o⟩
theorem MnO.by_ {w w' : World} {base : Nat} {v : Value} {m : Mn} (h : MnO w base v m) (o : w.grownBy w' none) : MnO w' base v m := by
  obtain ⟨a, b, hv, h1, h2⟩ := h
  exact ⟨a, b, hv, own_by h1 o, own_by h2 o⟩
theorem MnO.mono {w : World} {base base' : Nat} {v : Value} {m : Mn} (h : MnO w base v m) (hb : base' ≤ base) : MnO w base' v m := by
  obtain ⟨a, b, hv, h1, h2⟩ := h
  exact ⟨a, b, hv, own_mono h1 hb, own_mono h2 hb⟩
theorem MnO.set {w : World} {base b : Nat} {v : Value} {m : Mn} {cs : Array Value} (h : MnO w base v m) (k : Bk w b cs 26) (vs : List Value) : MnO (setC w b 0 vs) base v m := by
  obtain ⟨x, y, hv, h1, h2⟩ := h
  exact ⟨x, y, hv, ownsRow_set h1 k (by decide) _, ownsRow_set h2 k (by decide) _⟩
theorem MnO.nil (w : World) (base : Nat) : MnO w base (.agg #[.slice none 0 0, .slice none 0 0]) ⟨[], []⟩ := ⟨_, _, rfl, World.ownsRow_nil _ _ _ _, World.ownsRow_nil _ _ _ _⟩
section
variable {w : World} {m : Mn} {mv pv rv : Value} {es : Array Value} {W : World}
theorem AyS.by_ {W' : World} (h : AyS w m mv pv rv es W) (o : W.grownBy W' none) : AyS w m mv pv rv es W' :=
  ⟨h.k2.of o (by simp), h.k3.of o (by simp), h.k4.of o (by simp), h.m.by_ o, gb_same h.g o⟩
theorem gb_b {w w' : World} (h : Below w.heap.size w w') : w.grownBy w' none := gb_below h none
theorem AyS.start (w : World) (m : Mn) (pv rv : Value) (es : Array Value) (h : MnV w (.agg #[pv, rv]) m) :
    AyS w m (.agg #[pv, rv]) pv rv es (((w.alloc (.cells #[pv, rv] 26)).alloc (.cells es 43)).alloc (.cells #[.slice none 0 0, .slice none 0 0] 26)) := by
  have b2 := Bk.new (w.alloc (.cells #[pv, rv] 26)) es 43
  have b3 := Bk.new ((w.alloc (.cells #[pv, rv] 26)).alloc (.cells es 43)) #[.slice none 0 0, .slice none 0 0] 26
  have g3 := gb_alloc (gb_alloc (gb_alloc (gb_refl w none) (.cells #[pv, rv] 26)) (.cells es 43)) (.cells #[.slice none 0 0, .slice none 0 0] 26)
  have b1 := (Bk.new w #[pv, rv] 26).of (gb_alloc (gb_alloc (gb_refl _ none) (.cells es 43)) (.cells #[.slice none 0 0, .slice none 0 0] 26)) (by simp)
  replace b2 := b2.of (gb_alloc (gb_refl _ none) (.cells #[.slice none 0 0, .slice none 0 0] 26)) (by simp)
  simp only [World.size_alloc] at b2 b3
  exact ⟨b1, b2, b3, h.by_ g3, g3⟩
theorem AyS.fin (h : AyS w m mv pv rv es W) (x y : Value) {m' : Mn} (hm : MnO W w.heap.size (.agg #[x, y]) m') :
    Bk (setC W (w.heap.size + 1 + 1) 0 [x, y]) (w.heap.size + 1 + 1) #[x, y] 26 ∧ MnO (setC W (w.heap.size + 1 + 1) 0 [x, y]) w.heap.size (.agg #[x, y]) m' ∧ w.grownBy (setC W (w.heap.size + 1 + 1) 0 [x, y]) none :=
  ⟨h.k4.all [x, y] rfl, hm.set h.k4 _, gb_new h.g (setC_gb _ _ _ _) (by omega)⟩
end

set_option maxRecDepth 100000 in
set_option maxHeartbeats 4000000 in
theorem apply_any (v : Value) (m : Mn) (d : Ed) (w : World) (h : MnV w v m) :
    Calls Try.prog 18 #[v, d.v] w fun e w' => ∃ v', e = .returned (.tuple #[v', .int .i64 (applyMn m d).2]) ∧ MnO w' w.heap.size v' (applyMn m d).1 ∧ w.grownBy w' none := by
  obtain ⟨a, b, rfl, hp, hr⟩ := h
  obtain ⟨pa, pc, rfl, pc1, pc2, hpc⟩ := hp.shape
  obtain ⟨ra, rc, rfl, rc1, rc2, hrc⟩ := hr.shape
  have S0 := AyS.start w m (.slice pa m.ps.length pc) (.slice ra m.rs.length rc) #[.int .i64 d.kind, .int .i64 d.place.h, .bool d.place.s, .int .i64 d.new.f, .int .i64 d.new.t, .int .i64 d.new.len, .int .i64 d.new.area, .bool d.new.walk, .bool d.new.closed,
  .int .i64 d.new.rest.lo, .int .i64 d.new.rest.hi, .int .i64 d.new.lift.lo, .int .i64 d.new.lift.hi, .int .i64 d.road, .int .i64 d.span.lo, .int .i64 d.span.hi] ⟨_, _, rfl, hp, hr⟩
  have HE : Hid (d.v = .agg #[.int .i64 d.kind, .int .i64 d.place.h, .bool d.place.s, .int .i64 d.new.f, .int .i64 d.new.t, .int .i64 d.new.len, .int .i64 d.new.area, .bool d.new.walk, .bool d.new.closed,
  .int .i64 d.new.rest.lo, .int .i64 d.new.rest.hi, .int .i64 d.new.lift.lo, .int .i64 d.new.lift.hi, .int .i64 d.road, .int .i64 d.span.lo, .int .i64 d.span.hi]) := Lib.hid rfl
  rw [HE.out]
  clear hpc hrc hp hr
  generalize hA : applyMn m d = am
  have HA := Lib.hid hA
  clear hA
  go_enter Try.func18, Try.ntmps18
  go_wp2_with fail
  generalize ((w.alloc _).alloc _).alloc _ = W at *
  refine (check_any _ m _ S0.m).mono ?_
  rintro e w1 ⟨rfl, hb⟩
  have S1 := S0.by_ (gb_b hb)
  clear S0 hb
  have k4c := S1.k4.cell
  have k4f := S1.k4.frozen
  by_cases c1 : ck m = 0
  · have C1 := Lib.hid c1
    simp only [c1]
    have k2c := S1.k2.cell
    have k3c := S1.k3.cell
    go_wp2_with fail
    rw [← HE.out]
    refine (checkEdit_any _ m d _ S1.m).mono ?_
    rintro e w2 ⟨rfl, hb⟩
    have S2 := S1.by_ (gb_b hb)
    clear S1 hb k4c k4f k2c k3c
    have k4c := S2.k4.cell
    have k4f := S2.k4.frozen
    by_cases c2 : ckEd m d = 0
    · obtain ⟨hk, hd⟩ := ckEd_ok c2
      obtain ⟨l1, l2⟩ := ck_ok c1
      have C2 := Lib.hid c2
      simp only [c2]
      have k2c := S2.k2.cell
      have k3c := S2.k3.cell
      clear c2 c1
      go_wp2_with fail
      rw [← HE.out]
      refine (edit_any _ m d _ S2.m hk hd (by omega) (by omega)).mono ?_
      rintro e w3 ⟨ev, rfl, hO, hg⟩
      have S3 := S2.by_ hg
      have hO := hO.mono S2.g.size
      clear S2 hg k4c k4f k2c k3c hk hd
      obtain ⟨ex, ey, rfl, _, _⟩ := hO
      rename_i hO1 hO2
      obtain ⟨xa, xc, rfl⟩ := own_slc hO1
      obtain ⟨ya, yc, rfl⟩ := own_slc hO2
      have hO : MnO w3 w.heap.size (.agg #[.slice xa (edMn m d).ps.length xc, .slice ya (edMn m d).rs.length yc]) (edMn m d) := ⟨_, _, rfl, hO1, hO2⟩
      clear hO1 hO2
      have k8 := Bk.new w3 #[.slice xa (edMn m d).ps.length xc, .slice ya (edMn m d).rs.length yc] 26
      have g8 := gb_alloc (gb_refl w3 none) (.cells #[.slice xa (edMn m d).ps.length xc, .slice ya (edMn m d).rs.length yc] 26)
      replace S3 := S3.by_ g8
      replace hO := hO.by_ g8
      clear g8
      go_wp2_with fail
      generalize w3.alloc _ = W5 at *
      generalize w3.heap.size = n8 at *
      refine (check_any _ _ _ hO.v).mono ?_
      rintro e w6 ⟨rfl, hb⟩
      have S6 := S3.by_ (gb_b hb)
      have k8 := k8.of (gb_b hb) (by simp)
      have hO := hO.by_ (gb_b hb)
      clear S3 hb
      have k4c := S6.k4.cell
      have k4f := S6.k4.frozen
      have k8c := k8.cell
      by_cases c3 : ck (edMn m d) = 0
      · have F := Lib.hid (S6.fin _ _ hO)
        have E := Lib.hid (show am = (edMn m d, 0) by rw [← HA.out]; unfold applyMn; rw [if_neg (by rw [C1.out]; simp), if_neg (by rw [C2.out]; simp), if_neg (by rw [c3]; simp)])
        simp only [c3]
        clear S6 hO c3 k8
        go_wp2_with fail
        clear k8c
        have F := F.out
        simp only [setC] at F
        generalize World.setCell _ ⟨w.heap.size + 1 + 1, 1, none⟩ _ = W9 at *
        obtain ⟨fk, fm, fg⟩ := F
        have fkc := fk.cell
        clear k4c k4f
        refine bodyPost_ret (v := .tuple #[.agg #[.slice xa (edMn m d).ps.length xc, .slice ya (edMn m d).rs.length yc], .int .i64 0]) (by simp [results, Try.results18, go_sem, fkc]) rfl ?_
        rw [E.out]
        exact ⟨_, rfl, fm, fg⟩
      · have n1 : (ck (edMn m d) == 0) = false := by simpa using c3
        have n2 : (ck (edMn m d) != 0) = true := by simpa using c3
        have F := Lib.hid (S6.fin (.slice none 0 0) (.slice none 0 0) (MnO.nil _ _))
        have E := Lib.hid (show am = (⟨[], []⟩, ck (edMn m d)) by rw [← HA.out]; unfold applyMn; rw [if_neg (by rw [C1.out]; simp), if_neg (by rw [C2.out]; simp), if_pos c3])
        clear S6 hO c3 k8 k8c
        go_wp2_with fail
        have F := F.out
        simp only [setC] at F
        generalize World.setCell _ ⟨w.heap.size + 1 + 1, 1, none⟩ _ = W9 at *
        obtain ⟨fk, fm, fg⟩ := F
        have fkc := fk.cell
        clear k4c k4f
        refine bodyPost_ret (v := .tuple #[.agg #[.slice none 0 0, .slice none 0 0], .int .i64 (ck (edMn m d))]) (by simp [results, Try.results18, go_sem, fkc]) rfl ?_
        rw [E.out]
        exact ⟨_, rfl, fm, fg⟩
    · have n1 : (ckEd m d == 0) = false := by simpa using c2
      have n2 : (ckEd m d != 0) = true := by simpa using c2
      have F := Lib.hid (S2.fin (.slice none 0 0) (.slice none 0 0) (MnO.nil _ _))
      have E := Lib.hid (show am = (⟨[], []⟩, ckEd m d) by rw [← HA.out]; unfold applyMn; rw [if_neg (by rw [C1.out]; simp), if_pos c2])
      clear S2 c2 c1
      go_wp2_with fail
      have F := F.out
      simp only [setC] at F
      generalize World.setCell _ ⟨w.heap.size + 1 + 1, 1, none⟩ _ = W9 at *
      obtain ⟨fk, fm, fg⟩ := F
      have fkc := fk.cell
      clear k4c k4f
      refine bodyPost_ret (v := .tuple #[.agg #[.slice none 0 0, .slice none 0 0], .int .i64 (ckEd m d)]) (by simp [results, Try.results18, go_sem, fkc]) rfl ?_
      rw [E.out]
      exact ⟨_, rfl, fm, fg⟩
  · have n1 : (ck m == 0) = false := by simpa using c1
    have n2 : (ck m != 0) = true := by simpa using c1
    have F := Lib.hid (S1.fin (.slice none 0 0) (.slice none 0 0) (MnO.nil _ _))
    have E := Lib.hid (show am = (⟨[], []⟩, ck m) by rw [← HA.out]; unfold applyMn; rw [if_pos c1])
    clear S1 c1
    go_wp2_with fail
    have F := F.out
    simp only [setC] at F
    generalize World.setCell _ ⟨w.heap.size + 1 + 1, 1, none⟩ _ = W9 at *
    obtain ⟨fk, fm, fg⟩ := F
    have fkc := fk.cell
    clear k4c k4f
    refine bodyPost_ret (v := .tuple #[.agg #[.slice none 0 0, .slice none 0 0], .int .i64 (ck m)]) (by simp [results, Try.results18, go_sem, fkc]) rfl ?_
    rw [E.out]
    exact ⟨_, rfl, fm, fg⟩
end Go.Proofs.Ytbiikgkfklhohaa
