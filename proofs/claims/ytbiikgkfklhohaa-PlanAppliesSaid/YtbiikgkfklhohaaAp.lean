/- append of whatever slice, and the copies of a mine. -/
import Derived.Test.YtbiikgkfklhohaaRc
import Derived.Laws.OwnMore
namespace Go.Proofs.Ytbiikgkfklhohaa
open Go.RowKit
attribute [local go_sem ↓] Go.wp_at_zero Go.wp_at_succ

theorem add_off (g off j : Nat) : (⟨g, off, none⟩ : Addr).add j = ⟨g, off + j, none⟩ := by
  unfold Addr.add; split <;> simp_all

section
variable {P : Program} (w : World)
theorem run_app (t ty base : Nat) (e : TypeId) (i : TypeInfo) (z : Value) (size bytes : Nat) (ht : P.underlying t = some (.slice e)) (hi : P.info? e = some i) (hz : i.zero = some z)
    (hsize : i.size = size) (hby : i.bytes = bytes) (hzs : z.cells.size = size) (hsz : 0 < size)
    (v : Value) (n : Nat) (xs : List Value) (hown : w.ownsRow base e size v n xs)
    (x : Value) (m : Nat) (ys : List Value) (hx : Sl w x size m ys) (h1 : ∀ u ∈ ys, u.oneCell' = true)
    (h63 : n + m ≤ maxLen) (hbytes : (n + m) * bytes ≤ 140737488355328) (hbase : base ≤ w.heap.size) :
    ∃ v' w', (Builtin.append_ #[t, t] ty #[v, x]).run P w = .ok v' w' ∧ w'.ownsRow base e size v' (n + m) (xs ++ ys) ∧ w.grownBy w' v.ownBlock := by
  obtain ⟨hl, hx⟩ := hx
  rcases hx with ⟨rfl, rfl | ⟨a, cap, rfl, _⟩⟩ | ⟨g, off, cap, rfl, _, _, hc⟩
  · have e0 : ys = [] := List.eq_nil_of_length_eq_zero (by simpa using hl)
    subst e0
    exact ⟨v, w, run_append_owned_none w base t ty e i size ht hi v n xs hown, by simpa using hown, gb_refl _ _⟩
  · have e0 : ys = [] := List.eq_nil_of_length_eq_zero (by simpa using hl)
    subst e0
    obtain ⟨v', w', hr, h2, h3, _⟩ := run_append_own (P := P) w base t ty e i z size bytes ht hi hz hsize hby hzs hsz v n xs hown a 0 cap [] hl (fun j u hu => by simp at hu) h1 h63 hbytes hbase
    exact ⟨v', w', hr, h2, h3⟩
  · obtain ⟨v', w', hr, h2, h3, _⟩ := run_append_own (P := P) w base t ty e i z size bytes ht hi hz hsize hby hzs hsz v n xs hown ⟨g, off, none⟩ m cap ys hl
      (fun j u hu => by
        have hj : j < ys.length := (List.getElem?_eq_some_iff.1 hu).1
        rw [add_off, hc j (by omega), List.getD_eq_getElem?_getD, hu]; rfl) h1 h63 hbytes hbase
    exact ⟨v', w', hr, h2, h3⟩
theorem wp_app {o : Oper} {a : Act} {K : Act → World → Prop} {Q : Exit → Act → World → Prop} (s x : Operand) (t : TypeId)
    (ho : o.op = .call { callee := .builtin .append, args := #[s, x], argTypes := #[t, t] })
    (base : Nat) (e : TypeId) (i : TypeInfo) (z : Value) (size bytes : Nat) (ht : P.underlying t = some (.slice e)) (hi : P.info? e = some i) (hz : i.zero = some z)
    (hsize : i.size = size) (hby : i.bytes = bytes) (hzs : z.cells.size = size) (hsz : 0 < size)
    (v : Value) (n : Nat) (xs : List Value) (hs : a.eval s = v) (hown : w.ownsRow base e size v n xs)
    (xv : Value) (m : Nat) (ys : List Value) (hxe : a.eval x = xv) (hx : Sl w xv size m ys) (h1 : ∀ u ∈ ys, u.oneCell' = true)
    (h63 : n + m ≤ maxLen) (hbytes : (n + m) * bytes ≤ 140737488355328) (hbase : base ≤ w.heap.size)
    (h : ∀ v' w', w'.ownsRow base e size v' (n + m) (xs ++ ys) → w.grownBy w' v.ownBlock → K (a.put o.dst v') w') : o.wp P a w K Q := by
  obtain ⟨v', w', hr, h2, h3⟩ := run_app (P := P) w t o.type base e i z size bytes ht hi hz hsize hby hzs hsz v n xs hown xv m ys hx h1 h63 hbytes hbase
  unfold Oper.wp execOp
  simp only [ho, resolve, invoke, builtin, Sem.run_bind, Sem.run_pure, Result.andThen_ok, List.map_toArray, List.map_cons, List.map_nil, hs, hxe, hr]
  exact h v' w' h2 h3
theorem wpList_app {ops : Array Oper} {rest : List Oper} {o : Oper} {a : Act} {Q : Exit → Act → World → Prop} (hgd : o.guard = none) (s x : Operand) (t : TypeId)
    (ho : o.op = .call { callee := .builtin .append, args := #[s, x], argTypes := #[t, t] })
    (base : Nat) (e : TypeId) (i : TypeInfo) (z : Value) (size bytes : Nat) (ht : P.underlying t = some (.slice e)) (hi : P.info? e = some i) (hz : i.zero = some z)
    (hsize : i.size = size) (hby : i.bytes = bytes) (hzs : z.cells.size = size) (hsz : 0 < size)
    (v : Value) (n : Nat) (xs : List Value) (hs : a.eval s = v) (hown : w.ownsRow base e size v n xs)
    (xv : Value) (m : Nat) (ys : List Value) (hxe : a.eval x = xv) (hx : Sl w xv size m ys) (h1 : ∀ u ∈ ys, u.oneCell' = true)
    (h63 : n + m ≤ maxLen) (hbytes : (n + m) * bytes ≤ 140737488355328) (hbase : base ≤ w.heap.size)
    (h : ∀ v' w', w'.ownsRow base e size v' (n + m) (xs ++ ys) → w.grownBy w' v.ownBlock → wpList P ops Q rest (a.put o.dst v') w') : wpList P ops Q (o :: rest) a w :=
  wpList_plain hgd fun _ hK => wp_app w s x t ho base e i z size bytes ht hi hz hsize hby hzs hsz v n xs hs hown xv m ys hxe hx h1 h63 hbytes hbase fun v' w' h2 h3 => hK _ _ (h v' w' h2 h3)
theorem step_app {ops : Array Oper} {o : Oper} {a : Act} {K : Act → World → Prop} {Q : Exit → Act → World → Prop} {E : Prop} (hgd : o.guard = none) (s x : Operand) (t : TypeId)
    (ho : o.op = .call { callee := .builtin .append, args := #[s, x], argTypes := #[t, t] })
    (base : Nat) (e : TypeId) (i : TypeInfo) (z : Value) (size bytes : Nat) (ht : P.underlying t = some (.slice e)) (hi : P.info? e = some i) (hz : i.zero = some z)
    (hsize : i.size = size) (hby : i.bytes = bytes) (hzs : z.cells.size = size) (hsz : 0 < size)
    (v : Value) (n : Nat) (xs : List Value) (hs : a.eval s = v) (hown : w.ownsRow base e size v n xs)
    (xv : Value) (m : Nat) (ys : List Value) (hxe : a.eval x = xv) (hx : Sl w xv size m ys) (h1 : ∀ u ∈ ys, u.oneCell' = true)
    (h63 : n + m ≤ maxLen) (hbytes : (n + m) * bytes ≤ 140737488355328) (hbase : base ≤ w.heap.size)
    (h : ∀ v' w', w'.ownsRow base e size v' (n + m) (xs ++ ys) → w.grownBy w' v.ownBlock → K (a.put o.dst v') w') :
    if Region.wanted o (yielded ops a.tmps) = true then Oper.wp P o a w K Q else E := by
  rw [if_pos (by simp [Region.wanted, hgd])]
  exact wp_app w s x t ho base e i z size bytes ht hi hz hsize hby hzs hsz v n xs hs hown xv m ys hxe hx h1 h63 hbytes hbase h
end

theorem own_by {w w' : World} {base : Nat} {e : TypeId} {size : Nat} {v : Value} {n : Nat} {xs : List Value} (h : w.ownsRow base e size v n xs) (g : w.grownBy w' none) : w'.ownsRow base e size v n xs := by
  by_cases hv : v.ownBlock = none
  · exact h.kept g (.inl hv)
  · exact h.kept g (.inr hv)

theorem pl_one (l : List Pl) : ∀ u ∈ l.flatMap Pl.cells, u.oneCell' = true := by
  intro u hu
  obtain ⟨p, _, hp⟩ := List.mem_flatMap.1 hu
  simp [Pl.cells] at hp
  rcases hp with rfl | rfl <;> rfl
theorem rd_one (l : List Rd) : ∀ u ∈ l.flatMap Rd.cells, u.oneCell' = true := by
  intro u hu
  obtain ⟨p, _, hp⟩ := List.mem_flatMap.1 hu
  simp [Rd.cells] at hp
  rcases hp with rfl | rfl | rfl | rfl | rfl | rfl | rfl | rfl | rfl | rfl <;> rfl

/-- A mine of the call's own: both lists lie in blocks from base on. -/
def MnO (w : World) (base : Nat) (v : Value) (m : Mn) : Prop :=
  ∃ a b, v = .agg #[a, b] ∧ w.ownsRow base 37 2 a m.ps.length (m.ps.flatMap Pl.cells) ∧ w.ownsRow base 41 10 b m.rs.length (m.rs.flatMap Rd.cells)
theorem MnO.v {w : World} {base : Nat} {v : Value} {m : Mn} (h : MnO w base v m) : MnV w v m := by
  obtain ⟨a, b, rfl, h1, h2⟩ := h
  exact ⟨a, b, rfl, own_sl h1, own_sl h2⟩
theorem Sl.by_ {w w' : World} {v : Value} {sz n : Nat} {xs : List Value} (h : Sl w v sz n xs) (hb : w.grownBy w' none) : Sl w' v sz n xs :=
  h.below ⟨hb.os, hb.tape, hb.output, hb.size, fun k hk => hb.block k hk (by simp)⟩

/-- While a mine is copied: the box of the argument, the result's block, the frame. -/
def CpS (w : World) (pv rv : Value) (w' : World) : Prop :=
  Bk w' w.heap.size #[pv, rv] 26 ∧ (∃ x y, Bk w' (w.heap.size + 1) #[x, y] 26) ∧ w.grownBy w' none
theorem CpS.start (w : World) (pv rv : Value) : CpS w pv rv ((w.alloc (.cells #[pv, rv] 26)).alloc (.cells #[.slice none 0 0, .slice none 0 0] 26)) := by
  have k2 := Bk.new (w.alloc (.cells #[pv, rv] 26)) #[.slice none 0 0, .slice none 0 0] 26
  simp only [World.size_alloc] at k2
  exact ⟨(Bk.new _ _ _).of (gb_alloc (gb_refl _ none) _) (by simp), ⟨_, _, k2⟩, gb_alloc (gb_alloc (gb_refl _ _) _) _⟩
theorem CpS.drew {w w' : World} {pv rv : Value} (h : CpS w pv rv w') : CpS w pv rv w'.drew := ⟨h.1, h.2.1, gb_drew h.2.2⟩
theorem CpS.by_ {w w' w'' : World} {pv rv : Value} (h : CpS w pv rv w') (o : w'.grownBy w'' none) : CpS w pv rv w'' :=
  ⟨h.1.of o (by simp), let ⟨x, y, k⟩ := h.2.1; ⟨x, y, k.of o (by simp)⟩, gb_same h.2.2 o⟩
theorem CpS.g {w w' : World} {pv rv : Value} (h : CpS w pv rv w') : w.grownBy w' none := h.2.2
theorem CpS.fin {w w' : World} {pv rv : Value} (h : CpS w pv rv w') (x y : Value) :
    Bk (setC w' (w.heap.size + 1) 0 [x, y]) (w.heap.size + 1) #[x, y] 26 ∧ Bk (setC w' (w.heap.size + 1) 0 [x, y]) w.heap.size #[pv, rv] 26 ∧ w.grownBy (setC w' (w.heap.size + 1) 0 [x, y]) none := by
  have g := setC_gb (w.heap.size + 1) [x, y] w' 0
  obtain ⟨a, b, k⟩ := h.2.1
  exact ⟨k.all [x, y] rfl, h.1.of g (by simp), gb_new h.2.2 g (by omega)⟩
theorem ownsRow_set {w : World} {base : Nat} {e : TypeId} {size : Nat} {v : Value} {n : Nat} {xs : List Value} {b : Nat} {cs : Array Value} {T : TypeId} (h : w.ownsRow base e size v n xs) (k : Bk w b cs T) (hT : e ≠ T) (vs : List Value) : (setC w b 0 vs).ownsRow base e size v n xs :=
  h.kept (setC_gb b vs w 0) (.inr (own_ne h k hT))

set_option maxHeartbeats 2000000 in
theorem copy_any (v : Value) (m : Mn) (w : World) (h : MnV w v m) (h1 : m.ps.length ≤ 100000) (h2 : m.rs.length ≤ 100000) :
    Calls Try.prog 36 #[v] w fun e w' => ∃ v', e = .returned v' ∧ MnO w' w.heap.size v' m ∧ w.grownBy w' none := by
  obtain ⟨a, b, rfl, hp, hr⟩ := h
  obtain ⟨ip, hip, hip1, hip2, hip3⟩ := info_parts Try.infoPlace
  obtain ⟨ir, hir, hir1, hir2, hir3⟩ := info_parts Try.infoRoad
  obtain ⟨pa, pc, rfl, pc1, pc2, hpc⟩ := hp.shape
  obtain ⟨ra, rc, rfl, rc1, rc2, hrc⟩ := hr.shape
  have HP := Lib.hid hp
  have HR := Lib.hid hr
  clear hpc hrc hp hr
  go_enter Try.func36, Try.ntmps36
  go_wp2_with fail
  have hS := CpS.start w (.slice pa m.ps.length pc) (.slice ra m.rs.length rc)
  generalize (w.alloc _).alloc _ = W at *
  have d0 : W.cell? ⟨w.heap.size, 0, none⟩ = some (.slice pa m.ps.length pc) := hS.1.cell 0
  have d1 : W.cell? ⟨w.heap.size, 1, none⟩ = some (.slice ra m.rs.length rc) := hS.1.cell 1
  have hSd := hS.drew
  clear hS
  go_region_held3 (fun w' => w'.cell? ⟨w.heap.size, 0, none⟩ = some (.slice pa m.ps.length pc) ∧ w'.cell? ⟨w.heap.size, 1, none⟩ = some (.slice ra m.rs.length rc))
    (first | go_keep | (exact ⟨(CpS.fin (by assumption) _ _).2.1.cell 0, (CpS.fin (by assumption) _ _).2.1.cell 1⟩))
    ((first
      | (refine step_app _ (by rfl) _ _ 23 (by rfl) w.heap.size 37 ip _ 2 16 Try.underlying23 hip hip1 hip2 hip3 rfl (by omega) (.slice none 0 0) 0 [] (by rfl) (World.ownsRow_nil _ _ _ _) (.slice pa m.ps.length pc) m.ps.length (m.ps.flatMap Pl.cells) (by rfl) (Sl.by_ HP.out (CpS.g (by assumption))) (pl_one _) (by simp [maxLen]; omega) (by omega) (CpS.g (by assumption)).size ?_; intro pv' w2 hown2 hg2; obtain ⟨xa, xm, xc, hxe⟩ := own_slice hown2; subst hxe; have hS2 := CpS.by_ (by assumption) hg2; have e20 := hS2.1.cell 0; have e21 := hS2.1.cell 1)
      | (refine step_app _ (by rfl) _ _ 24 (by rfl) w.heap.size 41 ir _ 10 72 Try.underlying24 hir hir1 hir2 hir3 rfl (by omega) (.slice none 0 0) 0 [] (by rfl) (World.ownsRow_nil _ _ _ _) (.slice ra m.rs.length rc) m.rs.length (m.rs.flatMap Rd.cells) (by rfl) (Sl.by_ HR.out (CpS.g (by assumption))) (rd_one _) (by simp [maxLen]; omega) (by omega) (CpS.g (by assumption)).size ?_; intro rv' w3 hown3 hg3; obtain ⟨ya, ym, yc, hye⟩ := own_slice hown3; subst hye; have hS3 := CpS.by_ (by assumption) hg3; have e30 := hS3.1.cell 0; have e31 := hS3.1.cell 1; obtain ⟨z0, z1, kz⟩ := hS3.2.1; have z0c := kz.cell 0; have z1c := kz.cell 1; have z0f := kz.frozen)))
  obtain ⟨f1, _, f3⟩ := hS3.fin (.slice xa xm xc) (.slice ya ym yc)
  have hownP := ownsRow_set (own_by hown2 hg3) kz (by decide) [.slice xa xm xc, .slice ya ym yc]
  have hownR := ownsRow_set hown3 kz (by decide) [.slice xa xm xc, .slice ya ym yc]
  simp only [setC] at f1 f3 hownP hownR
  simp only [Nat.zero_add, List.nil_append] at hownP hownR
  clear z0c z1c z0f e20 e21 e30 e31 kz d0 d1 hSd hS2 hS3 hown2 hown3
  generalize World.setCell _ _ _ = W9 at *
  have f1c := f1.cell
  go_wp2_with fail
  refine bodyPost_ret (v := .agg #[.slice xa xm xc, .slice ya ym yc]) (by simp [results, Try.results36, go_sem, f1c]) rfl ?_
  exact ⟨_, rfl, ⟨_, _, rfl, hownP, hownR⟩, f3⟩
end Go.Proofs.Ytbiikgkfklhohaa
