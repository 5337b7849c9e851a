/- A part of the proof, what is needed of it. -/
import Derived.Test.YtimkpfnbkclclaaGreatChecked
import Derived.KernelRfl
import Derived.Deep.Slices
import Derived.Lib.SmallJoins
import Derived.ProofKit
import Derived.OpenShut
import Derived.ShutString
import Derived.ChangeOld
import Derived.Below
import Derived.Test.YtimkpfnbkclclaaGreatPm03
namespace Go.Proofs.YtimkpfnbkclclaaGreat.Ab
noncomputable section
open Go
theorem Tryz.pok : POK Tryz.prog := by
  refine ⟨by kernel_rfl, ?_⟩
  have h : (Tryz.prog.funcs.toList.all fun fn => fn.body.isNone || fn.name != "runtime.NumGoroutine") = true := by kernel_rfl
  intro f fn hf hb
  have := List.all_eq_true.1 h fn (by rw [Array.mem_toList_iff]; exact Array.mem_of_getElem? hf)
  cases hq : fn.body with
  | none => simp [hq] at hb
  | some c => simpa [hq] using this
theorem aI.of {P : Program} {f : FuncId} {S S' : List AV → List Blk → Option Ans} (h : aI P f S)
    (hs : ∀ xs ins r x, S' xs ins = some r → r.get = some x → ∃ r0 x0, S xs ins = some r0 ∧ r0.get = some x0 ∧ r0.av x0 = r.av x ∧ r0.outs x0 = r.outs x) : aI P f S' := by
  intro xs ins r x hr hx
  obtain ⟨r0, x0, h1, h2, h3, h4⟩ := hs xs ins r x hr hx
  have := h xs ins r0 x0 h1 h2
  rw [h3, h4] at this
  exact this
theorem mD {P : Program} {E : Env} (hE : E.tt = ttOf P) (hP : POK P) (hfs : ∀ f, aI P f (E.fs f)) {f : FuncId} {fn : Func} (hf : P.funcs[f]? = some fn) (hl : ∀ c, fn.body = some c → aD { E with nt := fn.ntmps } c)
    {S : List AV → List Blk → Option Ans} (h : ∀ xs ins r x, S xs ins = some r → r.get = some x → arun E fn xs ins = some (r.av x, r.outs x)) : aI P f S :=
  (dY hE hP hfs hf hl).of fun xs ins r x h1 h2 => ⟨_, _, rfl, h xs ins r x h1 h2, rfl, rfl⟩
def bS {α : Type} (p : α → Prop) : Option α := open Classical in if h : ∃ z, p z then some h.choose else none
theorem dM {α : Type} {p : α → Prop} {z : α} (h : bS p = some z) : p z := by
  unfold bS at h
  split at h
  · rename_i hq
    injection h with h
    subst h
    exact hq.choose_spec
  · cases h
theorem gN {α : Type} {p : α → Prop} {z : α} (hz : p z) (hu : ∀ z', p z' → z' = z) : bS p = some z := by
  unfold bS
  have h : ∃ z, p z := ⟨z, hz⟩
  rw [dif_pos h]
  exact congrArg some (hu _ h.choose_spec)
def bF : Code → List Code
  | .seq a b => bF a ++ bF b
  | .cond _ a b => bF a ++ bF b
  | .block _ a => bF a
  | .loop c => c :: bF c
  | _ => []
theorem mZ {E : Env} : ∀ c, (∀ c' ∈ bF c, ∀ f, E.loops (aj c') = some f → aQ E c' f) → aD E c := by
  intro c
  induction c with
  | seq a b iha ihb => intro h; exact ⟨iha fun c' hc => h c' (List.mem_append_left _ hc), ihb fun c' hc => h c' (List.mem_append_right _ hc)⟩
  | cond c a b iha ihb => intro h; exact ⟨iha fun c' hc => h c' (List.mem_append_left _ hc), ihb fun c' hc => h c' (List.mem_append_right _ hc)⟩
  | block id a ih => intro h; exact ih h
  | loop a ih => intro h; exact ⟨ih fun c' hc => h c' (List.mem_cons_of_mem _ hc), h a (List.mem_cons_self ..)⟩
  | _ => intro _; trivial
def gH (r : Nat) : Code → Option Code
  | .seq a b => match gH r a with
    | some c => some c
    | none => gH r b
  | .cond _ a b => match gH r a with
    | some c => some c
    | none => gH r b
  | .block _ a => gH r a
  | .loop c => match Nat.beq (aj c) r with
    | true => some c
    | false => gH r c
  | _ => none
def qd (r : Nat) (fn : Func) : Code := ((fn.body.bind (gH r))).getD .skip
theorem kt {α : Type} {b : Bool} {x y z : α} : b = true → x = z → (match b with | true => x | false => y) = z := fun h hx => by subst h; exact hx
theorem kf {α : Type} {b : Bool} {x y z : α} : b = false → y = z → (match b with | true => x | false => y) = z := fun h hx => by subst h; exact hx
end
end Go.Proofs.YtimkpfnbkclclaaGreat.Ab
namespace Go.Proofs.YtimkpfnbkclclaaGreat.Ab
noncomputable section
open Go Go.ChangeShapes Go.WideShapes Go.ChangeAt Go.RowKit Go.Deep Go.Joins
open Go.ChangeMaps (open_string shut_string)
theorem own : ownKnob Tryz.prog.godebug = none := by kernel_rfl
theorem laidOut : laidOutB Tryz.prog = true := by kernel_rfl
theorem Tryz.cells5 : Tryz.prog.cellsOf 5 = 1 := by kernel_rfl
def Sl (w : World) (v : Value) (sz n : Nat) (xs : List Value) : Prop :=
  xs.length = n * sz ∧ ((n = 0 ∧ (v = .slice none 0 0 ∨ ∃ a cap, v = .slice (some a) 0 cap ∧ cap ≤ maxLen)) ∨ ∃ g off cap, v = .slice (some ⟨g, off, none⟩) n cap ∧ n ≤ cap ∧ cap ≤ maxLen ∧ ∀ j, j < n * sz → w.cell? ⟨g, off + j, none⟩ = some (xs.getD j undef))
theorem mP (g off j : Nat) : (⟨g, off, none⟩ : Addr).add j = ⟨g, off + j, none⟩ := by simp [Addr.add]
theorem flat_get {α : Type} (cells : α → List Value) (sz : Nat) (hs : ∀ a, (cells a).length = sz) (d : α) : ∀ (l : List α) (k j : Nat), k < l.length → j < sz → (l.flatMap cells).getD (k * sz + j) undef = (cells (l.getD k d)).getD j undef := by
  intro l
  induction l with
  | nil => intro k j hk; simp at hk
  | cons a l ih =>
    intro k j hk hj
    rw [List.flatMap_cons, List.getD_eq_getElem?_getD]
    cases k with
    | zero =>
      rw [List.getElem?_append_left (by rw [hs]; omega), Nat.zero_mul, Nat.zero_add]
      rw [← List.getD_eq_getElem?_getD]
      rfl
    | succ k =>
      have e : (k + 1) * sz + j - (cells a).length = k * sz + j := by rw [hs, Nat.add_mul, Nat.one_mul]; omega
      rw [List.getElem?_append_right (by rw [hs, Nat.add_mul, Nat.one_mul]; omega), e, ← List.getD_eq_getElem?_getD]
      exact ih k j (by simpa using hk) hj
theorem nE {α : Type} {w : World} {M : Nat → Prop} {v : Value} (hM : ∀ g, ¬ M g) (cells : α → List Value) (acells : α → List AV) (d : α) {sz : Nat} (hs : ∀ a, (cells a).length = sz) (ha : ∀ a, (acells a).length = sz)
    (hp : ∀ a j, j < sz → PR w M ((acells a).getD j .undef) ((cells a).getD j undef) ∧ ((cells a).getD j undef).oneCell' = true) {l : List α} (h : Sl w v sz l.length (l.flatMap cells)) : PR w M (.slc sz l.length fun k => acells (l.getD k d)) v := by
  have zero : l.length = 0 → (v = .slice none 0 0 ∨ ∃ a cap, v = .slice (some a) 0 cap ∧ cap ≤ maxLen) → PR w M (.slc sz l.length fun k => acells (l.getD k d)) v := fun h0 hv => by
    rw [h0]; exact .slc0 _ _ _ hv
  rcases h.2 with ⟨h0, hv⟩ | ⟨g, off, cap, hv, hn, hm, hc⟩
  · exact zero h0 hv
  · by_cases h0 : l.length = 0
    · exact zero h0 (.inr ⟨_, cap, by rw [hv, h0], hm⟩)
    · subst hv
      refine .slc sz l.length _ g off cap (fun k j => (cells (l.getD k d)).getD j undef) (by omega) hn hm (fun k _ => ha _) (fun k j hk hj => ⟨hM g, ?_, (hp _ j hj).2⟩) (fun k j _ hj => (hp _ j hj).1)
      have hlt : k * sz + j < l.length * sz := by
        have h2 : (k + 1) * sz ≤ l.length * sz := Nat.mul_le_mul_right _ hk
        rw [Nat.add_mul, Nat.one_mul] at h2
        omega
      rw [hc _ hlt, flat_get cells sz hs d l k j hk hj]
section
variable {H : Type} {enc : TypeId × Value → H} {w : World} {base : Nat} {spare : Nat → Bool} {held : Bool}
theorem oD {α : Type} (cells : α → List Value) {t e : TypeId} {sz n : Nat} {cs : List Value} {x : DataW H × List MemPlace} (ht : Tryz.prog.underlying t = some (.slice e)) (hC : Tryz.prog.cellsOf e = sz) (hsz : 0 < sz) (hs : ∀ a, (cells a).length = sz)
    (hel : ∀ {n : Nat} {cs : List Value} {x : DataW H × List MemPlace}, DataW.trod enc Tryz.prog w base spare held n e cs = some x → ∃ a, cs = cells a)
    (h : DataW.trod enc Tryz.prog w base spare held n t cs = some x) : ∃ (v : Value) (l : List α), cs = [v] ∧ Sl w v sz l.length (l.flatMap cells) := by
  rcases open_slice ht h with ⟨rfl, _⟩ | ⟨a, len, cap, m, n, D, Pl, rfl, _, hl, hm, hmm, _, hx⟩
  · exact ⟨_, [], rfl, by simp, .inl ⟨rfl, .inl rfl⟩⟩
  · have hlm : len ≤ m := by rw [hmm]; split <;> omega
    have hch : ∀ k, k ≤ len → ∃ l : List α, l.length = k ∧ ∀ i, i < k → ∀ j, j < sz → w.cell? (a.add (i * sz + j)) = some ((l.flatMap cells).getD (i * sz + j) undef) := by
      intro k
      induction k with
      | zero => exact fun _ => ⟨[], rfl, fun i hi => by omega⟩
      | succ k ih =>
        intro hk
        obtain ⟨l, hll, hc⟩ := ih (by omega)
        obtain ⟨cs', h1, h2⟩ := hx k (by omega)
        rw [hC] at h1
        obtain ⟨_, hcl, hat⟩ := World.cells?_some h1
        obtain ⟨y, rfl⟩ := hel h2
        have hfl : (l.flatMap cells).length = k * sz := by
          rw [List.length_flatMap, show (fun a => (cells a).length) = fun _ => sz from funext hs, List.map_const', List.sum_replicate_nat, hll]
        refine ⟨l ++ [y], by simp [hll], fun i hi j hj => ?_⟩
        rw [List.flatMap_append, List.getD_eq_getElem?_getD]
        by_cases hik : i < k
        · have hlt : i * sz + j < (l.flatMap cells).length := by
            have h2 : (i + 1) * sz ≤ k * sz := Nat.mul_le_mul_right _ hik
            rw [Nat.add_mul, Nat.one_mul] at h2
            omega
          rw [List.getElem?_append_left hlt, hc i hik j hj, List.getD_eq_getElem?_getD]
        · have : i = k := by omega
          subst this
          rw [List.getElem?_append_right (by omega), show i * sz + j - (l.flatMap cells).length = j by omega]
          have e := hat j hj
          rw [Go.Deep.add_add] at e
          rw [e]
          have hjl : j < (cells y).length := by rw [hs]; exact hj
          simp [List.getElem?_eq_getElem hjl]
    obtain ⟨l, hll, hc⟩ := hch len (Nat.le_refl _)
    refine ⟨_, l, rfl, ?_, ?_⟩
    · rw [List.length_flatMap, show (fun a => (cells a).length) = fun _ => sz from funext hs, List.map_const', List.sum_replicate_nat]
    · by_cases h0 : l.length = 0
      · have hl0 : len = 0 := by omega
        subst hl0
        exact .inl ⟨h0, .inr ⟨a, cap, rfl, hm⟩⟩
      · have e0 := hc 0 (by omega) 0 hsz
        have hsp := World.cell?_spot e0
        obtain ⟨b, off, spot⟩ := a
        have hspot : spot = none := by simpa [Addr.add] using hsp
        subst hspot
        refine .inr ⟨b, off, cap, by rw [hll], by omega, hm, fun j hj => ?_⟩
        have hd : j = j / sz * sz + j % sz := by rw [Nat.mul_comm]; exact (Nat.div_add_mod j sz).symm
        have h1 : j / sz < len := by rw [← hll]; exact (Nat.div_lt_iff_lt_mul hsz).2 hj
        have h2 := hc (j / sz) h1 (j % sz) (Nat.mod_lt _ hsz)
        rw [← hd, mP] at h2
        exact h2
end
theorem jK {f : FuncId} {S : List AV → List Blk → Option Ans} (h : aI Tryz.prog f S) {xs : List AV} {r : Ans} {x : r.α} (hr : S xs [] = some r) (hx : r.get = some x) {b : Bool} (hb : r.av x = .bool b) {w : World} {vs : Array Value} (hl : vs.size = xs.length)
    (hv : ∀ j, j < xs.length → ∀ (M : Nat → Prop) (σ : Nat → Value) (V : Nat → Option Nat), (∀ g, ¬ M g) → VR w M σ V (xs.getD j .undef) (vs.getD j undef)) : Calls Tryz.prog f vs w fun e w' => e = .returned (.bool b) ∧ Below w.heap.size w w' := by
  have e0 : ∀ (σ : Nat → Value) (g : Nat), ¬ Own (Hof []) σ g := fun σ g ⟨id, b, h1, _⟩ => by simp [Hof] at h1
  let F : Fr := ⟨w, fun _ => False, fun _ => False, fun _ => Go.undef, 0, False⟩
  have hMut : ∀ σ g, ¬ Mut F (Hof []) σ g := fun σ g hm => hm.elim (fun h => h) (e0 σ g)
  refine ((h xs [] r x hr hx).2 F (fun _ => Go.undef) w vs rfl (fun g => ⟨fun h => h.elim, fun h => e0 _ g h⟩) ⟨rfl, rfl, rfl, Nat.le_refl _, fun _ _ _ => rfl, fun id b h => by simp [Hof] at h, fun id _ b _ _ _ h => by simp [Hof] at h, fun id b _ h => by simp [Hof] at h, fun g h => h.elim⟩ hl
    fun j hj => hv j hj _ _ _ (hMut _)).mono fun e w' ⟨v, σ', he, hR, hV, _⟩ => ?_
  rw [hb] at hV
  have : v = .bool b := hV.bool_inv
  subst this
  exact ⟨he, hR.os, hR.tape, hR.output, hR.size, fun k hk => hR.old k hk fun h => h⟩
attribute [local irreducible] arun in
end
end Go.Proofs.YtimkpfnbkclclaaGreat.Ab
