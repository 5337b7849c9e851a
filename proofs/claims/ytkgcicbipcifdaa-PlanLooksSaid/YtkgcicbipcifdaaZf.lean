/- The plain evaluator: what is told of a function, in typed words; stage 7's first ones. -/
import Derived.Test.YtkgcicbipcifdaaZe
import Derived.Test.YtkgcicbipcifdaaChecked
import Derived.KernelRfl
import Derived.Deep.Slices
import Derived.Lib.SmallJoins
import Derived.ProofKit
import Derived.OpenShut
import Derived.ShutString
import Derived.ChangeOld
import Derived.Below
namespace Go.Proofs.Ytkgcicbipcifdaa.Ab
open Go

theorem Try.pok : POK Try.prog := by
  refine ⟨by kernel_rfl, ?_⟩
  have h : (Try.prog.funcs.toList.all fun fn => fn.body.isNone || fn.name != "runtime.NumGoroutine") = true := by kernel_rfl
  intro f fn hf hb
  have := List.all_eq_true.1 h fn (by rw [Array.mem_toList_iff]; exact Array.mem_of_getElem? hf)
  cases hq : fn.body with
  | none => simp [hq] at hb
  | some c => simpa [hq] using this

/-- An answer that is a plain value. -/
def retV (v : AV) (h : v.flat = true := by rfl) : Ans where
  α := Unit
  get := some ()
  av := fun _ => v
  outs := fun _ => []
  fl := fun _ => true
  hfl := fun _ _ => ⟨h, fun b hb => by cases hb⟩
/-- If a run comes to v, the answer may be told. -/
theorem Tells.of {P : Program} {f : FuncId} {S S' : List AV → List Blk → Option Ans} (h : Tells P f S)
    (hs : ∀ xs ins r x, S' xs ins = some r → r.get = some x → ∃ r0 x0, S xs ins = some r0 ∧ r0.get = some x0 ∧ r0.av x0 = r.av x ∧ r0.outs x0 = r.outs x) : Tells P f S' := by
  intro xs ins r x hr hx
  obtain ⟨r0, x0, h1, h2, h3, h4⟩ := hs xs ins r x hr hx
  have := h xs ins r0 x0 h1 h2
  rw [h3, h4] at this
  exact this
/-- By the function's own run. -/
theorem tells_run {P : Program} {E : Env} (hE : E.tt = ttOf P) (hP : POK P) (hfs : ∀ f, Tells P f (E.fs f)) {f : FuncId} {fn : Func} (hf : P.funcs[f]? = some fn) (hl : ∀ c, fn.body = some c → LoopsOK { E with nt := fn.ntmps } c)
    {S : List AV → List Blk → Option Ans} (h : ∀ xs ins r x, S xs ins = some r → r.get = some x → arun E fn xs ins = some (r.av x, r.outs x)) (hsq : ∀ g, SeqTells P g (E.seqs g) := by exact fun g => SeqTells.none_ g) : Tells P f S :=
  (arun_tells hE hP hfs hsq hf hl).of fun xs ins r x h1 h2 => ⟨_, _, rfl, h xs ins r x h1 h2, rfl, rfl⟩
/-- The environment with these contracts. -/
noncomputable def envS (fs : FuncId → List AV → List Blk → Option Ans) (live : Nat → Option (List Nat × List Nat) := fun _ => none) (fuel : Nat := 0) : Env := ⟨ttOf Try.prog, fs, fun _ => none, live, fuel, 0, fun _ => [], fun _ => none, none, fun _ _ _ => none⟩
theorem envS_loops {fs : FuncId → List AV → List Blk → Option Ans} {live : Nat → Option (List Nat × List Nat)} {fuel nt : Nat} (c : Code) : LoopsOK { envS fs live fuel with nt := nt } c := loops_none (fun _ => rfl) c

/-- One that has it, if there is any. -/
noncomputable def theOne {α : Type} (p : α → Prop) : Option α := open Classical in if h : ∃ z, p z then some h.choose else none
theorem theOne_spec {α : Type} {p : α → Prop} {z : α} (h : theOne p = some z) : p z := by
  unfold theOne at h
  split at h
  · rename_i hq
    injection h with h
    subst h
    exact hq.choose_spec
  · cases h
theorem theOne_eq {α : Type} {p : α → Prop} {z : α} (hz : p z) (hu : ∀ z', p z' → z' = z) : theOne p = some z := by
  unfold theOne
  have h : ∃ z, p z := ⟨z, hz⟩
  rw [dif_pos h]
  exact congrArg some (hu _ h.choose_spec)
theorem theOne_some {α : Type} {p : α → Prop} (h : ∃ z, p z) : ∃ z, theOne p = some z ∧ p z := by
  unfold theOne
  rw [dif_pos h]
  exact ⟨_, rfl, h.choose_spec⟩
/-- The loops of a code. -/
def loopsOf : Code → List Code
  | .seq a b => loopsOf a ++ loopsOf b
  | .cond _ a b => loopsOf a ++ loopsOf b
  | .block _ a => loopsOf a
  | .loop c => c :: loopsOf c
  | .rangeFunc _ _ a b => loopsOf a ++ loopsOf b
  | _ => []
theorem loops_of {E : Env} : ∀ c, (∀ c' ∈ loopsOf c, ∀ f, E.loops (firstReg c') = some f → LoopTells E c' f) → LoopsOK E c := by
  intro c
  induction c with
  | seq a b iha ihb => intro h; exact ⟨iha fun c' hc => h c' (List.mem_append_left _ hc), ihb fun c' hc => h c' (List.mem_append_right _ hc)⟩
  | cond c a b iha ihb => intro h; exact ⟨iha fun c' hc => h c' (List.mem_append_left _ hc), ihb fun c' hc => h c' (List.mem_append_right _ hc)⟩
  | block id a ih => intro h; exact ih h
  | loop a ih => intro h; exact ⟨ih fun c' hc => h c' (List.mem_cons_of_mem _ hc), h a (List.mem_cons_self ..)⟩
  | rangeFunc _ _ a b iha ihb => intro h; exact ⟨iha fun c' hc => h c' (List.mem_append_left _ hc), ihb fun c' hc => h c' (List.mem_append_right _ hc)⟩
  | _ => intro _; trivial
/-- A code's loop that begins with the region r. -/
def loopIn (r : Nat) : Code → Option Code
  | .seq a b => match loopIn r a with
    | some c => some c
    | none => loopIn r b
  | .cond _ a b => match loopIn r a with
    | some c => some c
    | none => loopIn r b
  | .block _ a => loopIn r a
  | .loop c => match Nat.beq (firstReg c) r with
    | true => some c
    | false => loopIn r c
  | _ => none
def loopOf (r : Nat) (fn : Func) : Code := ((fn.body.bind (loopIn r))).getD .skip

theorem kt {α : Type} {b : Bool} {x y z : α} : b = true → x = z → (match b with | true => x | false => y) = z := fun h hx => by subst h; exact hx
theorem kf {α : Type} {b : Bool} {x y z : α} : b = false → y = z → (match b with | true => x | false => y) = z := fun h hx => by subst h; exact hx
end Go.Proofs.Ytkgcicbipcifdaa.Ab

namespace Go.Proofs.Ytkgcicbipcifdaa.Ab
open Go Go.ChangeShapes Go.WideShapes Go.ChangeAt Go.RowKit Go.Deep Go.Joins
open Go.ChangeMaps (open_string shut_string)

theorem own : ownKnob Try.prog.godebug = none := by kernel_rfl
theorem laidOut : laidOutB Try.prog = true := by kernel_rfl
theorem Try.cells3 : Try.prog.cellsOf 3 = 1 := by kernel_rfl
theorem Try.cells4 : Try.prog.cellsOf 4 = 1 := by kernel_rfl
theorem Try.cells5 : Try.prog.cellsOf 5 = 1 := by kernel_rfl
theorem list2 {α : Type} {l : List α} (h : l.length = 2) : ∃ a b, l = [a, b] := by
  match l, h with
  | [a, b], _ => exact ⟨a, b, rfl⟩
theorem list4 {α : Type} {l : List α} (h : l.length = 4) : ∃ a b c d, l = [a, b, c, d] := by
  match l, h with
  | [a, b, c, d], _ => exact ⟨a, b, c, d, rfl⟩
/-- A slice known by its cells. -/
def Sl (w : World) (v : Value) (sz n : Nat) (xs : List Value) : Prop :=
  xs.length = n * sz ∧ ((n = 0 ∧ (v = .slice none 0 0 ∨ ∃ a cap, v = .slice (some a) 0 cap ∧ cap ≤ maxLen)) ∨ ∃ g off cap, v = .slice (some ⟨g, off, none⟩) n cap ∧ n ≤ cap ∧ cap ≤ maxLen ∧ ∀ j, j < n * sz → w.cell? ⟨g, off + j, none⟩ = some (xs.getD j undef))
theorem add_off' (g off j : Nat) : (⟨g, off, none⟩ : Addr).add j = ⟨g, off + j, none⟩ := by simp [Addr.add]
theorem flat_get {α : Type} (cells : α → List Value) (sz : Nat) (hs : ∀ a, (cells a).length = sz) (d : α) : ∀ (l : List α) (k j : Nat), k < l.length → j < sz → (l.flatMap cells).getD (k * sz + j) undef = (cells (l.getD k d)).getD j undef := by
  intro l
  induction l with
  | nil => intro k j hk; simp at hk
  | cons a l ih =>
    intro k j hk hj
    rw [List.flatMap_cons, List.getD_eq_getElem?_getD]
    cases k with
    | zero =>
      rw [List.getElem?_append_left (by rw [hs]; omega), Nat.zero_mul, Nat.zero_add]
      rw [← List.getD_eq_getElem?_getD]
      rfl
    | succ k =>
      have e : (k + 1) * sz + j - (cells a).length = k * sz + j := by rw [hs, Nat.add_mul, Nat.one_mul]; omega
      rw [List.getElem?_append_right (by rw [hs, Nat.add_mul, Nat.one_mul]; omega), e, ← List.getD_eq_getElem?_getD]
      exact ih k j (by simpa using hk) hj
theorem pr_of_sl {α : Type} {w : World} {M : Nat → Prop} {v : Value} (hM : ∀ g, ¬ M g) (cells : α → List Value) (acells : α → List AV) (d : α) {sz : Nat} (hs : ∀ a, (cells a).length = sz) (ha : ∀ a, (acells a).length = sz)
    (hp : ∀ a j, j < sz → PR w M ((acells a).getD j .undef) ((cells a).getD j undef) ∧ ((cells a).getD j undef).oneCell' = true) {l : List α} (h : Sl w v sz l.length (l.flatMap cells)) : PR w M (.slc sz l.length fun k => acells (l.getD k d)) v := by
  have zero : l.length = 0 → (v = .slice none 0 0 ∨ ∃ a cap, v = .slice (some a) 0 cap ∧ cap ≤ maxLen) → PR w M (.slc sz l.length fun k => acells (l.getD k d)) v := fun h0 hv => by
    rw [h0]; exact .slc0 _ _ _ hv
  rcases h.2 with ⟨h0, hv⟩ | ⟨g, off, cap, hv, hn, hm, hc⟩
  · exact zero h0 hv
  · by_cases h0 : l.length = 0
    · exact zero h0 (.inr ⟨_, cap, by rw [hv, h0], hm⟩)
    · subst hv
      refine .slc sz l.length _ g off cap (fun k j => (cells (l.getD k d)).getD j undef) (by omega) hn hm (fun k _ => ha _) (fun k j hk hj => ⟨hM g, ?_, (hp _ j hj).2⟩) (fun k j _ hj => (hp _ j hj).1)
      have hlt : k * sz + j < l.length * sz := by
        have h2 : (k + 1) * sz ≤ l.length * sz := Nat.mul_le_mul_right _ hk
        rw [Nat.add_mul, Nat.one_mul] at h2
        omega
      rw [hc _ hlt, flat_get cells sz hs d l k j hk hj]

section
variable {H : Type} {enc : TypeId × Value → H} {w : World} {base : Nat} {spare : Nat → Bool} {held : Bool}
/-- A slice that comes in, of elements that are read as cells. -/
theorem open_sl {α : Type} (cells : α → List Value) {t e : TypeId} {sz n : Nat} {cs : List Value} {x : DataW H × List MemPlace} (ht : Try.prog.underlying t = some (.slice e)) (hC : Try.prog.cellsOf e = sz) (hsz : 0 < sz) (hs : ∀ a, (cells a).length = sz)
    (hel : ∀ {n : Nat} {cs : List Value} {x : DataW H × List MemPlace}, DataW.trod enc Try.prog w base spare held n e cs = some x → ∃ a, cs = cells a)
    (h : DataW.trod enc Try.prog w base spare held n t cs = some x) : ∃ (v : Value) (l : List α), cs = [v] ∧ Sl w v sz l.length (l.flatMap cells) := by
  rcases open_slice ht h with ⟨rfl, _⟩ | ⟨a, len, cap, m, n, D, Pl, rfl, _, hl, hm, hmm, _, hx⟩
  · exact ⟨_, [], rfl, by simp, .inl ⟨rfl, .inl rfl⟩⟩
  · have hlm : len ≤ m := by rw [hmm]; split <;> omega
    have hch : ∀ k, k ≤ len → ∃ l : List α, l.length = k ∧ ∀ i, i < k → ∀ j, j < sz → w.cell? (a.add (i * sz + j)) = some ((l.flatMap cells).getD (i * sz + j) undef) := by
      intro k
      induction k with
      | zero => exact fun _ => ⟨[], rfl, fun i hi => by omega⟩
      | succ k ih =>
        intro hk
        obtain ⟨l, hll, hc⟩ := ih (by omega)
        obtain ⟨cs', h1, h2⟩ := hx k (by omega)
        rw [hC] at h1
        obtain ⟨_, hcl, hat⟩ := World.cells?_some h1
        obtain ⟨y, rfl⟩ := hel h2
        have hfl : (l.flatMap cells).length = k * sz := by
          rw [List.length_flatMap, show (fun a => (cells a).length) = fun _ => sz from funext hs, List.map_const', List.sum_replicate_nat, hll]
        refine ⟨l ++ [y], by simp [hll], fun i hi j hj => ?_⟩
        rw [List.flatMap_append, List.getD_eq_getElem?_getD]
        by_cases hik : i < k
        · have hlt : i * sz + j < (l.flatMap cells).length := by
            have h2 : (i + 1) * sz ≤ k * sz := Nat.mul_le_mul_right _ hik
            rw [Nat.add_mul, Nat.one_mul] at h2
            omega
          rw [List.getElem?_append_left hlt, hc i hik j hj, List.getD_eq_getElem?_getD]
        · have : i = k := by omega
          subst this
          rw [List.getElem?_append_right (by omega), show i * sz + j - (l.flatMap cells).length = j by omega]
          have e := hat j hj
          rw [Go.Deep.add_add] at e
          rw [e]
          have hjl : j < (cells y).length := by rw [hs]; exact hj
          simp [List.getElem?_eq_getElem hjl]
    obtain ⟨l, hll, hc⟩ := hch len (Nat.le_refl _)
    refine ⟨_, l, rfl, ?_, ?_⟩
    · rw [List.length_flatMap, show (fun a => (cells a).length) = fun _ => sz from funext hs, List.map_const', List.sum_replicate_nat]
    · by_cases h0 : l.length = 0
      · have hl0 : len = 0 := by omega
        subst hl0
        exact .inl ⟨h0, .inr ⟨a, cap, rfl, hm⟩⟩
      · have e0 := hc 0 (by omega) 0 hsz
        have hsp := World.cell?_spot e0
        obtain ⟨b, off, spot⟩ := a
        have hspot : spot = none := by simpa [Addr.add] using hsp
        subst hspot
        refine .inr ⟨b, off, cap, by rw [hll], by omega, hm, fun j hj => ?_⟩
        have hd : j = j / sz * sz + j % sz := by rw [Nat.mul_comm]; exact (Nat.div_add_mod j sz).symm
        have h1 : j / sz < len := by rw [← hll]; exact (Nat.div_lt_iff_lt_mul hsz).2 hj
        have h2 := hc (j / sz) h1 (j % sz) (Nat.mod_lt _ hsz)
        rw [← hd, add_off'] at h2
        exact h2
theorem trod_byte {n : Nat} {cs : List Value} {x : DataW H × List MemPlace} (h : DataW.trod enc Try.prog w base spare held n 5 cs = some x) : ∃ a : Int, cs = [.int .u8 a] := by
  obtain ⟨a, e, _⟩ := DataW.trod_int Try.underlying5 h
  exact ⟨a, e⟩
def bytesF' (b : Nat → Int) (k : Nat) : List AV := [.int .u8 (b k)]
/-- A list of bytes that comes in. -/
theorem open_bytes {M : Nat → Prop} (hM : ∀ g, ¬ M g) {v : Value} {d : DataW H} {p : List MemPlace} {a : Option Addr} {len cap : Nat} (hv : v = .slice a len cap) (h : DataW.Trod enc Try.prog w base spare held 22 v d p) : ∃ (n : Nat) (b : Nat → Int), PR w M (.slc 1 n (bytesF' b)) v := by
  obtain ⟨fuel, hf⟩ := h
  obtain ⟨v', l, hcs, hs⟩ := open_sl (fun a : Int => [Value.int .u8 a]) (sz := 1) Try.underlying22 Try.cells5 (by omega) (fun _ => rfl) trod_byte hf
  subst hv
  simp [Value.cells] at hcs
  subst hcs
  refine ⟨l.length, fun k => l.getD k 0, pr_of_sl hM (fun a : Int => [Value.int .u8 a]) (fun a : Int => [AV.int .u8 a]) 0 (fun _ => rfl) (fun _ => rfl) (fun a j hj => ?_) hs⟩
  have hj : j < 1 := hj
  obtain rfl : j = 0 := by omega
  exact ⟨.int _ _, rfl⟩
end
/-- A told function, called with plain values only. -/
theorem tells_calls {f : FuncId} {S : List AV → List Blk → Option Ans} (h : Tells Try.prog f S) {xs : List AV} {r : Ans} {x : r.α} (hr : S xs [] = some r) (hx : r.get = some x) {b : Bool} (hb : r.av x = .bool b) {w : World} {vs : Array Value} (hl : vs.size = xs.length)
    (hv : ∀ j, j < xs.length → ∀ (M : Nat → Prop) (σ : Nat → Value) (V : Nat → Option Nat), (∀ g, ¬ M g) → VR w M σ V (xs.getD j .undef) (vs.getD j undef)) (hgl : GlobOK w (fun _ => False) (fun _ => False) := by exact fun p hp => absurd hp List.not_mem_nil) : Calls Try.prog f vs w fun e w' => e = .returned (.bool b) ∧ Below w.heap.size w w' := by
  have e0 : ∀ (σ : Nat → Value) (g : Nat), ¬ Own (Hof []) σ g := fun σ g ⟨id, b, h1, _⟩ => by simp [Hof] at h1
  let F : Fr := ⟨w, fun _ => False, fun _ => False, fun _ => Go.undef, 0, False, fun _ _ _ _ => True, fun _ _ _ _ _ _ _ _ _ _ => trivial⟩
  have hMut : ∀ σ g, ¬ Mut F (Hof []) σ g := fun σ g hm => hm.elim (fun h => h) (e0 σ g)
  refine ((h xs [] r x hr hx).2 F (fun _ => Go.undef) w vs rfl (fun g => ⟨fun h => h.elim, fun h => e0 _ g h⟩) ⟨rfl, rfl, rfl, Nat.le_refl _, fun _ _ _ => rfl, fun id b h => by simp [Hof] at h, fun id _ b _ _ _ h => by simp [Hof] at h, fun id b _ h => by simp [Hof] at h, fun g h => h.elim, hgl⟩ hl
    fun j hj => hv j hj _ _ _ (hMut _)).mono fun e w' ⟨v, σ', he, hR, hV, _⟩ => ?_
  rw [hb] at hV
  have : v = .bool b := hV.bool_inv
  subst this
  exact ⟨he, hR.os, hR.tape, hR.output, hR.size, fun k hk => hR.old k hk fun h => h⟩
attribute [local irreducible] arun in
/-- A law that comes to true. -/
theorem law_calls {E : Env} (hE : E.tt = ttOf Try.prog) (hfs : ∀ f, Tells Try.prog f (E.fs f)) (hlo : ∀ n, E.loops n = none) {f : FuncId} {fn : Func} (hf : Try.prog.funcs[f]? = some fn) {xs : List AV} (he : arun E fn xs [] = some (.bool true, [])) {w : World} {vs : Array Value} (hl : vs.size = xs.length)
    (hv : ∀ j, j < xs.length → ∀ (M : Nat → Prop) (σ : Nat → Value) (V : Nat → Option Nat), (∀ g, ¬ M g) → VR w M σ V (xs.getD j .undef) (vs.getD j undef)) (hsq : ∀ g, SeqTells Try.prog g (E.seqs g) := by exact fun g => SeqTells.none_ g) (hgl : GlobOK w (fun _ => False) (fun _ => False) := by exact fun p hp => absurd hp List.not_mem_nil) : Calls Try.prog f vs w fun e w' => e = .returned (.bool true) ∧ Below w.heap.size w w' :=
  tells_calls (S := fun xs ins => some (runAns E fn xs ins)) (r := runAns E fn xs []) (x := (.bool true, [])) (arun_tells hE Try.pok hfs hsq hf fun c _ => loops_none (E := { E with nt := fn.ntmps }) hlo c) rfl he rfl hl hv hgl
end Go.Proofs.Ytkgcicbipcifdaa.Ab
