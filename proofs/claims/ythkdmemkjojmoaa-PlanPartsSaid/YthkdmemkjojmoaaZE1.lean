/- The plain evaluator: what is told of a function, in typed words; stage 7's first ones. -/
import Derived.Test.YthkdmemkjojmoaaZD9
import Derived.Test.YthkdmemkjojmoaaChecked
import Derived.KernelRfl
namespace Go.Proofs.Ythkdmemkjojmoaa.Ab
open Go

theorem Try.pok : POK Try.prog := by
  refine ⟨by kernel_rfl, ?_⟩
  have h : (Try.prog.funcs.toList.all fun fn => fn.body.isNone || fn.name != "runtime.NumGoroutine") = true := by kernel_rfl
  intro f fn hf hb
  have := List.all_eq_true.1 h fn (by rw [Array.mem_toList_iff]; exact Array.mem_of_getElem? hf)
  cases hq : fn.body with
  | none => simp [hq] at hb
  | some c => simpa [hq] using this

/-- An answer that is a plain value. -/
def retV (v : AV) (h : v.flat = true := by rfl) : Ans where
  α := Unit
  get := some ()
  av := fun _ => v
  outs := fun _ => []
  fl := fun _ => true
  hfl := fun _ _ => ⟨h, fun b hb => by cases hb⟩
/-- If a run comes to v, the answer may be told. -/
theorem Tells.of {P : Program} {f : FuncId} {S S' : List AV → List Blk → Option Ans} (h : Tells P f S)
    (hs : ∀ xs ins r x, S' xs ins = some r → r.get = some x → ∃ r0 x0, S xs ins = some r0 ∧ r0.get = some x0 ∧ r0.av x0 = r.av x ∧ r0.outs x0 = r.outs x) : Tells P f S' := by
  intro xs ins r x hr hx
  obtain ⟨r0, x0, h1, h2, h3, h4⟩ := hs xs ins r x hr hx
  have := h xs ins r0 x0 h1 h2
  rw [h3, h4] at this
  exact this
/-- By the function's own run. -/
theorem tells_run {P : Program} {E : Env} (hE : E.tt = ttOf P) (hP : POK P) (hfs : ∀ f, Tells P f (E.fs f)) {f : FuncId} {fn : Func} (hf : P.funcs[f]? = some fn) (hl : ∀ c, fn.body = some c → LoopsOK { E with nt := fn.ntmps } c)
    {S : List AV → List Blk → Option Ans} (h : ∀ xs ins r x, S xs ins = some r → r.get = some x → arun E fn xs ins = some (r.av x, r.outs x)) : Tells P f S :=
  (arun_tells hE hP hfs hf hl).of fun xs ins r x h1 h2 => ⟨_, _, rfl, h xs ins r x h1 h2, rfl, rfl⟩
/-- The environment with these contracts. -/
noncomputable def envS (fs : FuncId → List AV → List Blk → Option Ans) (live : Nat → Option (List Nat × List Nat) := fun _ => none) (fuel : Nat := 0) : Env := ⟨ttOf Try.prog, fs, fun _ => none, live, fuel, 0, fun _ => [], fun _ => none, none⟩
theorem envS_loops {fs : FuncId → List AV → List Blk → Option Ans} {live : Nat → Option (List Nat × List Nat)} {fuel nt : Nat} (c : Code) : LoopsOK { envS fs live fuel with nt := nt } c := loops_none (fun _ => rfl) c

/-- One that has it, if there is any. -/
noncomputable def theOne {α : Type} (p : α → Prop) : Option α := open Classical in if h : ∃ z, p z then some h.choose else none
theorem theOne_spec {α : Type} {p : α → Prop} {z : α} (h : theOne p = some z) : p z := by
  unfold theOne at h
  split at h
  · rename_i hq
    injection h with h
    subst h
    exact hq.choose_spec
  · cases h
theorem theOne_eq {α : Type} {p : α → Prop} {z : α} (hz : p z) (hu : ∀ z', p z' → z' = z) : theOne p = some z := by
  unfold theOne
  have h : ∃ z, p z := ⟨z, hz⟩
  rw [dif_pos h]
  exact congrArg some (hu _ h.choose_spec)
theorem theOne_some {α : Type} {p : α → Prop} (h : ∃ z, p z) : ∃ z, theOne p = some z ∧ p z := by
  unfold theOne
  rw [dif_pos h]
  exact ⟨_, rfl, h.choose_spec⟩
/-- The loops of a code. -/
def loopsOf : Code → List Code
  | .seq a b => loopsOf a ++ loopsOf b
  | .cond _ a b => loopsOf a ++ loopsOf b
  | .block _ a => loopsOf a
  | .loop c => c :: loopsOf c
  | _ => []
theorem loops_of {E : Env} : ∀ c, (∀ c' ∈ loopsOf c, ∀ f, E.loops (firstReg c') = some f → LoopTells E c' f) → LoopsOK E c := by
  intro c
  induction c with
  | seq a b iha ihb => intro h; exact ⟨iha fun c' hc => h c' (List.mem_append_left _ hc), ihb fun c' hc => h c' (List.mem_append_right _ hc)⟩
  | cond c a b iha ihb => intro h; exact ⟨iha fun c' hc => h c' (List.mem_append_left _ hc), ihb fun c' hc => h c' (List.mem_append_right _ hc)⟩
  | block id a ih => intro h; exact ih h
  | loop a ih => intro h; exact ⟨ih fun c' hc => h c' (List.mem_cons_of_mem _ hc), h a (List.mem_cons_self ..)⟩
  | _ => intro _; trivial
/-- A code's loop that begins with the region r. -/
def loopIn (r : Nat) : Code → Option Code
  | .seq a b => match loopIn r a with
    | some c => some c
    | none => loopIn r b
  | .cond _ a b => match loopIn r a with
    | some c => some c
    | none => loopIn r b
  | .block _ a => loopIn r a
  | .loop c => match Nat.beq (firstReg c) r with
    | true => some c
    | false => loopIn r c
  | _ => none
def loopOf (r : Nat) (fn : Func) : Code := ((fn.body.bind (loopIn r))).getD .skip

theorem kt {α : Type} {b : Bool} {x y z : α} : b = true → x = z → (match b with | true => x | false => y) = z := fun h hx => by subst h; exact hx
theorem kf {α : Type} {b : Bool} {x y z : α} : b = false → y = z → (match b with | true => x | false => y) = z := fun h hx => by subst h; exact hx
end Go.Proofs.Ythkdmemkjojmoaa.Ab
