/- Stage 8, the program's Check, by the plain evaluator. -/
import Derived.Test.YtegimoedpoemfaaG5
namespace Go.Proofs.Ytegimoedpoemfaa.Ab
open Go

theorem wr_ok {x : Int} (h0 : -9223372036854775808 ≤ x) (h1 : x ≤ 9223372036854775807) : wr x = x := by show IntKind.i64.wrap x = x; rw [IntKind.wrap_i64]; omega
theorem ixok {i n : Nat} (h : i < n) : decide ((0 : Int) ≤ (i : Int) ∧ (i : Int) < (n : Int)) = true := decide_eq_true ⟨by omega, by omega⟩
abbrev NQ := Nat × (Nat → Int)
def decNQ (t : Nat) (s : St) : NQ := match aget s.tm t with | .slc _ n F => (n, decI F) | _ => (0, fun _ => 0)
def okNQ (p : NQ) : Prop := p.1 ≤ lim

/-! ### The first number out of range -/
def sI (p : NQ) (i : Int) : St := ⟨[(0, .slc 1 p.1 (intsF p.2)), (1, .fn 36 []), (7, .int .i64 p.1), (8, .int .i64 i)], [], 256⟩
def xI (v : AV) : St := ⟨[(4, v)], [], 256⟩
def stepI (q : Nat → Int) (i : Nat) (_ : Unit) : Unit ⊕ Int := match outB (q i) with | true => .inr (i : Int) | false => .inl ()
def fI (p : NQ) : Unit ⊕ Int := runF (stepI p.2) p.1 0 ()
noncomputable def loopI : St → Option LRes := loopG (fun p => sI p 0) okNQ fI (.exit 0) (fun _ _ => xI .undef) .ret (fun _ r => xI (.int .i64 r))
noncomputable def envI : Env := { envS (fun f => match f with
  | 36 => out?
  | _ => fun _ _ => none) (fun r => match r with | 2 => some ([0, 1, 7, 8], [4]) | _ => none) with loops := fun r => match r with | 2 => some loopI | _ => none }
theorem envI_ok : ∀ f, Tells Try.prog f (envI.fs f) := by
  intro f
  by_cases h0 : f = 36
  · subst h0; exact tells_out
  have : envI.fs f = fun _ _ => none := by
    unfold envI envS
    dsimp only
    split
    · exact absurd rfl h0
    · rfl
  rw [this]
  exact Tells.none_ f
noncomputable def bI : Code := loopOf 2 Try.f40
noncomputable def eI : Env := { envI with nt := 19 }
noncomputable def lI {R : Type} (N : Nat) (s : St) (K : AX → St → Option R) : Option R := aloop (fun s j => aexec eI bI s j) (headOf eI bI 256) (exitOf eI bI 256) N s K
theorem roundI {R : Type} (p : NQ) (i : Int) (N : Nat) (K : AX → St → Option R) : lI (N + 1) (sI p i) K =
    match decide (i < p.1) with
    | true => (match decide (0 ≤ i ∧ i < p.1) with
      | true => (match outB (p.2 i.toNat) with
        | true => K .ret (xI (.int .i64 i))
        | false => lI N (sI p (wr (i + 1))) K)
      | false => none)
    | false => K (.exit 0) (xI .undef) := by kernel_rfl
theorem ltI : LoopTells eI bI loopI := lt_loopG fun p hp => by
  refine ⟨p.1 + 1, fun K => ?_⟩
  refine loop_run (fun N s K => lI N s K) (fun i (_ : Unit) => sI p i) (.exit 0) .ret (fun _ => xI .undef) (fun r => xI (.int .i64 r)) (stepI p.2) p.1 K (fun i a N hi => ?_) (fun a N => ?_) p.1 0 () (Nat.zero_add _)
  · have hl : p.1 ≤ lim := hp
    unfold lim at hl
    show lI _ _ _ = _
    rw [roundI]
    refine kt (decide_eq_true (by omega)) (kt (ixok hi) ?_)
    rw [wr_ok (by omega) (by omega)]
    unfold stepI
    rw [show ((i : Nat) : Int).toNat = i from rfl]
    cases outB (p.2 i) <;> rfl
  · show lI _ _ _ = _
    rw [roundI]
    exact kf (decide_eq_false (by omega)) rfl
/-- The number of the first one, or -1. -/
def idxV (q : Nat → Int) (n : Nat) : Int := match runF (stepI q) n 0 () with | .inl _ => -1 | .inr r => r
noncomputable def index? : List AV → List Blk → Option Ans
  | [.slc 1 n F, .fn 36 []], [] => some (intA (ofI n F fun q => idxV q n))
  | _, _ => none
theorem run_index (n : Nat) (q : Nat → Int) : arun envI Try.f40 [.slc 1 n (intsF q), .fn 36 []] [] =
    match gOf (fun p => sI p 0) okNQ fI (sI (n, q) 0) with
    | some (.inl _) => some (.int .i64 (-1), [])
    | some (.inr r) => some (.int .i64 r, [])
    | none => none := by kernel_rfl
attribute [local irreducible] arun in
theorem tells_index : Tells Try.prog 40 index? := by
  refine tells_run (E := envI) rfl Try.pok envI_ok Try.func40 (fun c hc => ?_) fun xs ins r x h hx => ?_
  · refine loops_of c fun c' hc' f hf => ?_
    have hb : loopsOf c = [bI] := by
      have : Try.f40.body.map loopsOf = some [bI] := by kernel_rfl
      rw [hc] at this
      injection this
    rw [hb] at hc'
    obtain rfl := List.mem_singleton.1 hc'
    have h6 : firstReg bI = 2 := by kernel_rfl
    rw [h6] at hf
    injection hf with hf
    subst hf
    exact ltI
  · unfold index? at h
    split at h
    · injection h with h
      subst h
      obtain ⟨z, hx, ha, ho⟩ := intA_get hx
      rw [ha, ho]
      obtain ⟨hn, q, rfl, rfl⟩ := ofI_some hx
      rw [run_index, gOf_eq _ (decNQ 0) (fun _ => rfl) okNQ fI (_, q) hn]
      show _ = some (AV.int .i64 (idxV q _), [])
      unfold fI idxV
      dsimp only
      cases runF (stepI q) _ 0 () <;> rfl
    · cases h
noncomputable def envCF : Env := envS (fun f => match f with
  | 40 => index?
  | _ => fun _ _ => none)
theorem envCF_ok : ∀ f, Tells Try.prog f (envCF.fs f) := by
  intro f
  by_cases h0 : f = 40
  · subst h0; exact tells_index
  have : envCF.fs f = fun _ _ => none := by
    unfold envCF envS
    dsimp only
    split
    · exact absurd rfl h0
    · rfl
  rw [this]
  exact Tells.none_ f
def anyOut (q : Nat → Int) (n : Nat) : Bool := decide (idxV q n ≥ 0)
noncomputable def contains? : List AV → List Blk → Option Ans
  | [.slc 1 n F, .fn 36 []], [] => some (boolA (ofI n F fun q => anyOut q n))
  | _, _ => none
theorem run_contains (n : Nat) (F : Nat → List AV) : arun envCF Try.f35 [.slc 1 n F, .fn 36 []] [] =
    match ofI n F fun q => idxV q n with
    | some z => some (.bool (decide (z ≥ 0)), [])
    | none => none := by kernel_rfl
attribute [local irreducible] arun in
theorem tells_contains : Tells Try.prog 35 contains? := by
  refine tells_run (E := envCF) rfl Try.pok envCF_ok Try.func35 (fun c _ => envS_loops c) fun xs ins r x h hx => ?_
  · unfold contains? at h
    split at h
    · injection h with h
      subst h
      obtain ⟨z, hx, ha, ho⟩ := boolA_get hx
      rw [ha, ho]
      obtain ⟨hn, q, rfl, rfl⟩ := ofI_some hx
      rw [run_contains, ofI_eq q _ hn]
      rfl
    · cases h

/-! ### Each less than the one ahead of it -/
def sE (p : NQ) (i : Int) : St := ⟨[(0, .slc 1 p.1 (intsF p.2)), (5, .int .i64 p.1), (6, .int .i64 i)], [], 256⟩
def xE (v : AV) : St := ⟨[(2, v)], [], 256⟩
def stepE (q : Nat → Int) (i : Nat) (_ : Unit) : Unit ⊕ Unit := match decide (0 < i) with | true => (match decide (q i ≥ q (i - 1)) with | true => .inr () | false => .inl ()) | false => .inl ()
def fE (p : NQ) : Unit ⊕ Unit := runF (stepE p.2) p.1 0 ()
noncomputable def loopE : St → Option LRes := loopG (fun p => sE p 0) okNQ fE (.exit 0) (fun _ _ => xE .undef) .ret (fun _ _ => xE (.bool false))
noncomputable def envE : Env := { envS (fun _ _ _ => none) (fun r => match r with | 2 => some ([0, 5, 6], [2]) | _ => none) with loops := fun r => match r with | 2 => some loopE | _ => none }
theorem envE_ok : ∀ f, Tells Try.prog f (envE.fs f) := fun f => Tells.none_ f
noncomputable def bE : Code := loopOf 2 Try.f37
noncomputable def eE : Env := { envE with nt := 24 }
noncomputable def lE {R : Type} (N : Nat) (s : St) (K : AX → St → Option R) : Option R := aloop (fun s j => aexec eE bE s j) (headOf eE bE 256) (exitOf eE bE 256) N s K
theorem roundE {R : Type} (p : NQ) (i : Int) (N : Nat) (K : AX → St → Option R) : lE (N + 1) (sE p i) K =
    match decide (i < p.1) with
    | true => (match decide (i > 0) with
      | true => (match decide (0 ≤ i ∧ i < p.1) with
        | true => (match decide (0 ≤ wr (i - 1) ∧ wr (i - 1) < p.1) with
          | true => (match decide (p.2 i.toNat ≥ p.2 (wr (i - 1)).toNat) with
            | true => K .ret (xE (.bool false))
            | false => lE N (sE p (wr (i + 1))) K)
          | false => none)
        | false => none)
      | false => lE N (sE p (wr (i + 1))) K)
    | false => K (.exit 0) (xE .undef) := by kernel_rfl
theorem ltE : LoopTells eE bE loopE := lt_loopG fun p hp => by
  refine ⟨p.1 + 1, fun K => ?_⟩
  refine loop_run (fun N s K => lE N s K) (fun i (_ : Unit) => sE p i) (.exit 0) .ret (fun _ => xE .undef) (fun _ => xE (.bool false)) (stepE p.2) p.1 K (fun i a N hi => ?_) (fun a N => ?_) p.1 0 () (Nat.zero_add _)
  · have hl : p.1 ≤ lim := hp
    unfold lim at hl
    show lE _ _ _ = _
    rw [roundE]
    refine kt (decide_eq_true (by omega)) ?_
    rw [wr_ok (x := (i : Int) + 1) (by omega) (by omega), wr_ok (x := (i : Int) - 1) (by omega) (by omega)]
    unfold stepE
    by_cases h0 : 0 < i
    · have e1 : ((i : Int) - 1).toNat = i - 1 := by omega
      rw [show decide ((i : Int) > 0) = true from decide_eq_true (by omega), show decide (0 < i) = true from decide_eq_true h0, e1]
      refine kt (ixok hi) (kt (decide_eq_true ⟨by omega, by omega⟩) ?_)
      rw [show ((i : Nat) : Int).toNat = i from rfl]
      cases decide (p.2 i ≥ p.2 (i - 1)) <;> rfl
    · rw [show decide ((i : Int) > 0) = false from decide_eq_false (by omega), show decide (0 < i) = false from decide_eq_false h0]
      rfl
  · show lE _ _ _ = _
    rw [roundE]
    exact kf (decide_eq_false (by omega)) rfl
def descV (q : Nat → Int) (n : Nat) : Bool := match runF (stepE q) n 0 () with | .inl _ => true | .inr _ => false
noncomputable def descend? : List AV → List Blk → Option Ans
  | [.slc 1 n F], [] => some (boolA (ofI n F fun q => descV q n))
  | _, _ => none
theorem run_descend (n : Nat) (q : Nat → Int) : arun envE Try.f37 [.slc 1 n (intsF q)] [] =
    match gOf (fun p => sE p 0) okNQ fE (sE (n, q) 0) with
    | some (.inl _) => some (.bool true, [])
    | some (.inr _) => some (.bool false, [])
    | none => none := by kernel_rfl
attribute [local irreducible] arun in
theorem tells_descend : Tells Try.prog 37 descend? := by
  refine tells_run (E := envE) rfl Try.pok envE_ok Try.func37 (fun c hc => ?_) fun xs ins r x h hx => ?_
  · refine loops_of c fun c' hc' f hf => ?_
    have hb : loopsOf c = [bE] := by
      have : Try.f37.body.map loopsOf = some [bE] := by kernel_rfl
      rw [hc] at this
      injection this
    rw [hb] at hc'
    obtain rfl := List.mem_singleton.1 hc'
    have h6 : firstReg bE = 2 := by kernel_rfl
    rw [h6] at hf
    injection hf with hf
    subst hf
    exact ltE
  · unfold descend? at h
    split at h
    · injection h with h
      subst h
      obtain ⟨z, hx, ha, ho⟩ := boolA_get hx
      rw [ha, ho]
      obtain ⟨hn, q, rfl, rfl⟩ := ofI_some hx
      rw [run_descend, gOf_eq _ (decNQ 0) (fun _ => rfl) okNQ fE (_, q) hn]
      show _ = some (AV.bool (descV q _), [])
      unfold fE descV
      dsimp only
      cases runF (stepE q) _ 0 () <;> rfl
    · cases h

/-! ### The other door -/
def pairB (d : Ds) (i : Int) : Bool := match d.other i.toNat == -1 with
  | true => true
  | false => match d.other i.toNat != i with
    | true => (match hasB d.n (d.other i.toNat) with
      | true => d.other (d.other i.toNat).toNat == i
      | false => false)
    | false => false
noncomputable def atD {Z : Type} (n : Nat) (F : Nat → List AV) (i : Int) (f : Ds → Z) : Option Z := match decide (0 ≤ i ∧ i < (n : Int)) with | true => ofD n F f | false => none
theorem atD_some {Z : Type} {n : Nat} {F : Nat → List AV} {i : Int} {f : Ds → Z} {z : Z} (h : atD n F i f = some z) : (0 ≤ i ∧ i < (n : Int)) ∧ ofD n F f = some z := by
  unfold atD at h
  split at h
  · rename_i hq; exact ⟨of_decide_eq_true hq, h⟩
  · cases h
theorem atD_eq {Z : Type} (d : Ds) {i : Int} (f : Ds → Z) (h : DB d) (hi : 0 ≤ i ∧ i < (d.n : Int)) : atD d.n (doorsF d) i f = some (f d) := by
  unfold atD
  rw [show decide (0 ≤ i ∧ i < (d.n : Int)) = true from decide_eq_true hi]
  exact ofD_eq d f h
noncomputable def paired? : List AV → List Blk → Option Ans
  | [.slc 3 n F, .int .i64 i], [] => some (boolA (atD n F i fun d => pairB d i))
  | _, _ => none
noncomputable def envHas : Env := envS (fun f => match f with
  | 28 => has?
  | _ => fun _ _ => none)
theorem envHas_ok : ∀ f, Tells Try.prog f (envHas.fs f) := by
  intro f
  by_cases h0 : f = 28
  · subst h0; exact tells_has
  have : envHas.fs f = fun _ _ => none := by
    unfold envHas envS
    dsimp only
    split
    · exact absurd rfl h0
    · rfl
  rw [this]
  exact Tells.none_ f
theorem run_paired (d : Ds) (i : Int) : arun envHas Try.f38 [.slc 3 d.n (doorsF d), .int .i64 i] [] =
    match decide (0 ≤ i ∧ i < d.n) with
    | true => (match d.other i.toNat == -1 with
      | true => some (.bool true, [])
      | false => match d.other i.toNat != i with
        | true => (match hasB d.n (d.other i.toNat) with
          | true => (match decide (0 ≤ d.other i.toNat ∧ d.other i.toNat < d.n) with
            | true => some (.bool (d.other (d.other i.toNat).toNat == i), [])
            | false => none)
          | false => some (.bool false, []))
        | false => some (.bool false, []))
    | false => none := by kernel_rfl
theorem hasB_iff {t x : Int} : hasB t x = true ↔ 0 ≤ x ∧ x < t := by
  unfold hasB
  by_cases h : 0 ≤ x
  · rw [show decide (0 ≤ x) = true from decide_eq_true h]
    simp [h]
  · rw [show decide (0 ≤ x) = false from decide_eq_false h]
    simp [h]
attribute [local irreducible] arun in
theorem tells_paired : Tells Try.prog 38 paired? := by
  refine tells_run (E := envHas) rfl Try.pok envHas_ok Try.func38 (fun c _ => envS_loops c) fun xs ins r x h hx => ?_
  · unfold paired? at h
    split at h
    · injection h with h
      subst h
      obtain ⟨z, hx, ha, ho⟩ := boolA_get hx
      rw [ha, ho]
      obtain ⟨hi, hx⟩ := atD_some hx
      obtain ⟨d, rfl, rfl, hd, rfl⟩ := ofD_some hx
      rw [run_paired]
      refine kt (decide_eq_true hi) ?_
      show _ = some (AV.bool (pairB d _), [])
      unfold pairB
      split
      · rfl
      · split
        · split
          · rename_i h1
            exact kt (decide_eq_true (hasB_iff.1 h1)) rfl
          · rfl
        · rfl
    · cases h

/-! ### A door, and all -/
def doorV (d : Ds) (i : Nat) : Int := match decide (d.road i < 0) with
  | true => 4
  | false => match decide (((d.len i : Nat) : Int) < 2) with
    | true => 2
    | false => match decide (((d.len i : Nat) : Int) > 6) with
      | true => 2
      | false => match anyOut (d.rest i) (d.len i) with
        | true => 1
        | false => match !descV (d.rest i) (d.len i) with
          | true => 15
          | false => match !pairB d i with
            | true => 15
            | false => 0
noncomputable def checkDoor? : List AV → List Blk → Option Ans
  | [.slc 3 n F, .int .i64 i], [] => some (intA (atD n F i fun d => doorV d i.toNat))
  | _, _ => none
noncomputable def envCD : Env := envS (fun f => match f with
  | 35 => contains?
  | 37 => descend?
  | 38 => paired?
  | _ => fun _ _ => none)
theorem envCD_ok : ∀ f, Tells Try.prog f (envCD.fs f) := by
  intro f
  by_cases h0 : f = 35
  · subst h0; exact tells_contains
  by_cases h1 : f = 37
  · subst h1; exact tells_descend
  by_cases h2 : f = 38
  · subst h2; exact tells_paired
  have : envCD.fs f = fun _ _ => none := by
    unfold envCD envS
    dsimp only
    split
    · exact absurd rfl h0
    · exact absurd rfl h1
    · exact absurd rfl h2
    · rfl
  rw [this]
  exact Tells.none_ f
theorem run_checkDoor (d : Ds) (i : Int) : arun envCD Try.f27 [.slc 3 d.n (doorsF d), .int .i64 i] [] =
    match decide (0 ≤ i ∧ i < d.n) with
    | true => (match decide (d.road i.toNat < 0) with
      | true => some (.int .i64 4, [])
      | false => match decide (((d.len i.toNat : Nat) : Int) < 2) with
        | true => some (.int .i64 2, [])
        | false => match decide (((d.len i.toNat : Nat) : Int) > 6) with
          | true => some (.int .i64 2, [])
          | false => match ofI (d.len i.toNat) (intsF (d.rest i.toNat)) fun q => anyOut q (d.len i.toNat) with
            | some b => (match b with
              | true => some (.int .i64 1, [])
              | false => match ofI (d.len i.toNat) (intsF (d.rest i.toNat)) fun q => descV q (d.len i.toNat) with
                | some e => (match !e with
                  | true => some (.int .i64 15, [])
                  | false => match atD d.n (doorsF d) i fun d => pairB d i with
                    | some p => (match !p with
                      | true => some (.int .i64 15, [])
                      | false => some (.int .i64 0, []))
                    | none => none)
                | none => none)
            | none => none)
    | false => none := by kernel_rfl
attribute [local irreducible] arun in
theorem tells_checkDoor : Tells Try.prog 27 checkDoor? := by
  refine tells_run (E := envCD) rfl Try.pok envCD_ok Try.func27 (fun c _ => envS_loops c) fun xs ins r x h hx => ?_
  · unfold checkDoor? at h
    split at h
    · injection h with h
      subst h
      rename_i n F i
      obtain ⟨z, hx, ha, ho⟩ := intA_get hx
      rw [ha, ho]
      obtain ⟨hi, hx⟩ := atD_some hx
      obtain ⟨d, rfl, rfl, hd, rfl⟩ := ofD_some hx
      have hlen := hd.len i.toNat (by omega)
      rw [run_checkDoor, ofI_eq _ _ hlen, ofI_eq _ _ hlen, atD_eq d _ hd hi]
      refine kt (decide_eq_true hi) ?_
      show _ = some (AV.int .i64 (doorV d _), [])
      have e0 : ((i.toNat : Nat) : Int) = i := by omega
      unfold doorV
      rw [e0]
      dsimp only
      cases decide (d.road i.toNat < 0) with
      | true => rfl
      | false =>
        cases decide (((d.len i.toNat : Nat) : Int) < 2) with
        | true => rfl
        | false =>
          cases decide (((d.len i.toNat : Nat) : Int) > 6) with
          | true => rfl
          | false =>
            dsimp only
            cases anyOut (d.rest i.toNat) (d.len i.toNat) with
            | true => rfl
            | false =>
              dsimp only
              cases !descV (d.rest i.toNat) (d.len i.toNat) with
              | true => rfl
              | false =>
                dsimp only
                cases !pairB d i <;> rfl
    · cases h
def sK (d : Ds) (i : Int) : St := ⟨[(0, .slc 3 d.n (doorsF d)), (9, .int .i64 d.n), (10, .int .i64 i)], [], 448⟩
def xK (v : AV) : St := ⟨[(2, v)], [], 448⟩
def decK (t : Nat) (s : St) : Ds := match aget s.tm t with | .slc _ n F => decD n F | _ => decD 0 fun _ => []
def stepK (d : Ds) (i : Nat) (_ : Unit) : Unit ⊕ Int := match doorV d i != 0 with | true => .inr (doorV d i) | false => .inl ()
def fK (d : Ds) : Unit ⊕ Int := runF (stepK d) d.n 0 ()
noncomputable def loopK : St → Option LRes := loopG (fun d => sK d 0) DB fK (.exit 0) (fun _ _ => xK .undef) .ret (fun _ r => xK (.int .i64 r))
noncomputable def envK : Env := { envS (fun f => match f with
  | 27 => checkDoor?
  | _ => fun _ _ => none) (fun r => match r with | 4 => some ([0, 9, 10], [2]) | _ => none) with loops := fun r => match r with | 4 => some loopK | _ => none }
theorem envK_ok : ∀ f, Tells Try.prog f (envK.fs f) := by
  intro f
  by_cases h0 : f = 27
  · subst h0; exact tells_checkDoor
  have : envK.fs f = fun _ _ => none := by
    unfold envK envS
    dsimp only
    split
    · exact absurd rfl h0
    · rfl
  rw [this]
  exact Tells.none_ f
noncomputable def bK : Code := loopOf 4 Try.f10
noncomputable def eK : Env := { envK with nt := 20 }
noncomputable def lK {R : Type} (N : Nat) (s : St) (K : AX → St → Option R) : Option R := aloop (fun s j => aexec eK bK s j) (headOf eK bK 448) (exitOf eK bK 448) N s K
theorem roundK {R : Type} (d : Ds) (i : Int) (N : Nat) (K : AX → St → Option R) : lK (N + 1) (sK d i) K =
    match decide (i < d.n) with
    | true => (match atD d.n (doorsF d) i fun d => doorV d i.toNat with
      | some z => (match z != 0 with
        | true => K .ret (xK (.int .i64 z))
        | false => lK N (sK d (wr (i + 1))) K)
      | none => none)
    | false => K (.exit 0) (xK .undef) := by kernel_rfl
theorem ltK : LoopTells eK bK loopK := lt_loopG fun d hd => by
  refine ⟨d.n + 1, fun K => ?_⟩
  refine loop_run (fun N s K => lK N s K) (fun i (_ : Unit) => sK d i) (.exit 0) .ret (fun _ => xK .undef) (fun r => xK (.int .i64 r)) (stepK d) d.n K (fun i a N hi => ?_) (fun a N => ?_) d.n 0 () (Nat.zero_add _)
  · have hl := hd.n
    unfold lim at hl
    show lK _ _ _ = _
    rw [roundK, atD_eq d _ hd ⟨by omega, by omega⟩]
    refine kt (decide_eq_true (by omega)) ?_
    rw [wr_ok (by omega) (by omega)]
    unfold stepK
    rw [show ((i : Nat) : Int).toNat = i from rfl]
    dsimp only
    cases doorV d i != 0 <;> rfl
  · show lK _ _ _ = _
    rw [roundK]
    exact kf (decide_eq_false (by omega)) rfl
/-- The first error of a list. -/
def checkV (d : Ds) : Int := match decide ((d.n : Int) > 16) with
  | true => 2
  | false => match fK d with
    | .inl _ => 0
    | .inr r => r
noncomputable def check? : List AV → List Blk → Option Ans
  | [.slc 3 n F], [] => some (intA (ofD n F checkV))
  | _, _ => none
theorem run_check (d : Ds) : arun envK Try.f10 [.slc 3 d.n (doorsF d)] [] =
    match decide ((d.n : Int) > 16) with
    | true => some (.int .i64 2, [])
    | false => match gOf (fun d => sK d 0) DB fK (sK d 0) with
      | some (.inl _) => some (.int .i64 0, [])
      | some (.inr r) => some (.int .i64 r, [])
      | none => none := by kernel_rfl
attribute [local irreducible] arun in
theorem tells_check : Tells Try.prog 10 check? := by
  refine tells_run (E := envK) rfl Try.pok envK_ok Try.func10 (fun c hc => ?_) fun xs ins r x h hx => ?_
  · refine loops_of c fun c' hc' f hf => ?_
    have hb : loopsOf c = [bK] := by
      have : Try.f10.body.map loopsOf = some [bK] := by kernel_rfl
      rw [hc] at this
      injection this
    rw [hb] at hc'
    obtain rfl := List.mem_singleton.1 hc'
    have h6 : firstReg bK = 4 := by kernel_rfl
    rw [h6] at hf
    injection hf with hf
    subst hf
    exact ltK
  · unfold check? at h
    split at h
    · injection h with h
      subst h
      obtain ⟨z, hx, ha, ho⟩ := intA_get hx
      rw [ha, ho]
      obtain ⟨d, rfl, rfl, hd, rfl⟩ := ofD_some hx
      rw [run_check, gOf_eq _ (decK 0) (fun _ => rfl) DB fK d hd]
      show _ = some (AV.int .i64 (checkV d), [])
      unfold checkV
      cases decide ((d.n : Int) > 16) with
      | true => rfl
      | false =>
        dsimp only
        cases fK d <;> rfl
    · cases h
end Go.Proofs.Ytegimoedpoemfaa.Ab
