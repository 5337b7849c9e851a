/- Stage 8, states behind a command and behind what was seen: the program's and the document's, by the plain evaluator. -/
import Derived.Test.YtegimoedpoemfaaG9
namespace Go.Proofs.Ytegimoedpoemfaa.Ab
open Go

/-! ### The first error of a change -/
def chgV (d : Ds) (m : Nat) (door : Int) : Int := match checkV d != 0 with
  | true => checkV d
  | false => match (m : Int) != d.n with
    | true => 11
    | false => match !hasB d.n door with
      | true => 15
      | false => 0
noncomputable def chg? : List AV → List Blk → Option Ans
  | [.slc 3 n F, .slc 1 m _, .int .i64 door], [] => some (intA (ofD n F fun d => chgV d m door))
  | _, _ => none
noncomputable def envCC : Env := envS (fun f => match f with
  | 10 => check?
  | 28 => has?
  | _ => fun _ _ => none)
theorem envCC_ok : ∀ f, Tells Try.prog f (envCC.fs f) := by
  intro f
  by_cases h0 : f = 10
  · subst h0; exact tells_check
  by_cases h1 : f = 28
  · subst h1; exact tells_has
  have : envCC.fs f = fun _ _ => none := by
    unfold envCC envS
    dsimp only
    split
    · exact absurd rfl h0
    · exact absurd rfl h1
    · rfl
  rw [this]
  exact Tells.none_ f
theorem run_chg (d : Ds) (m : Nat) (G : Nat → List AV) (door : Int) : arun envCC Try.f31 [.slc 3 d.n (doorsF d), .slc 1 m G, .int .i64 door] [] =
    match ofD d.n (doorsF d) checkV with
    | some z => (match z != 0 with
      | true => some (.int .i64 z, [])
      | false => match (m : Int) != d.n with
        | true => some (.int .i64 11, [])
        | false => match !hasB d.n door with
          | true => some (.int .i64 15, [])
          | false => some (.int .i64 0, []))
    | none => none := by kernel_rfl
attribute [local irreducible] arun in
theorem tells_chg : Tells Try.prog 31 chg? := by
  refine tells_run (E := envCC) rfl Try.pok envCC_ok Try.func31 (fun c _ => envS_loops c) fun xs ins r x h hx => ?_
  · unfold chg? at h
    split at h
    · injection h with h
      subst h
      obtain ⟨z, hx, ha, ho⟩ := intA_get hx
      rw [ha, ho]
      obtain ⟨d, rfl, rfl, hd, rfl⟩ := ofD_some hx
      rw [run_chg, ofD_eq d _ hd]
      unfold chgV
      dsimp only
      split
      · rfl
      · split
        · rfl
        · split <;> rfl
    · cases h

/-! ### A copy, with a change -/
def small (m : Nat) : Bool := decide (1 ≤ m ∧ m ≤ 1000)
def rowA (o : Option Unit) (m : Nat) (G : Nat → List AV) : Ans := ⟨⟨Unit, o, fun _ => .own 0 0, fun _ => [.row 0 1 m IntT G]⟩, fun _ => false, fun _ h => by cases h⟩
def clone? : List AV → List Blk → Option Ans
  | [.slc 1 m G], [] => some (rowA (match small m with | true => some () | false => none) m G)
  | _, _ => none
theorem run_clone (m : Nat) (G : Nat → List AV) : arun env0 Try.f39 [.slc 1 m G] [] =
    match decide (0 < m) with
    | true => (match decide ((0 + m) * 8 ≤ 140737488355328 ∧ 0 + m ≤ 1099511627776) with
      | true => some (.own 0 0, [.row 0 1 (0 + m) IntT fun k => if k < 0 then rowC 1 0 [] k else G (k - 0)])
      | false => none)
    | false => none := by kernel_rfl
theorem clone_fn (G : Nat → List AV) : (fun k => if k < 0 then rowC 1 0 [] k else G (k - 0)) = G := by
  funext k
  rw [if_neg (Nat.not_lt_zero k)]
  rfl
attribute [local irreducible] arun in
theorem tells_clone : Tells Try.prog 39 clone? := by
  refine tells_run (E := env0) rfl Try.pok env0_ok Try.func39 (fun c _ => envS_loops c) fun xs ins r x h hx => ?_
  · unfold clone? at h
    split at h
    · injection h with h
      subst h
      rename_i m G
      have hs : (match small m with | true => some () | false => none) = some x := hx
      cases h1 : small m with
      | false => rw [h1] at hs; cases hs
      | true =>
        have h2 := of_decide_eq_true h1
        rw [run_clone, clone_fn, Nat.zero_add]
        exact kt (decide_eq_true (by omega)) (kt (decide_eq_true (by omega)) rfl)
    · cases h
def setI (q : Nat → Int) (i : Nat) (v : Int) (j : Nat) : Int := if j = i then v else q j
theorem setI_fn (q : Nat → Int) (i : Nat) (v : Int) : (fun j => if j = i then setAt (intsF q i) 0 [.int .i64 v] else intsF q j) = intsF (setI q i v) := by
  funext j
  show (if j = i then _ else _) = [AV.int .i64 (if j = i then v else q j)]
  by_cases h : j = i
  · rw [if_pos h, if_pos h]; rfl
  · rw [if_neg h, if_neg h]; rfl
noncomputable def chgdO (m : Nat) (G : Nat → List AV) (i v : Int) : Option (Nat → Int) := match small m with
  | true => (match decide (0 ≤ i ∧ i < (m : Int)) with
    | true => ofI m G fun q => setI q i.toNat v
    | false => none)
  | false => none
noncomputable def changed? : List AV → List Blk → Option Ans
  | [.slc 1 m G, .int .i64 i, .int .i64 v], [] => some ⟨⟨Nat → Int, chgdO m G i v, fun _ => .own 0 0, fun x => [.row 0 1 m IntT (intsF x)]⟩, fun _ => false, fun _ h => by cases h⟩
  | _, _ => none
noncomputable def envCl : Env := envS (fun f => match f with
  | 39 => clone?
  | _ => fun _ _ => none)
theorem envCl_ok : ∀ f, Tells Try.prog f (envCl.fs f) := by
  intro f
  by_cases h0 : f = 39
  · subst h0; exact tells_clone
  have : envCl.fs f = fun _ _ => none := by
    unfold envCl envS
    dsimp only
    split
    · exact absurd rfl h0
    · rfl
  rw [this]
  exact Tells.none_ f
theorem run_changed (m : Nat) (q : Nat → Int) (i v : Int) : arun envCl Try.f32 [.slc 1 m (intsF q), .int .i64 i, .int .i64 v] [] =
    match (match small m with | true => some () | false => none) with
    | some _ => (match decide (0 ≤ i ∧ i < (m : Int)) with
      | true => some (.own 0 0, [.row 0 1 m IntT fun j => if j = i.toNat then setAt (intsF q i.toNat) 0 [.int .i64 v] else intsF q j])
      | false => none)
    | none => none := by kernel_rfl
attribute [local irreducible] arun in
theorem tells_changed : Tells Try.prog 32 changed? := by
  refine tells_run (E := envCl) rfl Try.pok envCl_ok Try.func32 (fun c _ => envS_loops c) fun xs ins r x h hx => ?_
  · unfold changed? at h
    split at h
    · injection h with h
      subst h
      rename_i m G i v
      have hs : chgdO m G i v = some x := hx
      unfold chgdO at hs
      cases h1 : small m with
      | false => rw [h1] at hs; cases hs
      | true =>
        rw [h1] at hs
        cases h2 : decide (0 ≤ i ∧ i < (m : Int)) with
        | false => rw [h2] at hs; cases hs
        | true =>
          rw [h2] at hs
          obtain ⟨hn, q, rfl, e⟩ := ofI_some (show ofI m G _ = some x from hs)
          rw [run_changed, h1, h2, setI_fn]
          subst e
          rfl
    · cases h

/-! ### What is told of a change -/
abbrev Tri := Nat × (Nat → Int) × Int
def triV (x : Tri) : AV := .tup [.slc 1 x.1 (intsF x.2.1), .int .i64 x.2.2]
def triA (o : Option Tri) : Ans := ⟨⟨Tri, o, triV, fun _ => []⟩, fun _ => false, fun _ h => by cases h⟩
theorem triA_get {o : Option Tri} {x : (triA o).α} (h : (triA o).get = some x) : ∃ z : Tri, o = some z ∧ (triA o).av x = triV z ∧ (triA o).outs x = [] := ⟨x, h, rfl, rfl⟩
noncomputable def ofDI {Z : Type} (n : Nat) (F : Nat → List AV) (m : Nat) (G : Nat → List AV) (f : Ds → (Nat → Int) → Z) : Option Z := match ofD n F fun d => d with
  | some d => ofI m G (f d)
  | none => none
theorem ofDI_some {Z : Type} {n : Nat} {F : Nat → List AV} {m : Nat} {G : Nat → List AV} {f : Ds → (Nat → Int) → Z} {z : Z} (h : ofDI n F m G f = some z) : ∃ (d : Ds) (q : Nat → Int), d.n = n ∧ F = doorsF d ∧ DB d ∧ m ≤ lim ∧ G = intsF q ∧ z = f d q := by
  unfold ofDI at h
  split at h
  · rename_i d hd
    obtain ⟨d', h1, h2, h3, e⟩ := ofD_some hd
    have e : d = d' := e
    subst e
    obtain ⟨h4, q, h5, h6⟩ := ofI_some h
    exact ⟨d, q, h1, h2, h3, h4, h5, h6⟩
  · cases h
theorem ofDI_eq {Z : Type} (d : Ds) (m : Nat) (q : Nat → Int) (f : Ds → (Nat → Int) → Z) (hd : DB d) (hm : m ≤ lim) : ofDI d.n (doorsF d) m (intsF q) f = some (f d q) := by
  unfold ofDI
  rw [ofD_eq d _ hd]
  exact ofI_eq q _ hm
def nilI : Nat → Int := fun _ => 0
/-- The states behind a change, or the error. -/
def setV (ordered : Bool) (d : Ds) (m : Nat) (q : Nat → Int) (door st : Int) : Tri :=
  if checkV d ≠ 0 then (0, nilI, checkV d)
  else if (m : Int) ≠ d.n then (0, nilI, 11)
  else if ¬ (0 ≤ door ∧ door < d.n) then (0, nilI, 15)
  else if ¬ ((0 ≤ st ∧ st < ((d.len door.toNat : Nat) : Int)) ∨ (ordered = false ∧ st = -1)) then (0, nilI, 1)
  else if ordered = true ∧ st ≠ 0 ∧ d.other door.toNat ≠ -1 ∧ q (d.other door.toNat).toNat ≠ 0 then (0, nilI, 10)
  else (m, setI q door.toNat st, 0)
/-- What a right list says. -/
theorem check_ok {d : Ds} (h : checkV d = 0) : d.n ≤ 16 ∧ ∀ i, i < d.n → 2 ≤ d.len i ∧ d.len i ≤ 6 ∧ (d.other i = -1 ∨ (d.other i ≠ (i : Int) ∧ 0 ≤ d.other i ∧ d.other i < d.n ∧ d.other (d.other i).toNat = (i : Int))) ∧ anyOut (d.rest i) (d.len i) = false ∧ descV (d.rest i) (d.len i) = true := by
  unfold checkV at h
  have all : ∀ k i a, runF (stepK d) k i a = .inl () → ∀ j, i ≤ j → j < i + k → doorV d j = 0 := by
    intro k
    induction k with
    | zero => intro i a _ j h1 h2; omega
    | succ k ih =>
      intro i a hr j h1 h2
      unfold runF stepK at hr
      cases hc : doorV d i != 0 with
      | true => rw [hc] at hr; cases hr
      | false =>
        rw [hc] at hr
        by_cases hj : j = i
        · subst hj; simpa using hc
        · exact ih (i + 1) () hr j (by omega) (by omega)
  have nz : ∀ k i a r, runF (stepK d) k i a = .inr r → r ≠ 0 := by
    intro k
    induction k with
    | zero => intro i a r hr; cases hr
    | succ k ih =>
      intro i a r hr
      unfold runF stepK at hr
      cases hc : doorV d i != 0 with
      | true => rw [hc] at hr; injection hr with hr; subst hr; simpa using hc
      | false => rw [hc] at hr; exact ih (i + 1) () r hr
  cases h1 : decide ((d.n : Int) > 16) with
  | true => rw [h1] at h; cases h
  | false =>
    rw [h1] at h
    have h1 := of_decide_eq_false h1
    refine ⟨by omega, fun i hi => ?_⟩
    have h0 : doorV d i = 0 := by
      dsimp only at h
      cases hf : fK d with
      | inr r => rw [hf] at h; exact absurd h (nz _ _ _ _ hf)
      | inl u => exact all _ _ _ hf i (Nat.zero_le _) (by omega)
    unfold doorV at h0
    cases e1 : decide (d.road i < 0) with
    | true => rw [e1] at h0; cases h0
    | false =>
      rw [e1] at h0
      cases e2 : decide (((d.len i : Nat) : Int) < 2) with
      | true => rw [e2] at h0; cases h0
      | false =>
        rw [e2] at h0
        cases e3 : decide (((d.len i : Nat) : Int) > 6) with
        | true => rw [e3] at h0; cases h0
        | false =>
          rw [e3] at h0
          have e2 := of_decide_eq_false e2
          have e3 := of_decide_eq_false e3
          cases e4 : anyOut (d.rest i) (d.len i) with
          | true => rw [e4] at h0; cases h0
          | false =>
            rw [e4] at h0
            cases e5 : descV (d.rest i) (d.len i) with
            | false => rw [e5] at h0; cases h0
            | true =>
              rw [e5] at h0
              cases e6 : pairB d i with
              | false => rw [e6] at h0; cases h0
              | true =>
                refine ⟨by omega, by omega, ?_, rfl, rfl⟩
                unfold pairB at e6
                rw [show ((i : Nat) : Int).toNat = i from rfl] at e6
                cases f1 : d.other i == -1 with
                | true => exact .inl (by simpa using f1)
                | false =>
                  rw [f1] at e6
                  cases f2 : d.other i != (i : Int) with
                  | false => rw [f2] at e6; cases e6
                  | true =>
                    rw [f2] at e6
                    cases f3 : hasB d.n (d.other i) with
                    | false => rw [f3] at e6; cases e6
                    | true =>
                      rw [f3] at e6
                      have f3 := hasB_iff.1 f3
                      exact .inr ⟨by simpa using f2, f3.1, f3.2, by simpa using e6⟩
noncomputable def cmd? : List AV → List Blk → Option Ans
  | [.slc 3 n F, .slc 1 m G, .int .i64 door, .int .i64 st], [] => some (triA (ofDI n F m G fun d q => setV true d m q door st))
  | _, _ => none
noncomputable def seen? : List AV → List Blk → Option Ans
  | [.slc 3 n F, .slc 1 m G, .int .i64 door, .int .i64 st], [] => some (triA (ofDI n F m G fun d q => setV false d m q door st))
  | _, _ => none
noncomputable def set? : List AV → List Blk → Option Ans
  | [.slc 3 n F, .slc 1 m G, .int .i64 door, .int .i64 st, .bool o], [] => some (triA (ofDI n F m G fun d q => setV o d m q door st))
  | _, _ => none
def errR (z : Int) : Option OutD := some (.tup [.own 0 0, .int .i64 z], [.nilrow 0])
def okR (m : Nat) (g : Nat → List AV) : Option OutD := some (.tup [.own 0 0, .int .i64 0], [.row 0 1 m IntT g])
/-- A run whose answer, given up, is x. -/
def Gives (o : Option OutD) (x : Tri) : Prop := ∃ y z1 z2, o = some y ∧ y.1 = .tup [z1, z2] ∧ Frz y.2 z1 (.slc 1 x.1 (intsF x.2.1)) ∧ Frz y.2 z2 (.int .i64 x.2.2)
theorem gives_err (z : Int) : Gives (errR z) (0, nilI, z) := ⟨_, _, _, rfl, rfl, frz_nil _ _ rfl, frz_pure rfl⟩
theorem gives_ok (m : Nat) (q : Nat → Int) : Gives (okR m (intsF q)) (m, q, 0) := ⟨_, _, _, rfl, rfl, frz_row rfl, frz_pure rfl⟩
theorem Tells.tri {f : FuncId} {S S' : List AV → List Blk → Option Ans} (h : Tells Try.prog f S)
    (hs : ∀ xs ins r, S' xs ins = some r → ∃ o : Option Tri, r = triA o ∧ (∀ z, o = some z → ins = [] ∧ ∃ (r0 : Ans) (x0 : r0.α) (z1 z2 : AV), S xs [] = some r0 ∧ r0.get = some x0 ∧ r0.av x0 = .tup [z1, z2] ∧ Frz (r0.outs x0) z1 (.slc 1 z.1 (intsF z.2.1)) ∧ Frz (r0.outs x0) z2 (.int .i64 z.2.2))) : Tells Try.prog f S' := by
  refine h.frz fun xs ins r x hr hx => ?_
  obtain ⟨o, rfl, ho⟩ := hs xs ins r hr
  obtain ⟨hi, r0, x0, z1, z2, e2, e3, e4, f1, f2⟩ := ho x hx
  exact ⟨hi, rfl, _, _, z1, z2, r0, x0, rfl, e2, e3, e4, f1, f2⟩
noncomputable def envCM : Env := envS (fun f => match f with
  | 31 => chg?
  | 28 => has?
  | 32 => changed?
  | _ => fun _ _ => none)
theorem envCM_ok : ∀ f, Tells Try.prog f (envCM.fs f) := by
  intro f
  by_cases h0 : f = 31
  · subst h0; exact tells_chg
  by_cases h1 : f = 28
  · subst h1; exact tells_has
  by_cases h2 : f = 32
  · subst h2; exact tells_changed
  have : envCM.fs f = fun _ _ => none := by
    unfold envCM envS
    dsimp only
    split
    · exact absurd rfl h0
    · exact absurd rfl h1
    · exact absurd rfl h2
    · rfl
  rw [this]
  exact Tells.none_ f
theorem run_order (d : Ds) (m : Nat) (q : Nat → Int) (door st : Int) : arun envCM Try.f15 [.slc 3 d.n (doorsF d), .slc 1 m (intsF q), .int .i64 door, .int .i64 st] [] =
    match ofD d.n (doorsF d) fun d => chgV d m door with
    | some z => (match z != 0 with
      | true => errR z
      | false => match decide (0 ≤ door ∧ door < d.n) with
        | true => (match !hasB ((d.len door.toNat : Nat) : Int) st with
          | true => errR 1
          | false => match st != 0 with
            | true => (match d.other door.toNat != -1 with
              | true => (match decide (0 ≤ d.other door.toNat ∧ d.other door.toNat < m) with
                | true => (match q (d.other door.toNat).toNat != 0 with
                  | true => errR 10
                  | false => match chgdO m (intsF q) door st with
                    | some x => okR m (intsF x)
                    | none => none)
                | false => none)
              | false => match chgdO m (intsF q) door st with
                | some x => okR m (intsF x)
                | none => none)
            | false => match chgdO m (intsF q) door st with
              | some x => okR m (intsF x)
              | none => none)
        | false => none)
    | none => none := by kernel_rfl
theorem run_seen (d : Ds) (m : Nat) (q : Nat → Int) (door st : Int) : arun envCM Try.f17 [.slc 3 d.n (doorsF d), .slc 1 m (intsF q), .int .i64 door, .int .i64 st] [] =
    match ofD d.n (doorsF d) fun d => chgV d m door with
    | some z => (match z != 0 with
      | true => errR z
      | false => match st != -1 with
        | true => (match decide (0 ≤ door ∧ door < d.n) with
          | true => (match !hasB ((d.len door.toNat : Nat) : Int) st with
            | true => errR 1
            | false => match chgdO m (intsF q) door st with
              | some x => okR m (intsF x)
              | none => none)
          | false => none)
        | false => match chgdO m (intsF q) door st with
          | some x => okR m (intsF x)
          | none => none)
    | none => none := by kernel_rfl
attribute [local irreducible] arun
theorem chgd_eq {d : Ds} (hc : checkV d = 0) {m : Nat} (hm : (m : Int) = d.n) {door : Int} (h : 0 ≤ door ∧ door < d.n) (q : Nat → Int) (st : Int) : chgdO m (intsF q) door st = some (setI q door.toNat st) := by
  have h16 := (check_ok hc).1
  unfold chgdO
  rw [show small m = true from decide_eq_true ⟨by omega, by omega⟩, show decide (0 ≤ door ∧ door < (m : Int)) = true from decide_eq_true ⟨h.1, by omega⟩]
  exact ofI_eq q _ (by unfold lim; omega)
theorem hasB_false {t x : Int} (h : ¬ (0 ≤ x ∧ x < t)) : hasB t x = false := by
  cases hh : hasB t x with
  | false => rfl
  | true => exact absurd (hasB_iff.1 hh) h
theorem gives_t {b : Bool} {x y : Option OutD} {v : Tri} : b = true → Gives x v → Gives (match b with | true => x | false => y) v := fun h k => by subst h; exact k
theorem gives_f {b : Bool} {x y : Option OutD} {v : Tri} : b = false → Gives y v → Gives (match b with | true => x | false => y) v := fun h k => by subst h; exact k
/-- The first errors, for each way. -/
theorem gives_chg {ord : Bool} {d : Ds} (hd : DB d) {m : Nat} {q : Nat → Int} {door st : Int} {X : Option OutD}
    (h : checkV d = 0 → (m : Int) = d.n → (0 ≤ door ∧ door < d.n) → Gives X (if ¬ ((0 ≤ st ∧ st < ((d.len door.toNat : Nat) : Int)) ∨ (ord = false ∧ st = -1)) then (0, nilI, 1)
  else if ord = true ∧ st ≠ 0 ∧ d.other door.toNat ≠ -1 ∧ q (d.other door.toNat).toNat ≠ 0 then (0, nilI, 10)
  else (m, setI q door.toNat st, 0))) :
    Gives (match ofD d.n (doorsF d) fun d => chgV d m door with
    | some z => (match z != 0 with
      | true => errR z
      | false => X)
    | none => none) (setV ord d m q door st) := by
  rw [ofD_eq d _ hd]
  dsimp only
  unfold setV chgV
  by_cases h1 : checkV d = 0
  · rw [if_neg (by simpa using h1), h1]
    by_cases h2 : (m : Int) = d.n
    · rw [if_neg (by simpa using h2)]
      by_cases h3 : 0 ≤ door ∧ door < d.n
      · rw [if_neg (by simpa using h3), show ((m : Int) != d.n) = false by simpa using h2, hasB_iff.2 h3]
        exact h h1 h2 h3
      · rw [if_pos h3, show ((m : Int) != d.n) = false by simpa using h2, hasB_false h3]
        exact gives_err 15
    · rw [if_pos h2, show ((m : Int) != d.n) = true by simpa using h2]
      exact gives_err 11
  · rw [if_pos h1, show (checkV d != 0) = true by simpa using h1]
    dsimp only
    rw [show (checkV d != 0) = true by simpa using h1]
    exact gives_err _
theorem cmd_gives (d : Ds) (hd : DB d) (m : Nat) (q : Nat → Int) (door st : Int) : Gives (arun envCM Try.f15 [.slc 3 d.n (doorsF d), .slc 1 m (intsF q), .int .i64 door, .int .i64 st] []) (setV true d m q door st) := by
  rw [run_order]
  refine gives_chg hd fun h1 h2 h3 => gives_t (decide_eq_true h3) ?_
  have hio := ((check_ok h1).2 door.toNat (by omega)).2.2.1
  by_cases h4 : 0 ≤ st ∧ st < ((d.len door.toNat : Nat) : Int)
  · rw [if_neg (by simp [h4]), chgd_eq h1 h2 h3, hasB_iff.2 h4]
    refine gives_f (b := !true) (x := errR 1) rfl ?_
    by_cases h5 : st = 0
    · rw [if_neg (by simp [h5])]
      exact gives_f (by simpa using h5) (gives_ok _ _)
    · refine gives_t (by simpa using h5) ?_
      by_cases h6 : d.other door.toNat = -1
      · rw [if_neg (by simp [h6])]
        exact gives_f (by simpa using h6) (gives_ok _ _)
      · obtain ⟨_, o1, o2, _⟩ := hio.resolve_left h6
        refine gives_t (by simpa using h6) (gives_t (decide_eq_true ⟨o1, by omega⟩) ?_)
        by_cases h7 : q (d.other door.toNat).toNat = 0
        · rw [if_neg (by simp [h7])]
          exact gives_f (by simpa using h7) (gives_ok _ _)
        · rw [if_pos ⟨rfl, h5, h6, h7⟩]
          exact gives_t (by simpa using h7) (gives_err 10)
  · rw [if_pos (by simp [h4]), hasB_false h4]
    exact gives_err 1
theorem seen_gives (d : Ds) (hd : DB d) (m : Nat) (q : Nat → Int) (door st : Int) : Gives (arun envCM Try.f17 [.slc 3 d.n (doorsF d), .slc 1 m (intsF q), .int .i64 door, .int .i64 st] []) (setV false d m q door st) := by
  rw [run_seen]
  refine gives_chg hd fun h1 h2 h3 => ?_
  rw [chgd_eq h1 h2 h3, if_neg (c := false = true ∧ _) (by simp)]
  by_cases h5 : st = -1
  · rw [if_neg (by simp [h5])]
    exact gives_f (by simpa using h5) (gives_ok _ _)
  · refine gives_t (by simpa using h5) (gives_t (decide_eq_true h3) ?_)
    by_cases h4 : 0 ≤ st ∧ st < ((d.len door.toNat : Nat) : Int)
    · rw [if_neg (by simp [h4]), hasB_iff.2 h4]
      exact gives_f (b := !true) (x := errR 1) rfl (gives_ok _ _)
    · rw [if_pos (by simp [h4, h5]), hasB_false h4]
      exact gives_err 1
theorem tells_cmd : Tells Try.prog 15 cmd? := by
  refine Tells.tri (arun_tells (E := envCM) rfl Try.pok envCM_ok Try.func15 (fun c _ => loops_none (E := { envCM with nt := _ }) (fun _ => rfl) c)) fun xs ins r h => ?_
  unfold cmd? at h
  split at h
  · injection h with h
    subst h
    refine ⟨_, rfl, fun z hz => ⟨rfl, ?_⟩⟩
    obtain ⟨d, q, rfl, rfl, hd, hm, rfl, rfl⟩ := ofDI_some hz
    obtain ⟨y, z1, z2, e1, e2, e3, e4⟩ := cmd_gives d hd _ q _ _
    exact ⟨runAns envCM _ _ _, y, z1, z2, rfl, e1, e2, e3, e4⟩
  · cases h
theorem tells_seen : Tells Try.prog 17 seen? := by
  refine Tells.tri (arun_tells (E := envCM) rfl Try.pok envCM_ok Try.func17 (fun c _ => loops_none (E := { envCM with nt := _ }) (fun _ => rfl) c)) fun xs ins r h => ?_
  unfold seen? at h
  split at h
  · injection h with h
    subst h
    refine ⟨_, rfl, fun z hz => ⟨rfl, ?_⟩⟩
    obtain ⟨d, q, rfl, rfl, hd, hm, rfl, rfl⟩ := ofDI_some hz
    obtain ⟨y, z1, z2, e1, e2, e3, e4⟩ := seen_gives d hd _ q _ _
    exact ⟨runAns envCM _ _ _, y, z1, z2, rfl, e1, e2, e3, e4⟩
  · cases h
end Go.Proofs.Ytegimoedpoemfaa.Ab
