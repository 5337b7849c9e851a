/- Stage 8, the document's Command and Seen, and DoorCommands, by the plain evaluator. -/
import Derived.Test.YtegimoedpoemfaaGa
namespace Go.Proofs.Ytegimoedpoemfaa.Ab
open Go

def copyR (m : Nat) (q : Nat → Int) (door st : Int) : Option OutD := (match decide (m * 8 ≤ 140737488355328 ∧ m ≤ 1099511627776) with
              | true => (match decide (0 ≤ door ∧ door < (m : Int)) with
                | true => okR m fun j => if j = door.toNat then setAt (intsF q door.toNat) 0 [.int .i64 st] else intsF q j
                | false => none)
              | false => none)
def otherR (d : Ds) (m : Nat) (q : Nat → Int) (door st : Int) (o : Bool) : Option OutD := (match decide (0 ≤ door ∧ door < d.n) with
          | true => (match o with
            | true => (match st != 0 with
              | true => (match decide (d.other door.toNat ≥ 0) with
                | true => (match decide (0 ≤ d.other door.toNat ∧ d.other door.toNat < m) with
                  | true => (match q (d.other door.toNat).toNat != 0 with
                    | true => errR 10
                    | false => copyR m q door st)
                  | false => none)
                | false => copyR m q door st)
              | false => copyR m q door st)
            | false => copyR m q door st)
          | false => none)
def lenR (d : Ds) (m : Nat) (q : Nat → Int) (door st : Int) (o : Bool) : Option OutD := (match decide (0 ≤ door ∧ door < d.n) with
        | true => (match decide (st ≥ ((d.len door.toNat : Nat) : Int)) with
          | true => errR 1
          | false => otherR d m q door st o)
        | false => none)
noncomputable def envST : Env := envS (fun f => match f with
  | 11 => check?
  | _ => fun _ _ => none)
theorem envST_ok : ∀ f, Tells Try.prog f (envST.fs f) := by
  intro f
  by_cases h0 : f = 11
  · subst h0; exact tells_checkR
  have : envST.fs f = fun _ _ => none := by
    unfold envST envS
    dsimp only
    split
    · exact absurd rfl h0
    · rfl
  rw [this]
  exact Tells.none_ f
theorem run_set (d : Ds) (m : Nat) (q : Nat → Int) (door st : Int) (o : Bool) : arun envST Try.f33 [.slc 3 d.n (doorsF d), .slc 1 m (intsF q), .int .i64 door, .int .i64 st, .bool o] [] =
    match ofD d.n (doorsF d) checkV with
    | some z => (match z != 0 with
      | true => errR z
      | false => match (m : Int) != d.n with
        | true => errR 11
        | false => match decide (door < 0) with
          | true => errR 15
          | false => match decide (door ≥ d.n) with
            | true => errR 15
            | false => match decide (st < 0) with
              | true => (match o with
                | true => errR 1
                | false => match st != -1 with
                  | true => errR 1
                  | false => lenR d m q door st o)
              | false => lenR d m q door st o)
    | none => none := by kernel_rfl
attribute [local irreducible] arun
theorem copy_gives {d : Ds} (hc : checkV d = 0) {m : Nat} (hm : (m : Int) = d.n) {door : Int} (h : 0 ≤ door ∧ door < d.n) (q : Nat → Int) (st : Int) : Gives (copyR m q door st) (m, setI q door.toNat st, 0) := by
  have h16 := (check_ok hc).1
  unfold copyR
  refine gives_t (decide_eq_true (by omega)) (gives_t (decide_eq_true ⟨h.1, by omega⟩) ?_)
  rw [setI_fn]
  exact gives_ok _ _
theorem len_gives {d : Ds} (hc : checkV d = 0) {m : Nat} (hm : (m : Int) = d.n) {door : Int} (h : 0 ≤ door ∧ door < d.n) (q : Nat → Int) (st : Int) (o : Bool) (hs : 0 ≤ st ∨ (o = false ∧ st = -1)) :
    Gives (lenR d m q door st o) (if ¬ ((0 ≤ st ∧ st < ((d.len door.toNat : Nat) : Int)) ∨ (o = false ∧ st = -1)) then (0, nilI, 1)
  else if o = true ∧ st ≠ 0 ∧ d.other door.toNat ≠ -1 ∧ q (d.other door.toNat).toNat ≠ 0 then (0, nilI, 10)
  else (m, setI q door.toNat st, 0)) := by
  unfold lenR
  refine gives_t (decide_eq_true h) ?_
  have hio := ((check_ok hc).2 door.toNat (by omega)).2.2.1
  by_cases h1 : st ≥ ((d.len door.toNat : Nat) : Int)
  · rw [if_pos (by intro hh; rcases hh with hh | hh <;> omega)]
    exact gives_t (decide_eq_true h1) (gives_err 1)
  · rw [if_neg (fun hh => hh (hs.elim (fun hs => .inl ⟨hs, by omega⟩) .inr))]
    refine gives_f (decide_eq_false h1) ?_
    unfold otherR
    refine gives_t (decide_eq_true h) ?_
    cases o with
    | false =>
      rw [if_neg (by simp)]
      exact copy_gives hc hm h q st
    | true =>
      dsimp only
      by_cases h2 : st = 0
      · rw [if_neg (by simp [h2])]
        exact gives_f (by simpa using h2) (copy_gives hc hm h q st)
      · refine gives_t (by simpa using h2) ?_
        by_cases h3 : d.other door.toNat = -1
        · rw [if_neg (by simp [h3])]
          exact gives_f (decide_eq_false (by omega)) (copy_gives hc hm h q st)
        · obtain ⟨_, o1, o2, _⟩ := hio.resolve_left h3
          refine gives_t (decide_eq_true (by omega)) (gives_t (decide_eq_true ⟨o1, by omega⟩) ?_)
          by_cases h4 : q (d.other door.toNat).toNat = 0
          · rw [if_neg (by simp [h4])]
            exact gives_f (by simpa using h4) (copy_gives hc hm h q st)
          · rw [if_pos ⟨rfl, h2, h3, h4⟩]
            exact gives_t (by simpa using h4) (gives_err 10)
theorem set_gives (d : Ds) (hd : DB d) (m : Nat) (q : Nat → Int) (door st : Int) (o : Bool) : Gives (arun envST Try.f33 [.slc 3 d.n (doorsF d), .slc 1 m (intsF q), .int .i64 door, .int .i64 st, .bool o] []) (setV o d m q door st) := by
  rw [run_set, ofD_eq d _ hd]
  unfold setV
  dsimp only
  by_cases h1 : checkV d = 0
  · rw [if_neg (by simpa using h1)]
    refine gives_f (by simpa using h1) ?_
    by_cases h2 : (m : Int) = d.n
    · rw [if_neg (by simpa using h2)]
      refine gives_f (by simpa using h2) ?_
      by_cases h3 : door < 0
      · rw [if_pos (by omega)]
        exact gives_t (decide_eq_true h3) (gives_err 15)
      · refine gives_f (decide_eq_false h3) ?_
        by_cases h4 : door ≥ d.n
        · rw [if_pos (by omega)]
          exact gives_t (decide_eq_true h4) (gives_err 15)
        · have h5 : 0 ≤ door ∧ door < d.n := ⟨by omega, by omega⟩
          rw [if_neg (by simpa using h5)]
          refine gives_f (decide_eq_false h4) ?_
          by_cases h6 : st < 0
          · refine gives_t (decide_eq_true h6) ?_
            cases o with
            | true =>
              rw [if_pos (by simp; omega)]
              exact gives_err 1
            | false =>
              dsimp only
              by_cases h7 : st = -1
              · exact gives_f (by simpa using h7) (len_gives h1 h2 h5 q st false (.inr ⟨rfl, h7⟩))
              · rw [if_pos (by simp; omega)]
                exact gives_t (by simpa using h7) (gives_err 1)
          · exact gives_f (decide_eq_false h6) (len_gives h1 h2 h5 q st o (.inl (by omega)))
    · rw [if_pos h2]
      exact gives_t (by simpa using h2) (gives_err 11)
  · rw [if_pos h1]
    exact gives_t (by simpa using h1) (gives_err _)
theorem tells_set : Tells Try.prog 33 set? := by
  refine Tells.tri (arun_tells (E := envST) rfl Try.pok envST_ok Try.func33 (fun c _ => loops_none (E := { envST with nt := _ }) (fun _ => rfl) c)) fun xs ins r h => ?_
  unfold set? at h
  split at h
  · injection h with h
    subst h
    refine ⟨_, rfl, fun z hz => ⟨rfl, ?_⟩⟩
    obtain ⟨d, q, rfl, rfl, hd, hm, rfl, rfl⟩ := ofDI_some hz
    obtain ⟨y, z1, z2, e1, e2, e3, e4⟩ := set_gives d hd _ q _ _ _
    exact ⟨runAns envST _ _ _, y, z1, z2, rfl, e1, e2, e3, e4⟩
  · cases h
noncomputable def envRC : Env := envS (fun f => match f with
  | 33 => set?
  | _ => fun _ _ => none)
theorem envRC_ok : ∀ f, Tells Try.prog f (envRC.fs f) := by
  intro f
  by_cases h0 : f = 33
  · subst h0; exact tells_set
  have : envRC.fs f = fun _ _ => none := by
    unfold envRC envS
    dsimp only
    split
    · exact absurd rfl h0
    · rfl
  rw [this]
  exact Tells.none_ f
attribute [local semireducible] arun in
theorem run_cmdR (n : Nat) (F : Nat → List AV) (m : Nat) (G : Nat → List AV) (door st : Int) : arun envRC Try.f16 [.slc 3 n F, .slc 1 m G, .int .i64 door, .int .i64 st] [] =
    match ofDI n F m G fun d q => setV true d m q door st with
    | some x => some (triV x, [])
    | none => none := by kernel_rfl
theorem tells_cmdR : Tells Try.prog 16 cmd? := by
  refine tells_run (E := envRC) rfl Try.pok envRC_ok Try.func16 (fun c _ => envS_loops c) fun xs ins r x h hx => ?_
  · unfold cmd? at h
    split at h
    · injection h with h
      subst h
      obtain ⟨z, hx, ha, ho⟩ := triA_get hx
      rw [ha, ho, run_cmdR, hx]
    · cases h
attribute [local semireducible] arun in
theorem run_seenR (n : Nat) (F : Nat → List AV) (m : Nat) (G : Nat → List AV) (door st : Int) : arun envRC Try.f18 [.slc 3 n F, .slc 1 m G, .int .i64 door, .int .i64 st] [] =
    match ofDI n F m G fun d q => setV false d m q door st with
    | some x => some (triV x, [])
    | none => none := by kernel_rfl
theorem tells_seenR : Tells Try.prog 18 seen? := by
  refine tells_run (E := envRC) rfl Try.pok envRC_ok Try.func18 (fun c _ => envS_loops c) fun xs ins r x h hx => ?_
  · unfold seen? at h
    split at h
    · injection h with h
      subst h
      obtain ⟨z, hx, ha, ho⟩ := triA_get hx
      rw [ha, ho, run_seenR, hx]
    · cases h

/-! ### Two lists that are the same -/
open Classical in
noncomputable def intsO (a : Nat) (A : Nat → List AV) (b : Nat) (B : Nat → List AV) : Option Bool := if a = b ∧ A = B then ofI a A fun _ => true else none
noncomputable def ints? : List AV → List Blk → Option Ans
  | [.slc 1 a A, .slc 1 b B], [] => some (boolA (intsO a A b B))
  | _, _ => none
theorem intsO_self {n : Nat} (q : Nat → Int) (h : n ≤ lim) : intsO n (intsF q) n (intsF q) = some true := by
  unfold intsO
  rw [if_pos ⟨rfl, rfl⟩]
  exact ofI_eq q _ h
def sN (p : NQ) (i : Int) : St := ⟨[(0, .slc 1 p.1 (intsF p.2)), (1, .slc 1 p.1 (intsF p.2)), (5, .int .i64 i)], [], 448⟩
def xN (v : AV) : St := ⟨[(4, v)], [], 448⟩
noncomputable def loopN : St → Option LRes := loopG (fun p => sN p 0) okNQ (fun _ => (.inl () : Unit ⊕ Unit)) (.exit 0) (fun _ _ => xN .undef) .ret (fun _ _ => xN (.bool false))
attribute [local semireducible] arun
noncomputable def envN8 : Env := { envS (fun _ _ _ => none) (fun r => match r with | 4 => some ([0, 1, 5], [4]) | _ => none) with loops := fun r => match r with | 4 => some loopN | _ => none }
theorem envN8_ok : ∀ f, Tells Try.prog f (envN8.fs f) := fun f => Tells.none_ f
noncomputable def bN : Code := loopOf 4 Try.f19
noncomputable def eN : Env := { envN8 with nt := 26 }
noncomputable def lN {R : Type} (N : Nat) (s : St) (K : AX → St → Option R) : Option R := aloop (fun s j => aexec eN bN s j) (headOf eN bN 448) (exitOf eN bN 448) N s K
theorem roundN {R : Type} (p : NQ) (i : Int) (N : Nat) (K : AX → St → Option R) : lN (N + 1) (sN p i) K =
    match decide (i < p.1) with
    | true => (match decide (0 ≤ i ∧ i < p.1) with
      | true => (match decide (0 ≤ i ∧ i < p.1) with
        | true => (match p.2 i.toNat != p.2 i.toNat with
          | true => K .ret (xN (.bool false))
          | false => lN N (sN p (wr (i + 1))) K)
        | false => none)
      | false => none)
    | false => K (.exit 0) (xN .undef) := by kernel_rfl
theorem run_always : ∀ k i, runF (fun (_ : Nat) (_ : Unit) => (Sum.inl () : Unit ⊕ Unit)) k i () = .inl () := by
  intro k
  induction k with
  | zero => intro i; rfl
  | succ k ih => intro i; exact ih _
theorem ltN : LoopTells eN bN loopN := lt_loopG fun p hp => by
  have hl : p.1 ≤ lim := hp
  unfold lim at hl
  refine ⟨p.1 + 1, fun K => ?_⟩
  have key := loop_run (fun N s K => lN N s K) (fun i (_ : Unit) => sN p i) (.exit 0) .ret (fun _ => xN .undef) (fun (_ : Unit) => xN (.bool false)) (fun _ _ => .inl ()) p.1 K (fun i a N hi => ?_) (fun a N => ?_) p.1 0 () (Nat.zero_add _)
  · rw [run_always] at key
    exact key
  · show lN _ _ _ = _
    rw [roundN, ixok hi]
    refine kt (decide_eq_true (by omega)) ?_
    rw [wr_ok (by omega) (by omega)]
    exact kf (by simp) rfl
  · show lN _ _ _ = _
    rw [roundN]
    exact kf (decide_eq_false (by omega)) rfl
theorem run_ints (n : Nat) (q : Nat → Int) : arun envN8 Try.f19 [.slc 1 n (intsF q), .slc 1 n (intsF q)] [] =
    match (n : Int) != n with
    | true => some (.bool false, [])
    | false => match gOf (fun p => sN p 0) okNQ (fun _ => (.inl () : Unit ⊕ Unit)) (sN (n, q) 0) with
      | some (.inl _) => some (.bool true, [])
      | some (.inr _) => some (.bool false, [])
      | none => none := by kernel_rfl
attribute [local irreducible] arun in
theorem tells_ints : Tells Try.prog 19 ints? := by
  refine tells_run (E := envN8) rfl Try.pok envN8_ok Try.func19 (fun c hc => ?_) fun xs ins r x h hx => ?_
  · refine loops_of c fun c' hc' f hf => ?_
    have hb : loopsOf c = [bN] := by
      have : Try.f19.body.map loopsOf = some [bN] := by kernel_rfl
      rw [hc] at this
      injection this
    rw [hb] at hc'
    obtain rfl := List.mem_singleton.1 hc'
    have h6 : firstReg bN = 4 := by kernel_rfl
    rw [h6] at hf
    injection hf with hf
    subst hf
    exact ltN
  · unfold ints? at h
    split at h
    · injection h with h
      subst h
      obtain ⟨z, hz, ha, ho⟩ := boolA_get hx
      rw [ha, ho]
      unfold intsO at hz
      split at hz
      · rename_i hq
        obtain ⟨rfl, rfl⟩ := hq
        obtain ⟨hn, q, rfl, rfl⟩ := ofI_some hz
        rw [run_ints, gOf_eq _ (decNQ 0) (fun _ => rfl) okNQ _ (_, q) hn]
        exact kf (by simp) rfl
      · cases hz
    · cases h

/-! ### The law -/
noncomputable def rndC (d : Ds) (m : Nat) (G : Nat → List AV) (w k : Int) (K : Option OutD) : Option OutD := (match ofDI d.n (doorsF d) m G fun d q => setV true d m q w k with
      | some a => (match ofDI d.n (doorsF d) m G fun d q => setV true d m q w k with
        | some b => (match ofDI d.n (doorsF d) m G fun d q => setV false d m q w k with
          | some c => (match ofDI d.n (doorsF d) m G fun d q => setV false d m q w k with
            | some e => (match a.2.2 != b.2.2 with
              | true => some (.bool false, [])
              | false => match c.2.2 != e.2.2 with
                | true => some (.bool false, [])
                | false => match intsO a.1 (intsF a.2.1) b.1 (intsF b.2.1) with
                  | some f => (match !f with
                    | true => some (.bool false, [])
                    | false => match intsO c.1 (intsF c.2.1) e.1 (intsF e.2.1) with
                      | some g => (match !g with
                        | true => some (.bool false, [])
                        | false => K)
                      | none => none)
                  | none => none)
            | none => none)
          | none => none)
        | none => none)
      | none => none)
noncomputable def endC (d : Ds) (m : Nat) (G : Nat → List AV) (w k : Int) : Option OutD :=
  match ofDI d.n (doorsF d) m G fun d q => setV true d m q w k with
  | some a => (match ofDI d.n (doorsF d) m G fun d q => setV true d m q w k with
    | some b => (match a.2.2 == b.2.2 with
      | true => (match intsO a.1 (intsF a.2.1) b.1 (intsF b.2.1) with
        | some f => (match f with
          | true => some (.bool true, [])
          | false => some (.bool false, []))
        | none => none)
      | false => some (.bool false, []))
    | none => none)
  | none => none
noncomputable def envCL : Env := envS (fun f => match f with
  | 8 => awake?
  | 9 => doors?
  | 12 => mod?
  | 15 => cmd?
  | 17 => seen?
  | 16 => cmd?
  | 18 => seen?
  | 19 => ints?
  | _ => fun _ _ => none) (fun r => match r with | 4 => some ([4, 5, 13, 14, 15, 16, 48, 49, 50], [4, 5, 12, 13, 14]) | _ => none) 3
theorem envCL_ok : ∀ f, Tells Try.prog f (envCL.fs f) := by
  intro f
  by_cases h0 : f = 8
  · subst h0; exact tells_awake8
  by_cases h1 : f = 9
  · subst h1; exact tells_doors
  by_cases h2 : f = 12
  · subst h2; exact tells_mod
  by_cases h3 : f = 15
  · subst h3; exact tells_cmd
  by_cases h4 : f = 17
  · subst h4; exact tells_seen
  by_cases h5 : f = 16
  · subst h5; exact tells_cmdR
  by_cases h6 : f = 18
  · subst h6; exact tells_seenR
  by_cases h7 : f = 19
  · subst h7; exact tells_ints
  have : envCL.fs f = fun _ _ => none := by
    unfold envCL envS
    dsimp only
    split
    · exact absurd rfl h0
    · exact absurd rfl h1
    · exact absurd rfl h2
    · exact absurd rfl h3
    · exact absurd rfl h4
    · exact absurd rfl h5
    · exact absurd rfl h6
    · exact absurd rfl h7
    · rfl
  rw [this]
  exact Tells.none_ f
theorem run_doorCommands (n : Nat) (F : Nat → List AV) (m : Nat) (G : Nat → List AV) (at' by' which st : Int) : arun envCL Try.f4 [.slc 1 n F, .slc 1 m G, .int .i64 at', .int .i64 by', .int .i64 which, .int .i64 st] [] =
    match doorsG n F at' by' with
    | some x => rndC x.1 x.2.1 (intsF x.2.2) (modV which (wr ((x.1.n : Int) + 1))) (wr (modV st 7 - 2)) (rndC x.1 m G (modV which (wr ((x.1.n : Int) + 1))) (wr (modV st 7 - 2)) (endC x.1 x.2.1 (intsF x.2.2) which st))
    | none => none := by kernel_rfl
attribute [local irreducible] arun
theorem setV_len (o : Bool) (d : Ds) (m : Nat) (q : Nat → Int) (w k : Int) (h : m ≤ lim) : (setV o d m q w k).1 ≤ lim := by
  unfold setV
  split
  · exact Nat.zero_le _
  · split
    · exact Nat.zero_le _
    · split
      · exact Nat.zero_le _
      · split
        · exact Nat.zero_le _
        · split
          · exact Nat.zero_le _
          · exact h
theorem rndC_eq (d : Ds) (hd : DB d) (m : Nat) (hm : m ≤ lim) (q : Nat → Int) (w k : Int) (K : Option OutD) : rndC d m (intsF q) w k K = K := by
  unfold rndC
  rw [ofDI_eq d m q _ hd hm, ofDI_eq d m q _ hd hm]
  dsimp only
  rw [intsO_self _ (setV_len _ d m q w k hm), intsO_self _ (setV_len _ d m q w k hm)]
  exact kf (by simp) (kf (by simp) rfl)
theorem endC_eq (d : Ds) (hd : DB d) (m : Nat) (hm : m ≤ lim) (q : Nat → Int) (w k : Int) : endC d m (intsF q) w k = some (.bool true, []) := by
  unfold endC
  rw [ofDI_eq d m q _ hd hm]
  dsimp only
  rw [intsO_self _ (setV_len _ d m q w k hm)]
  exact kt (by simp) rfl
theorem DsOK.ml {x : Ds × Nat × (Nat → Int)} (h : DsOK x) : x.2.1 ≤ lim := by have := h.m; unfold lim; omega
theorem doorCommands_eq (n : Nat) (b : Nat → Int) (m : Nat) (q : Nat → Int) (hm : m ≤ lim) (at' by' which st : Int) : arun envCL Try.f4 [.slc 1 n (bytesF b), .slc 1 m (intsF q), .int .i64 at', .int .i64 by', .int .i64 which, .int .i64 st] [] = some (.bool true, []) := by
  obtain ⟨x, e, hx⟩ := doorsG_ex n b at' by'
  rw [run_doorCommands, e]
  dsimp only
  rw [rndC_eq x.1 hx.db _ hx.ml, rndC_eq x.1 hx.db m hm, endC_eq x.1 hx.db _ hx.ml]
open Go.ChangeShapes Go.WideShapes Go.ChangeAt Go.RowKit Go.Deep Go.Joins
theorem doorCommands_calls (n : Nat) (b : Nat → Int) (m : Nat) (q : Nat → Int) (hm : m ≤ lim) (at' by' which st : Int) {w : World} {vs : Array Value} (hl : vs.size = 6)
    (hv : ∀ j, j < 6 → ∀ (M : Nat → Prop) (σ : Nat → Value) (V : Nat → Option Nat), (∀ g, ¬ M g) → VR w M σ V ([AV.slc 1 n (bytesF b), .slc 1 m (intsF q), .int .i64 at', .int .i64 by', .int .i64 which, .int .i64 st].getD j .undef) (vs.getD j undef)) : Calls Try.prog 4 vs w fun e w' => e = .returned (.bool true) ∧ Below w.heap.size w w' :=
  law_calls (E := envCL) rfl envCL_ok (fun _ => rfl) Try.func4 (doorCommands_eq n b m q hm at' by' which st) hl hv
end Go.Proofs.Ytegimoedpoemfaa.Ab
