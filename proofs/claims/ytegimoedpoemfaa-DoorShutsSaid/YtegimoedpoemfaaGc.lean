/- Stage 8, which doors are both not shut: the program's and the document's, and DoorOpens, by the plain evaluator. -/
import Derived.Test.YtegimoedpoemfaaGb
namespace Go.Proofs.Ytegimoedpoemfaa.Ab
open Go

abbrev Lst := Nat × (Nat → Int)
def lstV (x : Lst) : AV := .slc 1 x.1 (intsF x.2)
def lstA (o : Option Lst) : Ans := ⟨⟨Lst, o, lstV, fun _ => []⟩, fun _ => false, fun _ h => by cases h⟩
theorem lstA_get {o : Option Lst} {x : (lstA o).α} (h : (lstA o).get = some x) : ∃ z : Lst, o = some z ∧ (lstA o).av x = lstV z ∧ (lstA o).outs x = [] := ⟨x, h, rfl, rfl⟩
def nilO : Option OutD := some (.own 0 0, [.nilrow 0])
def rowO (y : Lst) : Option OutD := some (.own 0 0, [.row 0 1 y.1 IntT (intsF y.2)])
def Gives1 (o : Option OutD) (x : Lst) : Prop := ∃ y, o = some y ∧ Frz y.2 y.1 (lstV x)
theorem gives_nil (q : Nat → Int) : Gives1 nilO (0, q) := ⟨_, rfl, frz_nil _ _ rfl⟩
theorem gives_row (y : Lst) : Gives1 (rowO y) y := ⟨_, rfl, frz_row rfl⟩
theorem Tells.lst {f : FuncId} {S S' : List AV → List Blk → Option Ans} (h : Tells Try.prog f S)
    (hs : ∀ xs ins r, S' xs ins = some r → ∃ o : Option Lst, r = lstA o ∧ (∀ z, o = some z → ins = [] ∧ ∃ (r0 : Ans) (x0 : r0.α), S xs [] = some r0 ∧ r0.get = some x0 ∧ Frz (r0.outs x0) (r0.av x0) (lstV z))) : Tells Try.prog f S' := by
  intro xs ins r x hr hx
  obtain ⟨o, rfl, ho⟩ := hs xs ins r hr
  obtain ⟨rfl, r0, x0, e2, e3, f1⟩ := ho x hx
  obtain ⟨g1, g2⟩ := h xs [] r0 x0 e2 e3
  refine ⟨g1, fun F σ w vs hw hm rel hl hv => (g2 F σ w vs hw hm rel hl hv).mono fun e w' ⟨v, σ', k1, k2, k3, k4, k5, k6⟩ => ⟨v, σ', k1, ?_, ?_, Nat.zero_le _, (fun b hb => by cases hb), k6⟩⟩
  · exact ⟨k2.os, k2.tape, k2.output, k2.size, k2.old, fun id b h => by simp [lstA, Hof] at h, fun id _ b _ _ _ h => by simp [lstA, Hof] at h, fun id b _ h => by simp [lstA, Hof] at h, k2.mxl⟩
  · have hM : ∀ g, Mut F (Hof []) σ' g → F.mx g := fun g hg => hg.resolve_right (own_none σ' g)
    exact .pure ((f1 F σ' w' _ k2 k3).grow (fun _ _ _ => rfl) (fun g _ hg => hM g hg))

/-! ### The loops -/
def pushI (g : Nat → Int) (k : Nat) (v : Int) (j : Nat) : Int := if j < k then g j else v
theorem push_row (g : Nat → Int) (k : Nat) (v : Int) : (fun j => if j < k then intsF g j else rowC 1 1 [.int .i64 v] (j - k)) = intsF (pushI g k v) := by
  funext j
  show (if j < k then _ else _) = [AV.int .i64 (if j < k then g j else v)]
  by_cases h : j < k
  · rw [if_pos h, if_pos h]; rfl
  · rw [if_neg h, if_neg h, rowC_1]
theorem push_nil (g : Nat → Int) (v : Int) : rowC 1 1 [.int .i64 v] = intsF (pushI g 0 v) := by
  funext j
  rw [rowC_1]
  rfl
def blkP (a : Lst) : Blk := match a.1 with
  | 0 => .nilrow 0
  | k + 1 => .row 0 1 (k + 1) IntT (intsF a.2)
def nextP (d : Ds) (q : Nat → Int) (i : Nat) (a : Lst) : Lst := match d.other i != -1 with
  | true => (match q i != 0 with
    | true => (match q (d.other i).toNat != 0 with
      | true => (a.1 + 1, pushI a.2 a.1 i)
      | false => a)
    | false => a)
  | false => a
def foldP (d : Ds) (q : Nat → Int) : Nat → Nat → Lst → Lst
  | 0, _, a => a
  | k + 1, i, a => foldP d q k (i + 1) (nextP d q i a)
theorem runP (d : Ds) (q : Nat → Int) : ∀ k i a, runF (fun i a => (.inl (nextP d q i a) : Lst ⊕ Unit)) k i a = .inl (foldP d q k i a) := by
  intro k
  induction k with
  | zero => intro i a; rfl
  | succ k ih => intro i a; exact ih (i + 1) _
abbrev PP := Ds × NQ
def okPP (p : PP) : Prop := DB p.1 ∧ checkV p.1 = 0 ∧ (p.2.1 : Int) = p.1.n
def fP (p : PP) : Unit ⊕ Lst := match foldP p.1 p.2.2 p.1.n 0 (0, nilI) with
  | (0, _) => .inl ()
  | (k + 1, g) => .inr (k + 1, g)
def hpP (b : Blk) : List (Nat × Blk) := [(0, .nilrow 0), (704, b)]
/-- The index checks of a round. -/
def condP {R : Type} (d : Ds) (q : Nat → Int) (m : Nat) (i : Nat) (X Y : Option R) : Option R := match decide ((0 : Int) ≤ i ∧ (i : Int) < m) with
  | true => (match q i != 0 with
    | true => (match decide (0 ≤ d.other i ∧ d.other i < m) with
      | true => (match q (d.other i).toNat != 0 with
        | true => X
        | false => Y)
      | false => none)
    | false => Y)
  | false => none
theorem condP_eq {R : Type} {p : PP} (hp : okPP p) {i : Nat} (hi : i < p.1.n) (ho : p.1.other i ≠ -1) (X : Lst → Option R) (a : Lst) : condP p.1 p.2.2 p.2.1 i (X (a.1 + 1, pushI a.2 a.1 i)) (X a) = X (nextP p.1 p.2.2 i a) := by
  obtain ⟨_, hc, hm⟩ := hp
  obtain ⟨_, o1, o2, _⟩ := ((check_ok hc).2 i hi).2.2.1.resolve_left ho
  unfold condP nextP
  rw [show (p.1.other i != -1) = true by simpa using ho]
  refine kt (decide_eq_true ⟨by omega, by omega⟩) ?_
  cases p.2.2 i != 0 with
  | false => rfl
  | true =>
    refine kt (decide_eq_true ⟨o1, by omega⟩) ?_
    dsimp only
    cases p.2.2 (p.1.other i).toNat != 0 <;> rfl
theorem next_none {d : Ds} {q : Nat → Int} {i : Nat} (ho : d.other i = -1) (a : Lst) : nextP d q i a = a := by
  unfold nextP
  rw [show (d.other i != -1) = false by simpa using ho]
theorem fold_le (d : Ds) (q : Nat → Int) : ∀ k i a, (foldP d q k i a).1 ≤ a.1 + k := by
  intro k
  induction k with
  | zero => intro i a; exact Nat.le_refl _
  | succ k ih =>
    intro i a
    have h1 : (nextP d q i a).1 ≤ a.1 + 1 := by
      unfold nextP
      split
      · split
        · split
          · exact Nat.le_refl _
          · exact Nat.le_succ _
        · exact Nat.le_succ _
      · exact Nat.le_succ _
    have := ih (i + 1) (nextP d q i a)
    show (foldP d q k (i + 1) (nextP d q i a)).1 ≤ _
    omega
theorem loop_runI {A B R : Type} (L : Nat → St → (AX → St → Option R) → Option R) (head : Nat → A → St) (ax ar : AX) (exN : A → St) (exR : B → St) (step : Nat → A → A ⊕ B) (Inv : Nat → A → Prop) (n : Nat) (K : AX → St → Option R)
    (hr : ∀ i a N, i < n → Inv i a → L (N + 1) (head i a) K = match step i a with | .inl a' => L N (head (i + 1) a') K | .inr b => K ar (exR b))
    (hI : ∀ i a a', i < n → Inv i a → step i a = .inl a' → Inv (i + 1) a')
    (hl : ∀ a N, Inv n a → L (N + 1) (head n a) K = K ax (exN a)) : ∀ k i a, i + k = n → Inv i a → L (k + 1) (head i a) K = match runF step k i a with | .inl a' => K ax (exN a') | .inr b => K ar (exR b) := by
  intro k
  induction k with
  | zero => intro i a h h0; obtain rfl : i = n := by omega
            exact hl a 0 h0
  | succ k ih =>
    intro i a h h0
    rw [hr i a _ (by omega) h0]
    unfold runF
    cases hs : step i a with
    | inl a' => exact ih (i + 1) a' (by omega) (hI i a a' (by omega) h0 hs)
    | inr b => rfl
def openV (d : Ds) (m : Nat) (q : Nat → Int) : Lst := if checkV d ≠ 0 ∨ (m : Int) ≠ d.n then (0, nilI) else foldP d q d.n 0 (0, nilI)
noncomputable def open? : List AV → List Blk → Option Ans
  | [.slc 3 n F, .slc 1 m G], [] => some (lstA (ofDI n F m G fun d q => openV d m q))
  | _, _ => none
def sOP (p : PP) (i : Int) (b : Blk) : St := ⟨[(1, .slc 1 p.2.1 (intsF p.2.2)), (5, .own 704 0), (18, .slc 3 p.1.n (doorsF p.1)), (19, .int .i64 p.1.n), (20, .int .i64 i)], hpP b, 960⟩
def xOP (b : Blk) : St := ⟨[(5, .own 704 0)], hpP b, 960⟩
def decOP (s : St) : PP := (decK 18 s, decNQ 1 s)
noncomputable def loopOP : St → Option LRes := loopG (fun p => sOP p 0 (.nilrow 0)) okPP fP (.exit 0) (fun _ _ => xOP (.nilrow 0)) (.exit 0) (fun _ y => xOP (.row 0 1 y.1 IntT (intsF y.2)))
noncomputable def envOP : Env := { envS (fun f => match f with
  | 10 => check?
  | _ => fun _ _ => none) (fun r => match r with | 5 => some ([1, 5, 18, 19, 20], [5]) | _ => none) with loops := fun r => match r with | 5 => some loopOP | _ => none }
theorem envOP_ok : ∀ f, Tells Try.prog f (envOP.fs f) := by
  intro f
  by_cases h0 : f = 10
  · subst h0; exact tells_check
  have : envOP.fs f = fun _ _ => none := by
    unfold envOP envS
    dsimp only
    split
    · exact absurd rfl h0
    · rfl
  rw [this]
  exact Tells.none_ f
noncomputable def bOP : Code := loopOf 5 Try.f20
noncomputable def eOP : Env := { envOP with nt := 49 }
noncomputable def lOP {R : Type} (N : Nat) (s : St) (K : AX → St → Option R) : Option R := aloop (fun s j => aexec eOP bOP s j) (headOf eOP bOP 960) (exitOf eOP bOP 960) N s K
theorem roundOP0 {R : Type} (p : PP) (i : Nat) (N : Nat) (K : AX → St → Option R) : lOP (N + 1) (sOP p i (.nilrow 0)) K =
    match decide ((i : Int) < p.1.n) with
    | true => (match decide ((0 : Int) ≤ i ∧ (i : Int) < p.1.n) with
      | true => (match p.1.other i != -1 with
        | true => condP p.1 p.2.2 p.2.1 i (lOP N (sOP p (wr ((i : Int) + 1)) (.row 0 1 1 IntT (rowC 1 1 [.int .i64 i]))) K) (lOP N (sOP p (wr ((i : Int) + 1)) (.nilrow 0)) K)
        | false => lOP N (sOP p (wr ((i : Int) + 1)) (.nilrow 0)) K)
      | false => none)
    | false => K (.exit 0) (xOP (.nilrow 0)) := by kernel_rfl
theorem roundOP1 {R : Type} (p : PP) (i k : Nat) (g : Nat → Int) (N : Nat) (K : AX → St → Option R) : lOP (N + 1) (sOP p i (.row 0 1 k IntT (intsF g))) K =
    match decide ((i : Int) < p.1.n) with
    | true => (match decide ((0 : Int) ≤ i ∧ (i : Int) < p.1.n) with
      | true => (match p.1.other i != -1 with
        | true => condP p.1 p.2.2 p.2.1 i (match decide ((k + 1) * 8 ≤ 140737488355328 ∧ k + 1 ≤ 1099511627776) with
          | true => lOP N (sOP p (wr ((i : Int) + 1)) (.row 0 1 (k + 1) IntT fun j => if j < k then intsF g j else rowC 1 1 [.int .i64 i] (j - k))) K
          | false => none) (lOP N (sOP p (wr ((i : Int) + 1)) (.row 0 1 k IntT (intsF g))) K)
        | false => lOP N (sOP p (wr ((i : Int) + 1)) (.row 0 1 k IntT (intsF g))) K)
      | false => none)
    | false => K (.exit 0) (xOP (.row 0 1 k IntT (intsF g))) := by kernel_rfl
theorem roundOP {R : Type} {p : PP} (hp : okPP p) {i : Nat} (hi : i < p.1.n) (a : Lst) (ha : a.1 ≤ i) (N : Nat) (K : AX → St → Option R) : lOP (N + 1) (sOP p i (blkP a)) K = lOP N (sOP p ((i + 1 : Nat) : Int) (blkP (nextP p.1 p.2.2 i a))) K := by
  have h16 := (check_ok hp.2.1).1
  have hw : wr ((i : Int) + 1) = ((i + 1 : Nat) : Int) := wr_ok (by omega) (by omega)
  have hio := ((check_ok hp.2.1).2 i hi).2.2.1
  obtain ⟨k, g⟩ := a
  have ha : k ≤ i := ha
  have ht : p.1.other i ≠ -1 → (p.1.other i != -1) = true := fun h => by
    have := (hio.resolve_left h).2.1
    simp
    omega
  have hf : p.1.other i = -1 → (p.1.other i != -1) = false := fun h => by simp [h]
  cases k with
  | zero =>
    show lOP (N + 1) (sOP p i (.nilrow 0)) K = _
    rw [roundOP0, hw, ixok hi]
    refine kt (decide_eq_true (by omega)) ?_
    by_cases ho : p.1.other i = -1
    · rw [next_none ho]
      exact kf (hf ho) rfl
    · refine kt (ht ho) ?_
      rw [push_nil g]
      exact condP_eq hp hi ho (fun b => lOP N (sOP p ((i + 1 : Nat) : Int) (blkP b)) K) (0, g)
  | succ k =>
    show lOP (N + 1) (sOP p i (.row 0 1 (k + 1) IntT (intsF g))) K = _
    rw [roundOP1, hw, ixok hi, push_row, show decide ((k + 1 + 1) * 8 ≤ 140737488355328 ∧ k + 1 + 1 ≤ 1099511627776) = true from decide_eq_true (by omega)]
    refine kt (decide_eq_true (by omega)) ?_
    by_cases ho : p.1.other i = -1
    · rw [next_none ho]
      exact kf (hf ho) rfl
    · refine kt (ht ho) ?_
      exact condP_eq hp hi ho (fun b => lOP N (sOP p ((i + 1 : Nat) : Int) (blkP b)) K) (k + 1, g)
theorem ltOP : LoopTells eOP bOP loopOP := lt_loopG fun p hp => by
  refine ⟨p.1.n + 1, fun K => ?_⟩
  have key := loop_runI (fun N s K => lOP N s K) (fun i (a : Lst) => sOP p i (blkP a)) (.exit 0) (.exit 0) (fun a => xOP (blkP a)) (fun (_ : Unit) => xOP (.nilrow 0)) (fun i a => .inl (nextP p.1 p.2.2 i a)) (fun i a => a.1 ≤ i) p.1.n K
    (fun i a N hi ha => roundOP hp hi a ha N K) (fun i a a' _ ha e => by
      injection e with e
      subst e
      have := fold_le p.1 p.2.2 1 i a
      exact Nat.le_trans this (Nat.add_le_add_right ha 1)) (fun a N _ => ?_) p.1.n 0 (0, nilI) (Nat.zero_add _) (Nat.le_refl _)
  · rw [runP] at key
    refine key.trans ?_
    show K (.exit 0) (xOP (blkP (foldP p.1 p.2.2 p.1.n 0 (0, nilI)))) = _
    unfold fP blkP
    obtain ⟨k, g⟩ := foldP p.1 p.2.2 p.1.n 0 (0, nilI)
    cases k <;> rfl
  · show lOP _ _ _ = _
    obtain ⟨k, g⟩ := a
    cases k with
    | zero =>
      show lOP (N + 1) (sOP p p.1.n (.nilrow 0)) K = _
      rw [roundOP0]
      exact kf (decide_eq_false (by omega)) rfl
    | succ k =>
      show lOP (N + 1) (sOP p p.1.n (.row 0 1 (k + 1) IntT (intsF g))) K = _
      rw [roundOP1]
      exact kf (decide_eq_false (by omega)) rfl
theorem runOP (d : Ds) (m : Nat) (q : Nat → Int) : arun envOP Try.f20 [.slc 3 d.n (doorsF d), .slc 1 m (intsF q)] [] =
    match ofD d.n (doorsF d) checkV with
    | some z => (match z != 0 with
      | true => nilO
      | false => match (m : Int) != d.n with
        | true => nilO
        | false => match gOf (fun p => sOP p 0 (.nilrow 0)) okPP fP (sOP (d, m, q) 0 (.nilrow 0)) with
          | some (.inl _) => nilO
          | some (.inr y) => rowO y
          | none => none)
    | none => none := by kernel_rfl
attribute [local irreducible] arun in
theorem givesOP (d : Ds) (hd : DB d) (m : Nat) (q : Nat → Int) : Gives1 (arun envOP Try.f20 [.slc 3 d.n (doorsF d), .slc 1 m (intsF q)] []) (openV d m q) := by
  rw [runOP, ofD_eq d _ hd]
  unfold openV
  dsimp only
  by_cases h1 : checkV d = 0
  · rw [show (checkV d != 0) = false by simpa using h1]
    dsimp only
    by_cases h2 : (m : Int) = d.n
    · rw [show ((m : Int) != d.n) = false by simpa using h2, if_neg (by simp [h1, h2])]
      dsimp only
      rw [gOf_eq _ decOP (fun _ => rfl) okPP fP (d, m, q) ⟨hd, h1, h2⟩]
      unfold fP
      dsimp only
      obtain ⟨k, g⟩ := foldP d q d.n 0 (0, nilI)
      cases k with
      | zero => exact gives_nil g
      | succ k => exact gives_row (k + 1, g)
    · rw [show ((m : Int) != d.n) = true by simpa using h2, if_pos (.inr h2)]
      exact gives_nil _
  · rw [show (checkV d != 0) = true by simpa using h1, if_pos (.inl h1)]
    exact gives_nil _
theorem loopsOP : ∀ c, Try.f20.body = some c → LoopsOK { envOP with nt := Try.f20.ntmps } c := by
  intro c hc
  refine loops_of c fun c' hc' f hf => ?_
  have hb : loopsOf c = [bOP] := by
    have : Try.f20.body.map loopsOf = some [bOP] := by kernel_rfl
    rw [hc] at this
    injection this
  rw [hb] at hc'
  obtain rfl := List.mem_singleton.1 hc'
  have h6 : firstReg bOP = 5 := by kernel_rfl
  rw [h6] at hf
  injection hf with hf
  subst hf
  exact ltOP
attribute [local irreducible] arun in
theorem tellsOP : Tells Try.prog 20 open? := by
  refine Tells.lst (arun_tells (E := envOP) rfl Try.pok envOP_ok Try.func20 loopsOP) fun xs ins r h => ?_
  unfold open? at h
  split at h
  · injection h with h
    subst h
    refine ⟨_, rfl, fun z hz => ⟨rfl, ?_⟩⟩
    obtain ⟨d, q, rfl, rfl, hd, hm, rfl, rfl⟩ := ofDI_some hz
    obtain ⟨y, e1, e2⟩ := givesOP d hd _ q
    exact ⟨runAns envOP _ _ _, y, rfl, e1, e2⟩
  · cases h
def sOR (p : PP) (i : Int) (b : Blk) : St := ⟨[(0, .slc 3 p.1.n (doorsF p.1)), (1, .slc 1 p.2.1 (intsF p.2.2)), (5, .own 704 0), (6, .int .i64 i)], hpP b, 832⟩
def xOR (b : Blk) : St := ⟨[(5, .own 704 0)], hpP b, 832⟩
def decOR (s : St) : PP := (decK 0 s, decNQ 1 s)
noncomputable def loopOR : St → Option LRes := loopG (fun p => sOR p 0 (.nilrow 0)) okPP fP (.exit 0) (fun _ _ => xOR (.nilrow 0)) (.exit 0) (fun _ y => xOR (.row 0 1 y.1 IntT (intsF y.2)))
noncomputable def envOR : Env := { envS (fun f => match f with
  | 11 => check?
  | _ => fun _ _ => none) (fun r => match r with | 5 => some ([0, 1, 5, 6], [5]) | _ => none) with loops := fun r => match r with | 5 => some loopOR | _ => none }
theorem envOR_ok : ∀ f, Tells Try.prog f (envOR.fs f) := by
  intro f
  by_cases h0 : f = 11
  · subst h0; exact tells_checkR
  have : envOR.fs f = fun _ _ => none := by
    unfold envOR envS
    dsimp only
    split
    · exact absurd rfl h0
    · rfl
  rw [this]
  exact Tells.none_ f
noncomputable def bOR : Code := loopOf 5 Try.f21
noncomputable def eOR : Env := { envOR with nt := 50 }
noncomputable def lOR {R : Type} (N : Nat) (s : St) (K : AX → St → Option R) : Option R := aloop (fun s j => aexec eOR bOR s j) (headOf eOR bOR 832) (exitOf eOR bOR 832) N s K
theorem roundOR0 {R : Type} (p : PP) (i : Nat) (N : Nat) (K : AX → St → Option R) : lOR (N + 1) (sOR p i (.nilrow 0)) K =
    match decide ((i : Int) < p.1.n) with
    | true => (match decide ((0 : Int) ≤ i ∧ (i : Int) < p.1.n) with
      | true => (match decide (p.1.other i ≥ 0) with
        | true => condP p.1 p.2.2 p.2.1 i (lOR N (sOR p (wr ((i : Int) + 1)) (.row 0 1 1 IntT (rowC 1 1 [.int .i64 i]))) K) (lOR N (sOR p (wr ((i : Int) + 1)) (.nilrow 0)) K)
        | false => lOR N (sOR p (wr ((i : Int) + 1)) (.nilrow 0)) K)
      | false => none)
    | false => K (.exit 0) (xOR (.nilrow 0)) := by kernel_rfl
theorem roundOR1 {R : Type} (p : PP) (i k : Nat) (g : Nat → Int) (N : Nat) (K : AX → St → Option R) : lOR (N + 1) (sOR p i (.row 0 1 k IntT (intsF g))) K =
    match decide ((i : Int) < p.1.n) with
    | true => (match decide ((0 : Int) ≤ i ∧ (i : Int) < p.1.n) with
      | true => (match decide (p.1.other i ≥ 0) with
        | true => condP p.1 p.2.2 p.2.1 i (match decide ((k + 1) * 8 ≤ 140737488355328 ∧ k + 1 ≤ 1099511627776) with
          | true => lOR N (sOR p (wr ((i : Int) + 1)) (.row 0 1 (k + 1) IntT fun j => if j < k then intsF g j else rowC 1 1 [.int .i64 i] (j - k))) K
          | false => none) (lOR N (sOR p (wr ((i : Int) + 1)) (.row 0 1 k IntT (intsF g))) K)
        | false => lOR N (sOR p (wr ((i : Int) + 1)) (.row 0 1 k IntT (intsF g))) K)
      | false => none)
    | false => K (.exit 0) (xOR (.row 0 1 k IntT (intsF g))) := by kernel_rfl
theorem roundOR {R : Type} {p : PP} (hp : okPP p) {i : Nat} (hi : i < p.1.n) (a : Lst) (ha : a.1 ≤ i) (N : Nat) (K : AX → St → Option R) : lOR (N + 1) (sOR p i (blkP a)) K = lOR N (sOR p ((i + 1 : Nat) : Int) (blkP (nextP p.1 p.2.2 i a))) K := by
  have h16 := (check_ok hp.2.1).1
  have hw : wr ((i : Int) + 1) = ((i + 1 : Nat) : Int) := wr_ok (by omega) (by omega)
  have hio := ((check_ok hp.2.1).2 i hi).2.2.1
  obtain ⟨k, g⟩ := a
  have ha : k ≤ i := ha
  have ht : p.1.other i ≠ -1 → (decide (p.1.other i ≥ 0)) = true := fun h => by
    have := (hio.resolve_left h).2.1
    simp
    omega
  have hf : p.1.other i = -1 → (decide (p.1.other i ≥ 0)) = false := fun h => by simp [h]
  cases k with
  | zero =>
    show lOR (N + 1) (sOR p i (.nilrow 0)) K = _
    rw [roundOR0, hw, ixok hi]
    refine kt (decide_eq_true (by omega)) ?_
    by_cases ho : p.1.other i = -1
    · rw [next_none ho]
      exact kf (hf ho) rfl
    · refine kt (ht ho) ?_
      rw [push_nil g]
      exact condP_eq hp hi ho (fun b => lOR N (sOR p ((i + 1 : Nat) : Int) (blkP b)) K) (0, g)
  | succ k =>
    show lOR (N + 1) (sOR p i (.row 0 1 (k + 1) IntT (intsF g))) K = _
    rw [roundOR1, hw, ixok hi, push_row, show decide ((k + 1 + 1) * 8 ≤ 140737488355328 ∧ k + 1 + 1 ≤ 1099511627776) = true from decide_eq_true (by omega)]
    refine kt (decide_eq_true (by omega)) ?_
    by_cases ho : p.1.other i = -1
    · rw [next_none ho]
      exact kf (hf ho) rfl
    · refine kt (ht ho) ?_
      exact condP_eq hp hi ho (fun b => lOR N (sOR p ((i + 1 : Nat) : Int) (blkP b)) K) (k + 1, g)
theorem ltOR : LoopTells eOR bOR loopOR := lt_loopG fun p hp => by
  refine ⟨p.1.n + 1, fun K => ?_⟩
  have key := loop_runI (fun N s K => lOR N s K) (fun i (a : Lst) => sOR p i (blkP a)) (.exit 0) (.exit 0) (fun a => xOR (blkP a)) (fun (_ : Unit) => xOR (.nilrow 0)) (fun i a => .inl (nextP p.1 p.2.2 i a)) (fun i a => a.1 ≤ i) p.1.n K
    (fun i a N hi ha => roundOR hp hi a ha N K) (fun i a a' _ ha e => by
      injection e with e
      subst e
      have := fold_le p.1 p.2.2 1 i a
      exact Nat.le_trans this (Nat.add_le_add_right ha 1)) (fun a N _ => ?_) p.1.n 0 (0, nilI) (Nat.zero_add _) (Nat.le_refl _)
  · rw [runP] at key
    refine key.trans ?_
    show K (.exit 0) (xOR (blkP (foldP p.1 p.2.2 p.1.n 0 (0, nilI)))) = _
    unfold fP blkP
    obtain ⟨k, g⟩ := foldP p.1 p.2.2 p.1.n 0 (0, nilI)
    cases k <;> rfl
  · show lOR _ _ _ = _
    obtain ⟨k, g⟩ := a
    cases k with
    | zero =>
      show lOR (N + 1) (sOR p p.1.n (.nilrow 0)) K = _
      rw [roundOR0]
      exact kf (decide_eq_false (by omega)) rfl
    | succ k =>
      show lOR (N + 1) (sOR p p.1.n (.row 0 1 (k + 1) IntT (intsF g))) K = _
      rw [roundOR1]
      exact kf (decide_eq_false (by omega)) rfl
theorem runOR (d : Ds) (m : Nat) (q : Nat → Int) : arun envOR Try.f21 [.slc 3 d.n (doorsF d), .slc 1 m (intsF q)] [] =
    match ofD d.n (doorsF d) checkV with
    | some z => (match z != 0 with
      | true => nilO
      | false => match (m : Int) != d.n with
        | true => nilO
        | false => match gOf (fun p => sOR p 0 (.nilrow 0)) okPP fP (sOR (d, m, q) 0 (.nilrow 0)) with
          | some (.inl _) => nilO
          | some (.inr y) => rowO y
          | none => none)
    | none => none := by kernel_rfl
attribute [local irreducible] arun in
theorem givesOR (d : Ds) (hd : DB d) (m : Nat) (q : Nat → Int) : Gives1 (arun envOR Try.f21 [.slc 3 d.n (doorsF d), .slc 1 m (intsF q)] []) (openV d m q) := by
  rw [runOR, ofD_eq d _ hd]
  unfold openV
  dsimp only
  by_cases h1 : checkV d = 0
  · rw [show (checkV d != 0) = false by simpa using h1]
    dsimp only
    by_cases h2 : (m : Int) = d.n
    · rw [show ((m : Int) != d.n) = false by simpa using h2, if_neg (by simp [h1, h2])]
      dsimp only
      rw [gOf_eq _ decOR (fun _ => rfl) okPP fP (d, m, q) ⟨hd, h1, h2⟩]
      unfold fP
      dsimp only
      obtain ⟨k, g⟩ := foldP d q d.n 0 (0, nilI)
      cases k with
      | zero => exact gives_nil g
      | succ k => exact gives_row (k + 1, g)
    · rw [show ((m : Int) != d.n) = true by simpa using h2, if_pos (.inr h2)]
      exact gives_nil _
  · rw [show (checkV d != 0) = true by simpa using h1, if_pos (.inl h1)]
    exact gives_nil _
theorem loopsOR : ∀ c, Try.f21.body = some c → LoopsOK { envOR with nt := Try.f21.ntmps } c := by
  intro c hc
  refine loops_of c fun c' hc' f hf => ?_
  have hb : loopsOf c = [bOR] := by
    have : Try.f21.body.map loopsOf = some [bOR] := by kernel_rfl
    rw [hc] at this
    injection this
  rw [hb] at hc'
  obtain rfl := List.mem_singleton.1 hc'
  have h6 : firstReg bOR = 5 := by kernel_rfl
  rw [h6] at hf
  injection hf with hf
  subst hf
  exact ltOR
attribute [local irreducible] arun in
theorem tellsOR : Tells Try.prog 21 open? := by
  refine Tells.lst (arun_tells (E := envOR) rfl Try.pok envOR_ok Try.func21 loopsOR) fun xs ins r h => ?_
  unfold open? at h
  split at h
  · injection h with h
    subst h
    refine ⟨_, rfl, fun z hz => ⟨rfl, ?_⟩⟩
    obtain ⟨d, q, rfl, rfl, hd, hm, rfl, rfl⟩ := ofDI_some hz
    obtain ⟨y, e1, e2⟩ := givesOR d hd _ q
    exact ⟨runAns envOR _ _ _, y, rfl, e1, e2⟩
  · cases h
noncomputable def envOL : Env := envS (fun f => match f with
  | 8 => awake?
  | 9 => doors?
  | 20 => open?
  | 21 => open?
  | 19 => ints?
  | _ => fun _ _ => none)
theorem envOL_ok : ∀ f, Tells Try.prog f (envOL.fs f) := by
  intro f
  by_cases h0 : f = 8
  · subst h0; exact tells_awake8
  by_cases h1 : f = 9
  · subst h1; exact tells_doors
  by_cases h2 : f = 20
  · subst h2; exact tellsOP
  by_cases h3 : f = 21
  · subst h3; exact tellsOR
  by_cases h4 : f = 19
  · subst h4; exact tells_ints
  have : envOL.fs f = fun _ _ => none := by
    unfold envOL envS
    dsimp only
    split
    · exact absurd rfl h0
    · exact absurd rfl h1
    · exact absurd rfl h2
    · exact absurd rfl h3
    · exact absurd rfl h4
    · rfl
  rw [this]
  exact Tells.none_ f
noncomputable def openO (d : Ds) (m : Nat) (G : Nat → List AV) : Option Lst := ofDI d.n (doorsF d) m G fun d q => openV d m q
theorem run_doorOpens (n : Nat) (F : Nat → List AV) (m : Nat) (G : Nat → List AV) (at' by' : Int) : arun envOL Try.f5 [.slc 1 n F, .slc 1 m G, .int .i64 at', .int .i64 by'] [] =
    match doorsG n F at' by' with
    | some x => (match openO x.1 x.2.1 (intsF x.2.2) with
      | some a => (match openO x.1 x.2.1 (intsF x.2.2) with
        | some b => (match intsO a.1 (intsF a.2) b.1 (intsF b.2) with
          | some f => (match f with
            | true => (match openO x.1 m G with
              | some a => (match openO x.1 m G with
                | some b => (match intsO a.1 (intsF a.2) b.1 (intsF b.2) with
                  | some g => (match g with
                    | true => some (.bool true, [])
                    | false => some (.bool false, []))
                  | none => none)
                | none => none)
              | none => none)
            | false => some (.bool false, []))
          | none => none)
        | none => none)
      | none => none)
    | none => none := by kernel_rfl
attribute [local irreducible] arun
theorem openV_len (d : Ds) (m : Nat) (q : Nat → Int) : (openV d m q).1 ≤ lim := by
  unfold openV
  by_cases h : checkV d ≠ 0 ∨ (m : Int) ≠ d.n
  · rw [if_pos h]; exact Nat.zero_le _
  · rw [if_neg h]
    have h1 : checkV d = 0 := by
      by_cases h1 : checkV d = 0
      · exact h1
      · exact absurd (.inl h1) h
    have h16 := (check_ok h1).1
    have := fold_le d q d.n 0 (0, nilI)
    have : (foldP d q d.n 0 (0, nilI)).1 ≤ 0 + d.n := this
    unfold lim
    omega
theorem doorOpens_eq (n : Nat) (b : Nat → Int) (m : Nat) (q : Nat → Int) (hm : m ≤ lim) (at' by' : Int) : arun envOL Try.f5 [.slc 1 n (bytesF b), .slc 1 m (intsF q), .int .i64 at', .int .i64 by'] [] = some (.bool true, []) := by
  obtain ⟨x, e, hx⟩ := doorsG_ex n b at' by'
  have o1 : openO x.1 x.2.1 (intsF x.2.2) = some (openV x.1 x.2.1 x.2.2) := ofDI_eq x.1 _ _ _ hx.db hx.ml
  have o2 : openO x.1 m (intsF q) = some (openV x.1 m q) := ofDI_eq x.1 _ _ _ hx.db hm
  rw [run_doorOpens, e]
  dsimp only
  rw [o1, o2]
  dsimp only
  rw [intsO_self _ (openV_len _ _ _), intsO_self _ (openV_len _ _ _)]
open Go.ChangeShapes Go.WideShapes Go.ChangeAt Go.RowKit Go.Deep Go.Joins
theorem doorOpens_calls (n : Nat) (b : Nat → Int) (m : Nat) (q : Nat → Int) (hm : m ≤ lim) (at' by' : Int) {w : World} {vs : Array Value} (hl : vs.size = 4)
    (hv : ∀ j, j < 4 → ∀ (M : Nat → Prop) (σ : Nat → Value) (V : Nat → Option Nat), (∀ g, ¬ M g) → VR w M σ V ([AV.slc 1 n (bytesF b), .slc 1 m (intsF q), .int .i64 at', .int .i64 by'].getD j .undef) (vs.getD j undef)) : Calls Try.prog 5 vs w fun e w' => e = .returned (.bool true) ∧ Below w.heap.size w w' :=
  law_calls (E := envOL) rfl envOL_ok (fun _ => rfl) Try.func5 (doorOpens_eq n b m q hm at' by') hl hv
end Go.Proofs.Ytegimoedpoemfaa.Ab
