/- Stage 8, DoorLocks, by the plain evaluator. -/
import Derived.Test.YtegimoedpoemfaaGd
namespace Go.Proofs.Ytegimoedpoemfaa.Ab
open Go

def u16F (q : Nat → Int) (k : Nat) : List AV := [.int .u16 (q k)]
def sT (p : PP) (i : Int) (a : Lst) : St := ⟨[(1, .slc 1 p.2.1 (u16F p.2.2)), (5, .slc 3 p.1.n (doorsF p.1)), (7, .slc 1 a.1 (intsF a.2)), (8, .int .i64 i)], [], 1344⟩
def xT (v : AV) : St := ⟨[(4, v)], [], 1344⟩
def decT (s : St) : PP := (decK 5 s, match aget s.tm 1 with | .slc _ n F => (n, fun k => match F k with | [.int _ z] => z | _ => 0) | _ => (0, fun _ => 0))
def okT (p : PP) : Prop := DB p.1 ∧ checkV p.1 = 0 ∧ p.2.1 ≤ 60
def zeroI : Nat → Int := fun _ => 0
noncomputable def loopT : St → Option LRes := loopG (fun p : PP => sT p 0 (p.1.n, zeroI)) okT (fun _ => (.inl () : Unit ⊕ Unit)) (.exit 0) (fun _ _ => xT .undef) .ret (fun _ _ => xT (.bool false))
noncomputable def envT : Env := { envS (fun f => match f with
  | 8 => awake?
  | 9 => doors?
  | 11 => check?
  | 15 => cmd?
  | 20 => open?
  | _ => fun _ _ => none) (fun r => match r with | 6 => some ([1, 5, 7, 8], [4]) | 1000000 => some ([], []) | _ => none) with loops := fun r => match r with | 6 => some loopT | _ => none }
theorem envT_ok : ∀ f, Tells Try.prog f (envT.fs f) := by
  intro f
  by_cases h0 : f = 8
  · subst h0; exact tells_awake8
  by_cases h1 : f = 9
  · subst h1; exact tells_doors
  by_cases h2 : f = 11
  · subst h2; exact tells_checkR
  by_cases h3 : f = 15
  · subst h3; exact tells_cmd
  by_cases h4 : f = 20
  · subst h4; exact tellsOP
  have : envT.fs f = fun _ _ => none := by
    unfold envT envS
    dsimp only
    split
    · exact absurd rfl h0
    · exact absurd rfl h1
    · exact absurd rfl h2
    · exact absurd rfl h3
    · exact absurd rfl h4
    · rfl
  rw [this]
  exact Tells.none_ f
noncomputable def bT : Code := loopOf 6 Try.f6
noncomputable def eT : Env := { envT with nt := 70 }
noncomputable def lT {R : Type} (N : Nat) (s : St) (K : AX → St → Option R) : Option R := aloop (fun s j => aexec eT bT s j) (headOf eT bT 1344) (exitOf eT bT 1344) N s K
def ordD (q : Nat → Int) (i : Nat) : Int := wr ((q i).tmod 8)
def ordS (q : Nat → Int) (i : Nat) : Int := wr (wr ((IntKind.u16.wrap ((q i).tdiv 8)).tmod 7) - 1)
noncomputable def cmdO (d : Ds) (m : Nat) (G : Nat → List AV) (w k : Int) : Option Tri := ofDI d.n (doorsF d) m G fun d q => setV true d m q w k
theorem roundT {R : Type} (p : PP) (i : Nat) (a : Lst) (N : Nat) (K : AX → St → Option R) : lT (N + 1) (sT p i a) K =
    match decide ((i : Int) < p.2.1) with
    | true => (match decide ((0 : Int) ≤ i ∧ (i : Int) < p.2.1) with
      | true => (match decide ((0 : Int) ≤ i ∧ (i : Int) < p.2.1) with
        | true => (match cmdO p.1 a.1 (intsF a.2) (ordD p.2.2 i) (ordS p.2.2 i) with
          | some x => (match x.2.2 != 0 with
            | true => lT N (sT p (wr ((i : Int) + 1)) a) K
            | false => match (x.1 : Int) != p.1.n with
              | true => K .ret (xT (.bool false))
              | false => match openO p.1 x.1 (intsF x.2.1) with
                | some y => (match decide ((y.1 : Int) > 0) with
                  | true => K .ret (xT (.bool false))
                  | false => lT N (sT p (wr ((i : Int) + 1)) (x.1, x.2.1)) K)
                | none => none)
          | none => none)
        | false => none)
      | false => none)
    | false => K (.exit 0) (xT .undef) := by kernel_rfl
/-- No double door has both its doors open. -/
def Safe (d : Ds) (g : Nat → Int) : Prop := ∀ j, j < d.n → d.other j ≠ -1 → g j = 0 ∨ g (d.other j).toNat = 0
theorem safe_set {d : Ds} (hc : checkV d = 0) {g : Nat → Int} (hs : Safe d g) {w st : Int} (hn : ¬ (st ≠ 0 ∧ d.other w.toNat ≠ -1 ∧ g (d.other w.toNat).toNat ≠ 0)) : Safe d (setI g w.toNat st) := by
  intro j hj ho
  have ck := check_ok hc
  obtain ⟨o0, o1, o2, o3⟩ := (ck.2 j hj).2.2.1.resolve_left ho
  unfold setI
  by_cases hjw : j = w.toNat
  · by_cases hst : st = 0
    · left; rw [if_pos hjw]; exact hst
    · right
      have : ¬ ((d.other j).toNat = w.toNat) := by omega
      rw [if_neg this]
      by_cases h0 : g (d.other w.toNat).toNat = 0
      · rw [hjw]; exact h0
      · exact absurd ⟨hst, by rw [← hjw]; exact ho, h0⟩ hn
  · by_cases how : (d.other j).toNat = w.toNat
    · by_cases hst : st = 0
      · right; rw [if_pos how]; exact hst
      · left
        rw [if_neg hjw]
        have e : d.other w.toNat = (j : Int) := by rw [← how]; exact o3
        by_cases h0 : g (d.other w.toNat).toNat = 0
        · rw [e] at h0; exact h0
        · exact absurd ⟨hst, by omega, h0⟩ hn
    · rw [if_neg hjw, if_neg how]
      exact hs j hj ho
theorem fold_safe {d : Ds} {g : Nat → Int} (hs : Safe d g) : ∀ k i a, i + k ≤ d.n → foldP d g k i a = a := by
  intro k
  induction k with
  | zero => intro i a _; rfl
  | succ k ih =>
    intro i a h
    have e : nextP d g i a = a := by
      unfold nextP
      by_cases ho : d.other i = -1
      · rw [show (d.other i != -1) = false by simpa using ho]
      · rw [show (d.other i != -1) = true by simpa using ho]
        dsimp only
        rcases hs i (by omega) ho with h0 | h0
        · rw [show (g i != 0) = false by simpa using h0]
        · rw [show (g (d.other i).toNat != 0) = false by simpa using h0]
          cases g i != 0 <;> rfl
    show foldP d g k (i + 1) (nextP d g i a) = a
    rw [e]
    exact ih (i + 1) a (by omega)
def nextT (p : PP) (i : Nat) (a : Lst) : Lst := match (setV true p.1 a.1 a.2 (ordD p.2.2 i) (ordS p.2.2 i)).2.2 != 0 with
  | true => a
  | false => ((setV true p.1 a.1 a.2 (ordD p.2.2 i) (ordS p.2.2 i)).1, (setV true p.1 a.1 a.2 (ordD p.2.2 i) (ordS p.2.2 i)).2.1)
def InvT (p : PP) (a : Lst) : Prop := a.1 = p.1.n ∧ Safe p.1 a.2
theorem invT_next {p : PP} (hp : okT p) (i : Nat) {a : Lst} (ha : InvT p a) : InvT p (nextT p i a) := by
  obtain ⟨_, hc, _⟩ := hp
  obtain ⟨h1, h2⟩ := ha
  unfold nextT
  generalize ordD p.2.2 i = w
  generalize ordS p.2.2 i = k
  have key : (setV true p.1 a.1 a.2 w k).2.2 ≠ 0 ∨ ((0 ≤ w ∧ w < p.1.n) ∧ ¬ (k ≠ 0 ∧ p.1.other w.toNat ≠ -1 ∧ a.2 (p.1.other w.toNat).toNat ≠ 0) ∧ setV true p.1 a.1 a.2 w k = (a.1, setI a.2 w.toNat k, 0)) := by
    unfold setV
    rw [if_neg (by simpa using hc)]
    split
    · left; simp
    · split
      · left; simp
      · split
        · left; simp
        · split
          · left; simp
          · rename_i q1 q2 q3 q4
            refine .inr ⟨by omega, fun h => q4 ⟨rfl, h⟩, rfl⟩
  rcases key with h | ⟨_, h4, h5⟩
  · rw [show ((setV true p.1 a.1 a.2 w k).2.2 != 0) = true by simpa using h]
    exact ⟨h1, h2⟩
  · rw [h5]
    exact ⟨h1, safe_set hc h2 h4⟩
theorem stepT_eq {p : PP} (hp : okT p) {i : Nat} (hi : i < p.2.1) {a : Lst} (ha : InvT p a) {R : Type} (N : Nat) (K : AX → St → Option R) : lT (N + 1) (sT p i a) K = lT N (sT p ((i + 1 : Nat) : Int) (nextT p i a)) K := by
  obtain ⟨hd, hc, h60⟩ := hp
  have hw : wr ((i : Int) + 1) = ((i + 1 : Nat) : Int) := wr_ok (by omega) (by omega)
  have hm : a.1 ≤ lim := by rw [ha.1]; exact hd.n
  have e1 : cmdO p.1 a.1 (intsF a.2) (ordD p.2.2 i) (ordS p.2.2 i) = some (setV true p.1 a.1 a.2 (ordD p.2.2 i) (ordS p.2.2 i)) := ofDI_eq p.1 _ _ _ hd hm
  have inv := invT_next ⟨hd, hc, h60⟩ i ha
  rw [roundT, ixok hi, hw, e1]
  refine kt (decide_eq_true (by omega)) ?_
  unfold nextT at inv ⊢
  generalize setV true p.1 a.1 a.2 (ordD p.2.2 i) (ordS p.2.2 i) = x at inv ⊢
  dsimp only
  cases hx : x.2.2 != 0 with
  | true => rfl
  | false =>
    rw [hx] at inv
    obtain ⟨i1, i2⟩ := inv
    have i1 : x.1 = p.1.n := i1
    dsimp only
    refine kf (by simp [i1]) ?_
    have e2 : openO p.1 x.1 (intsF x.2.1) = some (openV p.1 x.1 x.2.1) := ofDI_eq p.1 _ _ _ hd (by rw [i1]; exact hd.n)
    have e3 : openV p.1 x.1 x.2.1 = (0, nilI) := by
      unfold openV
      rw [if_neg (by simp [hc, i1])]
      exact fold_safe i2 p.1.n 0 _ (by omega)
    rw [e2, e3]
    rfl
theorem ltT : LoopTells eT bT loopT := lt_loopG fun p hp => by
  refine ⟨p.2.1 + 1, fun K => ?_⟩
  have key := loop_runI (fun N s K => lT N s K) (fun i (a : Lst) => sT p i a) (.exit 0) .ret (fun _ => xT .undef) (fun (_ : Unit) => xT (.bool false)) (fun i a => .inl (nextT p i a)) (fun _ a => InvT p a) p.2.1 K
    (fun i a N hi ha => stepT_eq hp hi ha N K) (fun i a a' _ ha e => by
      injection e with e
      subst e
      exact invT_next hp i ha) (fun a N _ => ?_) p.2.1 0 (p.1.n, zeroI) (Nat.zero_add _) ⟨rfl, fun j _ _ => .inl rfl⟩
  · have e : ∀ k i a, ∃ a', runF (fun i a => (.inl (nextT p i a) : Lst ⊕ Unit)) k i a = .inl a' := by
      intro k
      induction k with
      | zero => intro i a; exact ⟨a, rfl⟩
      | succ k ih => intro i a; exact ih (i + 1) _
    obtain ⟨a', ha'⟩ := e p.2.1 0 (p.1.n, zeroI)
    rw [ha'] at key
    exact key
  · show lT _ _ _ = _
    rw [roundT]
    exact kf (decide_eq_false (by omega)) rfl
theorem run_doorLocks (n : Nat) (F : Nat → List AV) (no : Nat) (q : Nat → Int) : arun envT Try.f6 [.slc 1 n F, .slc 1 no (u16F q)] [] =
    match doorsG n F 0 0 with
    | some x => (match ofD x.1.n (doorsF x.1) checkV with
      | some z => (match z != 0 with
        | true => some (.bool true, [])
        | false => match decide ((no : Int) > 60) with
          | true => some (.bool true, [])
          | false => match decide (0 ≤ (x.1.n : Int) ∧ (x.1.n : Int) ≤ x.1.n ∧ (x.1.n : Int) * ((8 : Nat) : Int) ≤ 140737488355328 ∧ (x.1.n : Int) ≤ 1099511627776) with
            | true => (match gOf (fun p : PP => sT p 0 (p.1.n, zeroI)) okT (fun _ => (.inl () : Unit ⊕ Unit)) (sT (x.1, no, q) 0 (x.1.n, zeroI)) with
              | some (.inl _) => some (.bool true, [])
              | some (.inr _) => some (.bool false, [])
              | none => none)
            | false => none)
      | none => none)
    | none => none := by kernel_rfl
attribute [local irreducible] arun
theorem doorLocks_eq (n : Nat) (b : Nat → Int) (no : Nat) (q : Nat → Int) : arun envT Try.f6 [.slc 1 n (bytesF b), .slc 1 no (u16F q)] [] = some (.bool true, []) := by
  obtain ⟨x, e, hx⟩ := doorsG_ex n b 0 0
  rw [run_doorLocks, e]
  dsimp only
  rw [ofD_eq x.1 _ hx.db]
  dsimp only
  by_cases h1 : checkV x.1 = 0
  · refine kf (by simpa using h1) ?_
    by_cases h2 : (no : Int) > 60
    · exact kt (decide_eq_true h2) rfl
    · have := hx.n
      refine kf (decide_eq_false h2) (kt (decide_eq_true ⟨by omega, by omega, by omega, by omega⟩) ?_)
      rw [gOf_eq (fun p : PP => sT p 0 (p.1.n, zeroI)) decT (fun _ => rfl) okT _ (x.1, no, q) ⟨hx.db, h1, (by show no ≤ 60; omega)⟩]
  · exact kt (by simpa using h1) rfl
theorem loops_doorLocks : ∀ c, Try.f6.body = some c → LoopsOK { envT with nt := Try.f6.ntmps } c := by
  intro c hc
  refine loops_of c fun c' hc' f hf => ?_
  have hb : loopsOf c = [bT] := by
    have : Try.f6.body.map loopsOf = some [bT] := by kernel_rfl
    rw [hc] at this
    injection this
  rw [hb] at hc'
  obtain rfl := List.mem_singleton.1 hc'
  have h6 : firstReg bT = 6 := by kernel_rfl
  rw [h6] at hf
  injection hf with hf
  subst hf
  exact ltT
open Go.ChangeShapes Go.WideShapes Go.ChangeAt Go.RowKit Go.Deep Go.Joins
theorem doorLocks_calls (n : Nat) (b : Nat → Int) (no : Nat) (q : Nat → Int) (_ : no ≤ lim) {w : World} {vs : Array Value} (hl : vs.size = 2)
    (hv : ∀ j, j < 2 → ∀ (M : Nat → Prop) (σ : Nat → Value) (V : Nat → Option Nat), (∀ g, ¬ M g) → VR w M σ V ([AV.slc 1 n (bytesF b), .slc 1 no (u16F q)].getD j .undef) (vs.getD j undef)) : Calls Try.prog 6 vs w fun e w' => e = .returned (.bool true) ∧ Below w.heap.size w w' :=
  law_calls2 (E := envT) rfl envT_ok Try.func6 loops_doorLocks (doorLocks_eq n b no q) hl hv
theorem Try.cells46 : Try.prog.cellsOf 46 = 1 := by kernel_rfl
section
variable {H : Type} {enc : TypeId × Value → H} {w : World} {base : Nat} {spare : Nat → Bool} {held : Bool}
def u16V (a : Int) : List Value := [.int .u16 a]
theorem trod_u16 {n : Nat} {cs : List Value} {x : DataW H × List MemPlace} (h : DataW.trod enc Try.prog w base spare held n 46 cs = some x) : ∃ a : Int, cs = u16V a := by
  obtain ⟨a, e, _⟩ := DataW.trod_int Try.underlying46 h
  exact ⟨a, e⟩
/-- A list of small numbers that comes in. -/
theorem open_u16s {M : Nat → Prop} (hM : ∀ g, ¬ M g) {v : Value} {d : DataW H} {p : List MemPlace} {a : Option Addr} {len cap : Nat} (hv : v = .slice a len cap) (h : DataW.Trod enc Try.prog w base spare held 45 v d p) : ∃ (n : Nat) (q : Nat → Int), PR w M (.slc 1 n (u16F q)) v := by
  obtain ⟨fuel, hf⟩ := h
  obtain ⟨v', l, hcs, hs⟩ := open_sl u16V (sz := 1) Try.underlying45 Try.cells46 (by omega) (fun _ => rfl) trod_u16 hf
  subst hv
  simp [Value.cells] at hcs
  subst hcs
  exact ⟨l.length, fun k => l.getD k 0, pr_of_sl hM u16V (fun a : Int => [AV.int .u16 a]) 0 (fun _ => rfl) (fun _ => rfl) (fun a j hj => by
    have hj : j < 1 := hj
    obtain rfl : j = 0 := by omega
    exact ⟨.int _ _, rfl⟩) hs⟩
end
end Go.Proofs.Ytegimoedpoemfaa.Ab
