/- Stage 8, DoorShuts, by the plain evaluator. -/
import Derived.Test.YtegimoedpoemfaaGc
namespace Go.Proofs.Ytegimoedpoemfaa.Ab
open Go

abbrev HP := Ds × Int × Int × Int
def decH (s : St) : HP := (decK 5 s, (match aget s.tm 7 with | .int _ x => x | _ => 0), match hget s.hp 3712 with | some (.var [.int _ a, .int _ b]) => (a, b) | _ => (0, 0))
def okH (p : HP) : Prop := DB p.1 ∧ 0 ≤ p.2.1 ∧ p.2.1 < p.1.n ∧ ∀ j, j < p.1.len p.2.1.toNat → p.2.2.1 ≤ p.1.rest p.2.1.toNat j ∧ p.1.rest p.2.1.toNat j ≤ p.2.2.2
def sH (p : HP) (i : Int) : St := ⟨[(5, .slc 3 p.1.n (doorsF p.1)), (7, .int .i64 p.2.1), (10, .ptr 3712 0), (11, .int .i64 i)], [(3712, .var [.int .i64 p.2.2.1, .int .i64 p.2.2.2])], 3904⟩
def xH (p : HP) (v : AV) : St := ⟨[(4, v)], [(3712, .var [.int .i64 p.2.2.1, .int .i64 p.2.2.2])], 3904⟩
noncomputable def loopH : St → Option LRes := loopG (fun p => sH p 0) okH (fun _ => (.inl () : Unit ⊕ Unit)) (.exit 0) (fun s _ => xH (decH s) .undef) .ret (fun s _ => xH (decH s) (.bool false))
noncomputable def envH : Env := { envS (fun f => match f with
  | 8 => awake?
  | 9 => doors?
  | 12 => mod?
  | 11 => check?
  | 15 => cmd?
  | 13 => rest?
  | _ => fun _ _ => none) (fun r => match r with | 10 => some ([5, 7, 10, 11], [4]) | _ => none) with loops := fun r => match r with | 10 => some loopH | _ => none }
theorem envH_ok : ∀ f, Tells Try.prog f (envH.fs f) := by
  intro f
  by_cases h0 : f = 8
  · subst h0; exact tells_awake8
  by_cases h1 : f = 9
  · subst h1; exact tells_doors
  by_cases h2 : f = 12
  · subst h2; exact tells_mod
  by_cases h3 : f = 11
  · subst h3; exact tells_checkR
  by_cases h4 : f = 15
  · subst h4; exact tells_cmd
  by_cases h5 : f = 13
  · subst h5; exact tells_rest
  have : envH.fs f = fun _ _ => none := by
    unfold envH envS
    dsimp only
    split
    · exact absurd rfl h0
    · exact absurd rfl h1
    · exact absurd rfl h2
    · exact absurd rfl h3
    · exact absurd rfl h4
    · exact absurd rfl h5
    · rfl
  rw [this]
  exact Tells.none_ f
noncomputable def bH : Code := loopOf 10 Try.f7
noncomputable def eH : Env := { envH with nt := 115 }
noncomputable def lH {R : Type} (N : Nat) (s : St) (K : AX → St → Option R) : Option R := aloop (fun s j => aexec eH bH s j) (headOf eH bH 3904) (exitOf eH bH 3904) N s K
theorem roundH {R : Type} (p : HP) (i : Int) (N : Nat) (K : AX → St → Option R) : lH (N + 1) (sH p i) K =
    match decide (0 ≤ p.2.1 ∧ p.2.1 < p.1.n) with
    | true => (match decide (i < ((p.1.len p.2.1.toNat : Nat) : Int)) with
      | true => (match decide (0 ≤ p.2.1 ∧ p.2.1 < p.1.n) with
        | true => (match restO p.1 p.2.1 i with
          | some y => (match decide (0 ≤ p.2.1 ∧ p.2.1 < p.1.n) with
            | true => (match decide (0 ≤ i ∧ i < ((p.1.len p.2.1.toNat : Nat) : Int)) with
              | true => (match y.1 != p.1.rest p.2.1.toNat i.toNat with
                | true => K .ret (xH p (.bool false))
                | false => match y.2 != y.1 with
                  | true => K .ret (xH p (.bool false))
                  | false => match decide (p.2.2.1 > y.1) with
                    | true => K .ret (xH p (.bool false))
                    | false => match decide (p.2.2.2 < y.2) with
                      | true => K .ret (xH p (.bool false))
                      | false => lH N (sH p (wr (i + 1))) K)
              | false => none)
            | false => none)
          | none => none)
        | false => none)
      | false => K (.exit 0) (xH p .undef))
    | false => none := by kernel_rfl
theorem ltH : LoopTells eH bH loopH := lt_loopG fun p hp => by
  obtain ⟨hd, k0, k1, hr⟩ := hp
  have hl := hd.len p.2.1.toNat (by omega)
  unfold lim at hl
  refine ⟨p.1.len p.2.1.toNat + 1, fun K => ?_⟩
  have key := loop_run (fun N s K => lH N s K) (fun i (_ : Unit) => sH p i) (.exit 0) .ret (fun _ => xH p .undef) (fun (_ : Unit) => xH p (.bool false)) (fun _ _ => .inl ()) (p.1.len p.2.1.toNat) K (fun i a N hi => ?_) (fun a N => ?_) (p.1.len p.2.1.toNat) 0 () (Nat.zero_add _)
  · rw [run_always] at key
    exact key
  · show lH _ _ _ = _
    have e1 : restO p.1 p.2.1 (i : Int) = some (p.1.rest p.2.1.toNat i, p.1.rest p.2.1.toNat i) := by
      unfold restO
      rw [ofI_eq _ _ (hd.len p.2.1.toNat (by omega))]
      unfold restV
      rw [hasB_iff.2 ⟨Int.natCast_nonneg i, by omega⟩]
      rfl
    rw [roundH, ixok hi, show decide (0 ≤ p.2.1 ∧ p.2.1 < p.1.n) = true from decide_eq_true ⟨k0, k1⟩, e1, wr_ok (by omega) (by omega)]
    refine kt (decide_eq_true (by omega)) ?_
    rw [show ((i : Nat) : Int).toNat = i from rfl]
    have := hr i hi
    dsimp only
    exact kf (by simp) (kf (by simp) (kf (decide_eq_false (by omega)) (kf (decide_eq_false (by omega)) rfl)))
  · show lH _ _ _ = _
    rw [roundH]
    exact kt (decide_eq_true ⟨k0, k1⟩) (kf (decide_eq_false (by omega)) rfl)
theorem run_doorShuts (n : Nat) (F : Nat → List AV) (which : Int) : arun envH Try.f7 [.slc 1 n F, .int .i64 which] [] =
    match doorsG n F 0 0 with
    | some x => (match ofD x.1.n (doorsF x.1) checkV with
      | some z => (match z != 0 with
        | true => some (.bool true, [])
        | false => match (x.1.n : Int) == 0 with
          | true => some (.bool true, [])
          | false => match (x.2.1 : Int) != x.1.n with
            | true => some (.bool true, [])
            | false => match ofDI x.1.n (doorsF x.1) x.2.1 (intsF x.2.2) fun d q => setV true d x.2.1 q (modV which x.1.n) 0 with
              | some a => (match a.2.2 != 0 with
                | true => some (.bool false, [])
                | false => match (a.1 : Int) != x.1.n with
                  | true => some (.bool false, [])
                  | false => match decide (0 ≤ modV which x.1.n ∧ modV which x.1.n < a.1) with
                    | true => (match a.2.1 (modV which x.1.n).toNat != 0 with
                      | true => some (.bool false, [])
                      | false => match decide (0 ≤ modV which x.1.n ∧ modV which x.1.n < x.1.n) with
                        | true => (match restO x.1 (modV which x.1.n) (-1) with
                          | some y => (match gOf (fun p => sH p 0) okH (fun _ => (.inl () : Unit ⊕ Unit)) (sH (x.1, modV which x.1.n, y) 0) with
                            | some (.inl _) => some (.bool true, [])
                            | some (.inr _) => some (.bool false, [])
                            | none => none)
                          | none => none)
                        | false => none)
                    | false => none)
              | none => none)
      | none => none)
    | none => none := by kernel_rfl
attribute [local irreducible] arun
theorem fold_min (q : Nat → Int) : ∀ k i a, foldI minI q k i a ≤ a ∧ ∀ j, i ≤ j → j < i + k → foldI minI q k i a ≤ q j := by
  intro k
  induction k with
  | zero => intro i a; exact ⟨Int.le_refl _, fun j h1 h2 => by omega⟩
  | succ k ih =>
    intro i a
    obtain ⟨h1, h2⟩ := ih (i + 1) (minI a (q i))
    have h3 : minI a (q i) ≤ a ∧ minI a (q i) ≤ q i := by unfold minI; split <;> omega
    show foldI minI q k (i + 1) (minI a (q i)) ≤ a ∧ _
    refine ⟨by omega, fun j h4 h5 => ?_⟩
    show foldI minI q k (i + 1) (minI a (q i)) ≤ q j
    by_cases hj : j = i
    · subst hj; omega
    · exact h2 j (by omega) (by omega)
theorem fold_max (q : Nat → Int) : ∀ k i a, a ≤ foldI maxI q k i a ∧ ∀ j, i ≤ j → j < i + k → q j ≤ foldI maxI q k i a := by
  intro k
  induction k with
  | zero => intro i a; exact ⟨Int.le_refl _, fun j h1 h2 => by omega⟩
  | succ k ih =>
    intro i a
    obtain ⟨h1, h2⟩ := ih (i + 1) (maxI a (q i))
    have h3 : a ≤ maxI a (q i) ∧ q i ≤ maxI a (q i) := by unfold maxI; split <;> omega
    show a ≤ foldI maxI q k (i + 1) (maxI a (q i)) ∧ _
    refine ⟨by omega, fun j h4 h5 => ?_⟩
    show q j ≤ foldI maxI q k (i + 1) (maxI a (q i))
    by_cases hj : j = i
    · subst hj; omega
    · exact h2 j (by omega) (by omega)
theorem rest_all (q : Nat → Int) (m : Nat) : ∀ j, j < m → (restV q m (-1)).1 ≤ q j ∧ q j ≤ (restV q m (-1)).2 := by
  intro j hj
  unfold restV
  rw [hasB_false (by omega : ¬ (0 ≤ (-1 : Int) ∧ (-1 : Int) < m)), show decide ((m : Int) > 0) = true from decide_eq_true (by omega)]
  show foldI minI q (m - 1) 1 (q 0) ≤ q j ∧ q j ≤ foldI maxI q (m - 1) 1 (q 0)
  have h1 := fold_min q (m - 1) 1 (q 0)
  have h2 := fold_max q (m - 1) 1 (q 0)
  by_cases h0 : j = 0
  · subst h0; exact ⟨h1.1, h2.1⟩
  · exact ⟨h1.2 j (by omega) (by omega), h2.2 j (by omega) (by omega)⟩
theorem doorShuts_eq (n : Nat) (b : Nat → Int) (which : Int) : arun envH Try.f7 [.slc 1 n (bytesF b), .int .i64 which] [] = some (.bool true, []) := by
  obtain ⟨x, e, hx⟩ := doorsG_ex n b 0 0
  rw [run_doorShuts, e]
  dsimp only
  rw [ofD_eq x.1 _ hx.db]
  dsimp only
  by_cases h1 : checkV x.1 = 0
  · rw [show (checkV x.1 != 0) = false by simpa using h1]
    dsimp only
    by_cases h2 : x.1.n = 0
    · exact kt (by simp [h2]) rfl
    · refine kf (by simp [h2]) ?_
      by_cases h3 : (x.2.1 : Int) = x.1.n
      · refine kf (by simpa using h3) ?_
        have hk := modV_range (k := which) (n := (x.1.n : Int)) (by omega) (by have := hx.n; omega)
        have ck := (check_ok h1).2 (modV which x.1.n).toNat (by omega)
        have hset : setV true x.1 x.2.1 x.2.2 (modV which x.1.n) 0 = (x.2.1, setI x.2.2 (modV which x.1.n).toNat 0, 0) := by
          unfold setV
          rw [if_neg (by simpa using h1), if_neg (by simpa using h3), if_neg (by simpa using hk), if_neg (fun h => h (.inl ⟨Int.le_refl _, by omega⟩)), if_neg (fun h => h.2.1 rfl)]
        rw [ofDI_eq x.1 _ _ _ hx.db hx.ml, hset]
        dsimp only
        rw [show ((0 : Int) != 0) = false from rfl, show ((x.2.1 : Int) != x.1.n) = false by simpa using h3, show decide (0 ≤ modV which x.1.n ∧ modV which x.1.n < (x.2.1 : Int)) = true from decide_eq_true ⟨hk.1, by omega⟩, show (setI x.2.2 (modV which x.1.n).toNat 0 (modV which x.1.n).toNat != 0) = false by simp [setI], show decide (0 ≤ modV which x.1.n ∧ modV which x.1.n < (x.1.n : Int)) = true from decide_eq_true hk]
        dsimp only
        have e1 : restO x.1 (modV which x.1.n) (-1) = some (restV (x.1.rest (modV which x.1.n).toNat) (x.1.len (modV which x.1.n).toNat) (-1)) := ofI_eq _ _ (hx.db.len _ (by omega))
        rw [e1]
        dsimp only
        rw [gOf_eq _ decH (fun _ => rfl) okH _ (x.1, modV which x.1.n, restV (x.1.rest (modV which x.1.n).toNat) (x.1.len (modV which x.1.n).toNat) (-1)) ⟨hx.db, hk.1, hk.2, fun j hj => rest_all _ _ j hj⟩]
      · exact kt (by simpa using h3) rfl
  · rw [show (checkV x.1 != 0) = true by simpa using h1]
theorem loops_doorShuts : ∀ c, Try.f7.body = some c → LoopsOK { envH with nt := Try.f7.ntmps } c := by
  intro c hc
  refine loops_of c fun c' hc' f hf => ?_
  have hb : loopsOf c = [bH] := by
    have : Try.f7.body.map loopsOf = some [bH] := by kernel_rfl
    rw [hc] at this
    injection this
  rw [hb] at hc'
  obtain rfl := List.mem_singleton.1 hc'
  have h6 : firstReg bH = 10 := by kernel_rfl
  rw [h6] at hf
  injection hf with hf
  subst hf
  exact ltH
open Go.ChangeShapes Go.WideShapes Go.ChangeAt Go.RowKit Go.Deep Go.Joins
theorem doorShuts_calls (n : Nat) (b : Nat → Int) (which : Int) {w : World} {vs : Array Value} (hl : vs.size = 2)
    (hv : ∀ j, j < 2 → ∀ (M : Nat → Prop) (σ : Nat → Value) (V : Nat → Option Nat), (∀ g, ¬ M g) → VR w M σ V ([AV.slc 1 n (bytesF b), .int .i64 which].getD j .undef) (vs.getD j undef)) : Calls Try.prog 7 vs w fun e w' => e = .returned (.bool true) ∧ Below w.heap.size w w' :=
  law_calls2 (E := envH) rfl envH_ok Try.func7 loops_doorShuts (doorShuts_eq n b which) hl hv
end Go.Proofs.Ytegimoedpoemfaa.Ab
