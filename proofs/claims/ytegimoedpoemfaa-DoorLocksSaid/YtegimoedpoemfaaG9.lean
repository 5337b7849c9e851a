/- Stage 8, DoorChecks: doors that come in, and the law, by the plain evaluator. -/
import Derived.Test.YtegimoedpoemfaaG8
import Derived.Test.YtegimoedpoemfaaEo
namespace Go.Proofs.Ytegimoedpoemfaa.Ab
open Go

abbrev WP := Ds × Int × Int × (Nat → List AV)
def decW (s : St) : WP := (decK 14 s, (match aget s.tm 4 with | .int _ x => x | _ => 0), (match aget s.tm 32 with | .int _ x => x | _ => 0), match hget s.hp 960 with | some (.row _ _ _ _ G) => G | _ => fun _ => [])
def okW (p : WP) : Prop := DB p.1
def hpW (p : WP) : List (Nat × Blk) := [(960, .row 0 1 2 23 p.2.2.2)]
def sW (p : WP) (i : Int) : St := ⟨[(4, .int .i64 p.2.1), (14, .slc 3 p.1.n (doorsF p.1)), (15, .int .i64 i), (30, .own 960 0), (31, .int .i64 2), (32, .int .i64 p.2.2.1)], hpW p, 1792⟩
def xW (p : WP) (v : AV) : St := ⟨[(4, .int .i64 p.2.1), (10, v), (30, .own 960 0), (31, .int .i64 2), (32, .int .i64 p.2.2.1)], hpW p, 1792⟩
def fW (_ : WP) : Unit ⊕ Unit := .inl ()
noncomputable def loopW : St → Option LRes := loopG (fun p => sW p 0) okW fW (.exit 2) (fun s _ => xW (decW s) .undef) .ret (fun s _ => xW (decW s) (.bool false))
noncomputable def envW : Env := { envS (fun f => match f with
  | 8 => awake?
  | 9 => doors?
  | 12 => mod?
  | 10 => check?
  | 11 => check?
  | 13 => rest?
  | 14 => rest?
  | _ => fun _ _ => none) (fun r => match r with | 5 => some ([4, 30, 31, 32], [10]) | 10 => some ([4, 14, 15, 30, 31, 32], [4, 10, 30, 31, 32]) | _ => none) 3 with loops := fun r => match r with | 10 => some loopW | _ => none }
theorem envW_ok : ∀ f, Tells Try.prog f (envW.fs f) := by
  intro f
  by_cases h0 : f = 8
  · subst h0; exact tells_awake8
  by_cases h1 : f = 9
  · subst h1; exact tells_doors
  by_cases h2 : f = 12
  · subst h2; exact tells_mod
  by_cases h3 : f = 10
  · subst h3; exact tells_check
  by_cases h4 : f = 11
  · subst h4; exact tells_checkR
  by_cases h5 : f = 13
  · subst h5; exact tells_rest
  by_cases h6 : f = 14
  · subst h6; exact tells_restR
  have : envW.fs f = fun _ _ => none := by
    unfold envW envS
    dsimp only
    split
    · exact absurd rfl h0
    · exact absurd rfl h1
    · exact absurd rfl h2
    · exact absurd rfl h3
    · exact absurd rfl h4
    · exact absurd rfl h5
    · exact absurd rfl h6
    · rfl
  rw [this]
  exact Tells.none_ f
noncomputable def bW : Code := loopOf 10 Try.f3
noncomputable def bW5 : Code := loopOf 5 Try.f3
noncomputable def eW : Env := { envW with nt := 80 }
noncomputable def lW {R : Type} (N : Nat) (s : St) (K : AX → St → Option R) : Option R := aloop (fun s j => aexec eW bW s j) (headOf eW bW 1792) (exitOf eW bW 1792) N s K
noncomputable def restO (d : Ds) (i st : Int) : Option (Int × Int) := ofI (d.len i.toNat) (intsF (d.rest i.toNat)) fun q => restV q (d.len i.toNat) st
def neqS (a b : Int × Int) : Bool := !((a.1 == b.1) && ((a.2 == b.2) && true))
theorem roundW {R : Type} (p : WP) (i : Int) (N : Nat) (K : AX → St → Option R) : lW (N + 1) (sW p i) K =
    match decide (i < p.1.n) with
    | true => (match decide (0 ≤ i ∧ i < p.1.n) with
      | true => (match restO p.1 i p.2.1 with
        | some a => (match decide (0 ≤ i ∧ i < p.1.n) with
          | true => (match restO p.1 i p.2.1 with
            | some b => (match neqS a b with
              | true => K .ret (xW p (.bool false))
              | false => match decide (0 ≤ i ∧ i < p.1.n) with
                | true => (match restO p.1 i (wr (modV p.2.1 9 - 2)) with
                  | some a => (match decide (0 ≤ i ∧ i < p.1.n) with
                    | true => (match restO p.1 i (wr (modV p.2.1 9 - 2)) with
                      | some b => (match neqS a b with
                        | true => K .ret (xW p (.bool false))
                        | false => lW N (sW p (wr (i + 1))) K)
                      | none => none)
                    | false => none)
                  | none => none)
                | false => none)
            | none => none)
          | false => none)
        | none => none)
      | false => none)
    | false => K (.exit 2) (xW p .undef) := by kernel_rfl
theorem neqS_self (a : Int × Int) : neqS a a = false := by simp [neqS]
theorem ltW : LoopTells eW bW loopW := lt_loopG fun p hp => by
  have hd : DB p.1 := hp
  have hl := hd.n
  unfold lim at hl
  refine ⟨p.1.n + 1, fun K => ?_⟩
  have key := loop_run (fun N s K => lW N s K) (fun i (_ : Unit) => sW p i) (.exit 2) .ret (fun _ => xW p .undef) (fun (_ : Unit) => xW p (.bool false)) (fun _ _ => .inl ()) p.1.n K (fun i a N hi => ?_) (fun a N => ?_) p.1.n 0 () (Nat.zero_add _)
  · have e : ∀ k i, runF (fun (_ : Nat) (_ : Unit) => (Sum.inl () : Unit ⊕ Unit)) k i () = .inl () := by
      intro k
      induction k with
      | zero => intro i; rfl
      | succ k ih => intro i; exact ih _
    rw [e] at key
    exact key
  · show lW _ _ _ = _
    rw [roundW, ixok hi]
    refine kt (decide_eq_true (by omega)) ?_
    have e : ∀ st, restO p.1 (i : Int) st = some (restV (p.1.rest i) (p.1.len i) st) := fun st => ofI_eq _ _ (hd.len i hi)
    rw [e, e, wr_ok (x := (i : Int) + 1) (by omega) (by omega)]
    dsimp only
    rw [neqS_self, neqS_self]
    rfl
  · show lW _ _ _ = _
    rw [roundW]
    exact kf (decide_eq_false (by omega)) rfl
def wp (x : Ds) (d : Ds) (st ix : Int) (y : Ds) : WP := (y, st, ix, rowC 1 2 [.slc 3 x.n (doorsF x), .slc 3 d.n (doorsF d)])
theorem run_doorChecks (n : Nat) (F : Nat → List AV) (d : Ds) (at' by' st : Int) : arun envW Try.f3 [.slc 1 n F, .slc 3 d.n (doorsF d), .int .i64 at', .int .i64 by', .int .i64 st] [] =
    match decide ((d.n : Int) > 30) with
    | true => some (.bool true, [])
    | false => match doorsG n F at' by' with
      | some x => (match ofD x.1.n (doorsF x.1) checkV with
        | some a => (match ofD x.1.n (doorsF x.1) checkV with
          | some b => (match a != b with
            | true => some (.bool false, [])
            | false => match gOf (fun p => sW p 0) okW fW (sW (wp x.1 d st 0 x.1) 0) with
              | some (.inl _) => (match ofD d.n (doorsF d) checkV with
                | some a => (match ofD d.n (doorsF d) checkV with
                  | some b => (match a != b with
                    | true => some (.bool false, [])
                    | false => match gOf (fun p => sW p 0) okW fW (sW (wp x.1 d st 1 d) 0) with
                      | some (.inl _) => some (.bool true, [])
                      | some (.inr _) => some (.bool false, [])
                      | none => none)
                  | none => none)
                | none => none)
              | some (.inr _) => some (.bool false, [])
              | none => none)
          | none => none)
        | none => none)
      | none => none := by kernel_rfl
theorem DsOK.db {x : Ds × Nat × (Nat → Int)} (h : DsOK x) : DB x.1 := ⟨by have := h.n; unfold lim; omega, fun k hk => by have := h.len k hk; unfold lim; omega⟩
theorem doorChecks_eq (n : Nat) (b : Nat → Int) (d : Ds) (hd : DB d) (at' by' st : Int) : arun envW Try.f3 [.slc 1 n (bytesF b), .slc 3 d.n (doorsF d), .int .i64 at', .int .i64 by', .int .i64 st] [] = some (.bool true, []) := by
  obtain ⟨x, e, hx⟩ := doorsG_ex n b at' by'
  rw [run_doorChecks, e]
  dsimp only
  rw [ofD_eq x.1 _ hx.db, ofD_eq d _ hd, gOf_eq _ decW (fun _ => rfl) okW fW (wp x.1 d st 0 x.1) hx.db, gOf_eq _ decW (fun _ => rfl) okW fW (wp x.1 d st 1 d) hd]
  dsimp only
  rw [show (checkV x.1 != checkV x.1) = false by simp, show (checkV d != checkV d) = false by simp]
  unfold fW
  dsimp only
  cases decide ((d.n : Int) > 30) <;> rfl
theorem loops_doorChecks : ∀ c, Try.f3.body = some c → LoopsOK { envW with nt := Try.f3.ntmps } c := by
  intro c hc
  refine loops_of c fun c' hc' f hf => ?_
  have hb : loopsOf c = [bW5, bW] := by
    have : Try.f3.body.map loopsOf = some [bW5, bW] := by kernel_rfl
    rw [hc] at this
    injection this
  rw [hb] at hc'
  rcases List.mem_cons.1 hc' with rfl | hc'
  · have h6 : firstReg bW5 = 5 := by kernel_rfl
    rw [h6] at hf
    cases hf
  · obtain rfl := List.mem_singleton.1 hc'
    have h6 : firstReg bW = 10 := by kernel_rfl
    rw [h6] at hf
    injection hf with hf
    subst hf
    exact ltW

/-! ### What comes in -/
open Go.ChangeShapes Go.WideShapes Go.ChangeAt Go.RowKit Go.Deep Go.Joins
attribute [local irreducible] arun in
/-- A law that comes to true, with loops that are told of. -/
theorem law_calls2 {E : Env} (hE : E.tt = ttOf Try.prog) (hfs : ∀ f, Tells Try.prog f (E.fs f)) {f : FuncId} {fn : Func} (hf : Try.prog.funcs[f]? = some fn) (hlo : ∀ c, fn.body = some c → LoopsOK { E with nt := fn.ntmps } c) {xs : List AV} (he : arun E fn xs [] = some (.bool true, [])) {w : World} {vs : Array Value} (hl : vs.size = xs.length)
    (hv : ∀ j, j < xs.length → ∀ (M : Nat → Prop) (σ : Nat → Value) (V : Nat → Option Nat), (∀ g, ¬ M g) → VR w M σ V (xs.getD j .undef) (vs.getD j undef)) : Calls Try.prog f vs w fun e w' => e = .returned (.bool true) ∧ Below w.heap.size w w' :=
  tells_calls (S := fun xs ins => some (runAns E fn xs ins)) (r := runAns E fn xs []) (x := (.bool true, [])) (arun_tells hE Try.pok hfs hf hlo) rfl he rfl hl hv
theorem doorChecks_calls (n : Nat) (b : Nat → Int) (d : Ds) (hd : DB d) (at' by' st : Int) {w : World} {vs : Array Value} (hl : vs.size = 5)
    (hv : ∀ j, j < 5 → ∀ (M : Nat → Prop) (σ : Nat → Value) (V : Nat → Option Nat), (∀ g, ¬ M g) → VR w M σ V ([AV.slc 1 n (bytesF b), .slc 3 d.n (doorsF d), .int .i64 at', .int .i64 by', .int .i64 st].getD j .undef) (vs.getD j undef)) : Calls Try.prog 3 vs w fun e w' => e = .returned (.bool true) ∧ Below w.heap.size w w' :=
  law_calls2 (E := envW) rfl envW_ok Try.func3 loops_doorChecks (doorChecks_eq n b d hd at' by' st) hl hv
theorem Try.cells36 : Try.prog.cellsOf 36 = 3 := by kernel_rfl
theorem Try.cells25 : Try.prog.cellsOf 25 = 1 := by kernel_rfl
theorem list3 {α : Type} {l : List α} (h : l.length = 3) : ∃ a b c, l = [a, b, c] := by
  match l, h with
  | [a, b, c], _ => exact ⟨a, b, c, rfl⟩
section
variable {H : Type} {enc : TypeId × Value → H} {w : World} {base : Nat} {spare : Nat → Bool} {held : Bool}
def intV (a : Int) : List Value := [.int .i64 a]
theorem trod_i64 {n : Nat} {cs : List Value} {x : DataW H × List MemPlace} (h : DataW.trod enc Try.prog w base spare held n 3 cs = some x) : ∃ a : Int, cs = intV a := by
  obtain ⟨a, e, _⟩ := DataW.trod_int Try.underlying3 h
  exact ⟨a, e⟩
theorem pr_ints {M : Nat → Prop} (hM : ∀ g, ¬ M g) {v : Value} {l : List Int} (h : Sl w v 1 l.length (l.flatMap intV)) : PR w M (.slc 1 l.length (intsF fun k => l.getD k 0)) v :=
  pr_of_sl hM intV (fun a : Int => [AV.int .i64 a]) 0 (fun _ => rfl) (fun _ => rfl) (fun a j hj => by
    have hj : j < 1 := hj
    obtain rfl : j = 0 := by omega
    exact ⟨.int _ _, rfl⟩) h
/-- A list of numbers that comes in. -/
theorem open_ints {M : Nat → Prop} (hM : ∀ g, ¬ M g) {v : Value} {d : DataW H} {p : List MemPlace} {a : Option Addr} {len cap : Nat} (hv : v = .slice a len cap) (h : DataW.Trod enc Try.prog w base spare held 25 v d p) : ∃ (n : Nat) (q : Nat → Int), PR w M (.slc 1 n (intsF q)) v := by
  obtain ⟨fuel, hf⟩ := h
  obtain ⟨v', l, hcs, hs⟩ := open_sl intV (sz := 1) Try.underlying25 Try.cells3 (by omega) (fun _ => rfl) trod_i64 hf
  subst hv
  simp [Value.cells] at hcs
  subst hcs
  exact ⟨l.length, _, pr_ints hM hs⟩
/-- A door that comes in, by its cells. -/
structure DoorC (w : World) where
  road : Int
  other : Int
  v : Value
  n : Nat
  q : Nat → Int
  pr : PR w (fun _ => False) (.slc 1 n (intsF q)) v
def doorV' (a : DoorC w) : List Value := [.int .i64 a.road, .int .i64 a.other, a.v]
theorem trod_door {n : Nat} {cs : List Value} {x : DataW H × List MemPlace} (h : DataW.trod enc Try.prog w base spare held n 36 cs = some x) : ∃ a : DoorC w, cs = doorV' a := by
  obtain ⟨xs, n, _, _, hl, hxl, hf⟩ := DataW.trod_struct Try.underlying36 h
  rw [Try.cells36] at hl
  obtain ⟨c0, c1, c2, rfl⟩ := list3 hl
  obtain ⟨y0, y1, y2, rfl⟩ := list3 (show xs.length = 3 from hxl)
  have h0 : DataW.trod enc Try.prog w base spare held n 3 (([c0, c1, c2].drop 0).take (Try.prog.cellsOf 3)) = some y0 := hf 0 _ rfl
  have h1 : DataW.trod enc Try.prog w base spare held n 3 (([c0, c1, c2].drop 1).take (Try.prog.cellsOf 3)) = some y1 := hf 1 _ rfl
  have h2 : DataW.trod enc Try.prog w base spare held n 25 (([c0, c1, c2].drop 2).take (Try.prog.cellsOf 25)) = some y2 := hf 2 _ rfl
  rw [Try.cells3] at h0 h1
  rw [Try.cells25] at h2
  obtain ⟨a0, e0, _⟩ := DataW.trod_int Try.underlying3 h0
  obtain ⟨a1, e1, _⟩ := DataW.trod_int Try.underlying3 h1
  obtain ⟨cv, l, e2, hs⟩ := open_sl intV (sz := 1) Try.underlying25 Try.cells3 (by omega) (fun _ => rfl) trod_i64 h2
  simp at e0 e1 e2
  subst e0 e1 e2
  exact ⟨⟨a0, a1, c2, l.length, _, pr_ints (fun _ h => h) hs⟩, rfl⟩
def doorA (a : DoorC w) : List AV := [.int .i64 a.road, .int .i64 a.other, .slc 1 a.n (intsF a.q)]
theorem maxLen_lim : maxLen = lim := by decide
/-- A list of doors that comes in. -/
theorem open_doors {M : Nat → Prop} (hM : ∀ g, ¬ M g) {v : Value} {d : DataW H} {p : List MemPlace} {a : Option Addr} {len cap : Nat} (hv : v = .slice a len cap) (h : DataW.Trod enc Try.prog w base spare held 23 v d p) : ∃ ds : Ds, DB ds ∧ PR w M (.slc 3 ds.n (doorsF ds)) v := by
  obtain ⟨fuel, hf⟩ := h
  obtain ⟨v', l, hcs, hs⟩ := open_sl (doorV' (w := w)) (sz := 3) Try.underlying23 Try.cells36 (by omega) (fun _ => rfl) trod_door hf
  subst hv
  simp [Value.cells] at hcs
  subst hcs
  let z : DoorC w := ⟨0, 0, .slice none 0 0, 0, fun _ => 0, .slc0 _ _ _ (.inl rfl)⟩
  have key : PR w M (.slc 3 l.length fun k => doorA (l.getD k z)) (.slice a len cap) := pr_of_sl hM doorV' doorA z (fun _ => rfl) (fun _ => rfl) (fun a j hj => by
    match j, hj with
    | 0, _ => exact ⟨.int _ _, rfl⟩
    | 1, _ => exact ⟨.int _ _, rfl⟩
    | 2, _ => exact ⟨a.pr.grow (fun _ _ _ => rfl) (fun g _ hg => hM g hg), (VR.pure (σ := fun _ => undef) (V := fun _ => none) a.pr).one rfl⟩) hs
  refine ⟨⟨l.length, fun k => (l.getD k z).road, fun k => (l.getD k z).other, fun k => (l.getD k z).n, fun k => (l.getD k z).q⟩, ⟨?_, fun k _ => ?_⟩, key⟩
  · obtain ⟨_, cap', _, h1, h2⟩ := key.slc_len
    rw [maxLen_lim] at h2
    exact Nat.le_trans h1 h2
  · obtain ⟨_, cap', _, h1, h2⟩ := (l.getD k z).pr.slc_len
    rw [maxLen_lim] at h2
    exact Nat.le_trans h1 h2
end
end Go.Proofs.Ytegimoedpoemfaa.Ab
