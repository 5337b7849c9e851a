/- Stage 7, the law FanChecks, by the plain evaluator; fans that come in. -/
import Derived.Test.YtombbbbgkjapcaaE9
import Derived.Test.YtombbbbgkjapcaaEo
namespace Go.Proofs.Ytombbbbgkjapcaa.Ab
open Go

theorem ptsF_set0 (p : Nat → Int × Int) (j : Nat) (v : Int) : (fun i => if i = j then setAt (ptsF p j) 0 [.int .i64 v] else ptsF p i) = ptsF fun i => if i = j then (v, (p i).2) else p i := by
  funext i
  unfold ptsF
  by_cases h : i = j
  · subst h; simp [setAt]
  · simp [h]
theorem ptsF_set1 (p : Nat → Int × Int) (j : Nat) (v : Int) : (fun i => if i = j then setAt (ptsF p j) 1 [.int .i64 v] else ptsF p i) = ptsF fun i => if i = j then ((p i).1, v) else p i := by
  funext i
  unfold ptsF
  by_cases h : i = j
  · subst h; simp [setAt]
  · simp [h]
theorem ptsF_app (p : Nat → Int × Int) (k : Nat) : (fun j => if j < k then ptsF p j else ptsF p (j - k)) = ptsF fun j => if j < k then p j else p (j - k) := by
  funext i
  unfold ptsF
  by_cases h : i < k <;> simp [h]
attribute [local irreducible] arun
/-- What is told of a drawn fan: one to eight points. -/
structure MadeOK (f : Fn7) : Prop where
  aux : f.aux = false
  lo : 1 ≤ f.n
  hi : f.n ≤ 8
theorem made_ex (n : Nat) (b : Nat → Int) (at_ by_ : Int) : ∃ f : Fn7, MadeOK f ∧ arun envM Try.f9 [.slc 1 n (bytesF b), .int .i64 at_, .int .i64 by_] [] = madeR f.road f.back f.n (ptsF f.p) := by
  have hn : cutN n ≤ 300 := (cut300_ok n).2.2
  obtain ⟨r, a1, e1, q1⟩ := nextG_ex (cutN n) b 0 3 hn (by omega) (by omega)
  obtain ⟨bk, a2, e2, q2, q3⟩ := oneG_ex (cutN n) b a1 2 hn q1.lo q1.hi
  obtain ⟨k, p, a3, e3, k1, k2, q4, q5⟩ := curveG_ex (cutN n) b a2 hn q2 q3
  obtain ⟨t, a4, e4, _⟩ := nextG_ex (cutN n) b a3 8 hn q4 q5
  have hm := modV_range (k := at_) (n := (k : Int)) (by omega) (by omega)
  rw [run_made, e1]
  dsimp only
  rw [e2]
  dsimp only
  rw [e3]
  dsimp only
  rw [e4]
  dsimp only
  rw [ptsF_set0, ptsF_set1, ptsF_app, show decide (0 ≤ modV at_ (k : Int) ∧ modV at_ (k : Int) < (k : Int)) = true from decide_eq_true hm, show decide ((k + k) * 16 ≤ 140737488355328 ∧ k + k ≤ 1099511627776) = true from decide_eq_true (by omega)]
  dsimp only
  cases c1 : (t == 1) with
  | true => exact ⟨⟨r, bk, false, k, _⟩, ⟨rfl, k1, by dsimp only; omega⟩, rfl⟩
  | false =>
    dsimp only
    cases c2 : (t == 2) with
    | true => exact ⟨⟨r, bk, false, k, _⟩, ⟨rfl, k1, by dsimp only; omega⟩, rfl⟩
    | false =>
      dsimp only
      cases c3 : (t == 3) with
      | true => exact ⟨⟨by_, bk, false, k, _⟩, ⟨rfl, k1, by dsimp only; omega⟩, rfl⟩
      | false =>
        dsimp only
        cases c4 : (t == 4) with
        | true => exact ⟨⟨r, bk, false, k + k, _⟩, ⟨rfl, by dsimp only; omega, by dsimp only; omega⟩, rfl⟩
        | false => exact ⟨⟨r, bk, false, k, _⟩, ⟨rfl, k1, by dsimp only; omega⟩, rfl⟩
noncomputable def madeG (n : Nat) (F : Nat → List AV) (at_ by_ : Int) : Option Fn7 :=
  theOne fun f => MadeOK f ∧ arun envM Try.f9 [.slc 1 n F, .int .i64 at_, .int .i64 by_] [] = madeR f.road f.back f.n (ptsF f.p)
theorem madeG_ex (n : Nat) (b : Nat → Int) (at_ by_ : Int) : ∃ f, madeG n (bytesF b) at_ by_ = some f ∧ MadeOK f := by
  obtain ⟨f, h, h2, _⟩ := theOne_some (made_ex n b at_ by_)
  exact ⟨f, h, h2⟩
noncomputable def made? : List AV → List Blk → Option Ans
  | [.slc 1 n F, .int .i64 at_, .int .i64 by_], [] => some ⟨⟨Fn7, madeG n F at_ by_, fun f => .agg [.int .i64 f.road, .bool f.back, .bool false, .own 0 0], fun f => [.row 0 2 f.n 42 (ptsF f.p)]⟩, fun _ => true, fun f _ => ⟨rfl, fun b hb => by
      obtain rfl := List.mem_singleton.1 hb
      exact fun _ _ => rfl⟩⟩
  | _, _ => none
theorem tells_made : Tells Try.prog 9 made? := by
  refine tells_run (E := envM) rfl Try.pok envM_ok Try.func9 (fun c _ => envS_loops c) fun xs ins r x h hx => ?_
  unfold made? at h
  split at h
  · injection h with h
    subst h
    exact (theOne_spec (show theOne _ = some x from hx)).2
  · cases h

noncomputable def envL : Env := envS fun f => match f with
  | 9 => made?
  | 10 => ofFan ck1
  | 11 => ofFan ck2
  | 12 => awake?
  | _ => fun _ _ => none
theorem envL_ok : ∀ f, Tells Try.prog f (envL.fs f) := by
  intro f
  by_cases h1 : f = 9
  · subst h1; exact tells_made
  by_cases h2 : f = 10
  · subst h2; exact tells_check
  by_cases h3 : f = 11
  · subst h3; exact tells_rcheck
  by_cases h4 : f = 12
  · subst h4; exact tells_awake
  have : envL.fs f = fun _ _ => none := by
    unfold envL envS
    dsimp only
    split
    · exact absurd rfl h1
    · exact absurd rfl h2
    · exact absurd rfl h3
    · exact absurd rfl h4
    · rfl
  rw [this]
  exact Tells.none_ f
def madeL (f : Fn7) : List AV := [.int .i64 f.road, .bool f.back, .bool false, .slc 2 f.n (ptsF f.p)]
theorem madeL_eq {f : Fn7} (h : MadeOK f) : madeL f = fanL f := by unfold madeL fanL; rw [h.aux]
theorem run_checks (n : Nat) (F : Nat → List AV) (raw : Fn7) (at_ by_ : Int) : arun envL Try.f3 [.slc 1 n F, .agg (fanL raw), .int .i64 at_, .int .i64 by_] [] =
    match madeG n F at_ by_ with
    | some f => (match ckG ck1 (madeL f) with
      | some r1 => (match ckG ck2 (madeL f) with
        | some r2 => (match r1 == r2 with
          | true => (match ckG ck1 (fanL raw) with
            | some r3 => (match ckG ck2 (fanL raw) with
              | some r4 => (match r3 == r4 with
                | true => some (.bool true, [])
                | false => some (.bool false, []))
              | none => none)
            | none => none)
          | false => some (.bool false, []))
        | none => none)
      | none => none)
    | none => none := by kernel_rfl
theorem checks_eq (n : Nat) (b : Nat → Int) (raw : Fn7) (at_ by_ : Int) : arun envL Try.f3 [.slc 1 n (bytesF b), .agg (fanL raw), .int .i64 at_, .int .i64 by_] [] = some (.bool true, []) := by
  obtain ⟨f, e1, ok⟩ := madeG_ex n b at_ by_
  have same : ∀ f, ck1 f = ck2 f := ck_same
  rw [run_checks, e1]
  dsimp only
  rw [madeL_eq ok, ckG_eq, ckG_eq, ckG_eq, ckG_eq]
  dsimp only
  rw [same f, same raw, beq_self_eq_true, beq_self_eq_true]
open Go.ChangeShapes Go.WideShapes Go.ChangeAt Go.RowKit Go.Deep Go.Joins
theorem checks_calls (n : Nat) (b : Nat → Int) (raw : Fn7) (at_ by_ : Int) {w : World} {vs : Array Value} (hl : vs.size = 4)
    (hv : ∀ j, j < 4 → ∀ (M : Nat → Prop) (σ : Nat → Value) (V : Nat → Option Nat), (∀ g, ¬ M g) → VR w M σ V ([AV.slc 1 n (bytesF b), .agg (fanL raw), .int .i64 at_, .int .i64 by_].getD j .undef) (vs.getD j undef)) : Calls Try.prog 3 vs w fun e w' => e = .returned (.bool true) ∧ Below w.heap.size w w' :=
  law_calls (E := envL) rfl envL_ok (fun _ => rfl) Try.func3 (checks_eq n b raw at_ by_) hl hv

theorem Try.cells25 : Try.prog.cellsOf 25 = 4 := by kernel_rfl
theorem Try.cells42 : Try.prog.cellsOf 42 = 2 := by kernel_rfl
theorem Try.cells23 : Try.prog.cellsOf 23 = 1 := by kernel_rfl
section
variable {H : Type} {enc : TypeId × Value → H} {w : World} {base : Nat} {spare : Nat → Bool} {held : Bool}
def ptV (p : Int × Int) : List Value := [.int .i64 p.1, .int .i64 p.2]
theorem trod_pt {n : Nat} {cs : List Value} {x : DataW H × List MemPlace} (h : DataW.trod enc Try.prog w base spare held n 42 cs = some x) : ∃ p : Int × Int, cs = ptV p := by
  obtain ⟨xs, n, _, _, hl, hxl, hf⟩ := DataW.trod_struct Try.underlying42 h
  rw [Try.cells42] at hl
  obtain ⟨c0, c1, rfl⟩ := list2 hl
  obtain ⟨y0, y1, rfl⟩ := list2 (show xs.length = 2 from hxl)
  have h0 : DataW.trod enc Try.prog w base spare held n 3 (([c0, c1].drop 0).take (Try.prog.cellsOf 3)) = some y0 := hf 0 _ rfl
  have h1 : DataW.trod enc Try.prog w base spare held n 3 (([c0, c1].drop 1).take (Try.prog.cellsOf 3)) = some y1 := hf 1 _ rfl
  rw [Try.cells3] at h0 h1
  obtain ⟨a0, e0, _⟩ := DataW.trod_int Try.underlying3 h0
  obtain ⟨a1, e1, _⟩ := DataW.trod_int Try.underlying3 h1
  simp at e0 e1
  subst e0 e1
  exact ⟨(a0, a1), rfl⟩
theorem open_fan {M : Nat → Prop} (hM : ∀ g, ¬ M g) {r : Reach} {b0 : Nat} {v : Value} {d : DataW H} {p : List MemPlace} (hv : Value.okWide Try.prog w r b0 25 v) (h : DataW.Trod enc Try.prog w base spare held 25 v d p) :
    ∃ (f : Fn7) (cv : Value), v = .agg #[.int .i64 f.road, .bool f.back, .bool f.aux, cv] ∧ PR w M (.slc 2 f.n (ptsF f.p)) cv := by
  obtain ⟨cs, rfl, hsz⟩ := okWide_struct Try.underlying25 hv
  obtain ⟨fuel, hf⟩ := h
  obtain ⟨xs, n, _, _, hl, hxl, hf⟩ := DataW.trod_struct Try.underlying25 hf
  rw [Try.cells25] at hl
  obtain ⟨c0, c1, c2, c3, hc⟩ := list4 hl
  obtain ⟨y0, y1, y2, y3, rfl⟩ := list4 (show xs.length = 4 from hxl)
  rw [hc] at hf
  have h0 : DataW.trod enc Try.prog w base spare held n 3 (([c0, c1, c2, c3].drop 0).take (Try.prog.cellsOf 3)) = some y0 := hf 0 _ rfl
  have h1 : DataW.trod enc Try.prog w base spare held n 4 (([c0, c1, c2, c3].drop 1).take (Try.prog.cellsOf 4)) = some y1 := hf 1 _ rfl
  have h2 : DataW.trod enc Try.prog w base spare held n 4 (([c0, c1, c2, c3].drop 2).take (Try.prog.cellsOf 4)) = some y2 := hf 2 _ rfl
  have h3 : DataW.trod enc Try.prog w base spare held n 23 (([c0, c1, c2, c3].drop 3).take (Try.prog.cellsOf 23)) = some y3 := hf 3 _ rfl
  rw [Try.cells3] at h0
  rw [Try.cells4] at h1 h2
  rw [Try.cells23] at h3
  obtain ⟨a0, e0, _⟩ := DataW.trod_int Try.underlying3 h0
  obtain ⟨a1, e1, _⟩ := DataW.trod_bool Try.underlying4 h1
  obtain ⟨a2, e2, _⟩ := DataW.trod_bool Try.underlying4 h2
  obtain ⟨cv, l, e3, hs⟩ := open_sl ptV (sz := 2) Try.underlying23 Try.cells42 (by omega) (fun _ => rfl) trod_pt h3
  simp at e0 e1 e2 e3
  subst e0 e1 e2 e3
  refine ⟨⟨a0, a1, a2, l.length, fun k => l.getD k (0, 0)⟩, c3, ?_, pr_of_sl hM ptV (fun p => [.int .i64 p.1, .int .i64 p.2]) (0, 0) (fun _ => rfl) (fun _ => rfl) (fun p j hj => ?_) hs⟩
  · congr 1
    simp only [Value.cells] at hc
    exact Array.ext' hc
  · have hj : j < 2 := hj
    match j, hj with
    | 0, _ => exact ⟨.int _ _, rfl⟩
    | 1, _ => exact ⟨.int _ _, rfl⟩
end
end Go.Proofs.Ytombbbbgkjapcaa.Ab
