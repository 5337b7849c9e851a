/- Mirrors of code, stage 9. -/
import Derived.Test.YtbmbhgkjpdpcjaaYa
namespace Go.Proofs.Ytbmbhgkjpdpcjaa.Ab
open Go



/-! ### minecontrol/plan.within -/
def plan_within_encC (n : Int) (low : Int) (high : Int) : List AV × List Blk := ([.int .i64 n, .int .i64 low, .int .i64 high], [])
def plan_within_enc (p : Int × Int × Int) : List AV × List Blk := plan_within_encC p.1 p.2.1 p.2.2
theorem plan_within_inj (p q : Int × Int × Int) (h : plan_within_enc p = plan_within_enc q) : p = q :=
  (Prod.ext (show p.1 = q.1 from congrArg intA (congrArg (fun x : List AV × List Blk => x.1.getD 0 .undef) h)) (Prod.ext (show p.2.1 = q.2.1 from congrArg intA (congrArg (fun x : List AV × List Blk => x.1.getD 1 .undef) h)) (show p.2.2 = q.2.2 from congrArg intA (congrArg (fun x : List AV × List Blk => x.1.getD 2 .undef) h))))
noncomputable def plan_within_t (n : Int) (low : Int) (high : Int) : DT (Bool) :=
  .ite (decide (low ≤ n)) (
    .leaf (decide (n ≤ high))) (
    .leaf false)
def plan_within_av (r : Bool) : AV := .bool r
def plan_within_outs (_ : List Blk) (_ : Bool) : List Blk := []
noncomputable def c_plan_within : List AV → List Blk → Option Ans := told plan_within_enc (fun p => (plan_within_t p.1 p.2.1 p.2.2).get) plan_within_av plan_within_outs true (fun _ _ _ => ⟨rfl, fun b hb => by cases hb⟩)
noncomputable def plan_within_env : Env := { envS (fun _ _ _ => none) with mm := some 0 }
theorem plan_within_env_ok : ∀ f, Tells Try.prog f (plan_within_env.fs f) := fun f => Tells.none_ f

theorem plan_within_run (p : Int × Int × Int) : arun plan_within_env Try.f58 (plan_within_enc p).1 (plan_within_enc p).2 = (plan_within_t p.1 p.2.1 p.2.2).run fun r => some (plan_within_av r, plan_within_outs (plan_within_enc p).2 r) := by kernel_rfl
attribute [local irreducible] arun in
theorem plan_within_tells : Tells Try.prog 58 c_plan_within :=
  told_tells (E := plan_within_env) (enc := plan_within_enc) (av := plan_within_av) (outs := plan_within_outs) (t := fun p : Int × Int × Int => plan_within_t p.1 p.2.1 p.2.2) (by kernel_rfl) plan_within_env_ok Try.func58 (fun c _ => loops_none (E := { plan_within_env with nt := Try.f58.ntmps }) (fun _ => rfl) c) plan_within_run
noncomputable def plan_within (n : Int) (low : Int) (high : Int) : Option (Bool) := gOfA plan_within_enc (fun p => (plan_within_t p.1 p.2.1 p.2.2).get) (plan_within_encC n low high).1 (plan_within_encC n low high).2
theorem plan_within_eq (n : Int) (low : Int) (high : Int) : plan_within n low high = (plan_within_t n low high).get := congrFun (gOfA_eq plan_within_inj (fun p => (plan_within_t p.1 p.2.1 p.2.2).get)) (n, low, high)

/-! ### minecontrol/plan.spans -/
def plan_spans_encC (s : SSpan) (low : Int) (high : Int) : List AV × List Blk := ([.agg [.int .i64 s.Low, .int .i64 s.High], .int .i64 low, .int .i64 high], [])
def plan_spans_enc (p : SSpan × Int × Int) : List AV × List Blk := plan_spans_encC p.1 p.2.1 p.2.2
theorem plan_spans_inj (p q : SSpan × Int × Int) (h : plan_spans_enc p = plan_spans_enc q) : p = q :=
  (Prod.ext (SSpan.ext2 (show p.1.Low = q.1.Low from congrArg intA (congrArg (fun x : List AV × List Blk => argC x.1 0 0) h)) (show p.1.High = q.1.High from congrArg intA (congrArg (fun x : List AV × List Blk => argC x.1 0 1) h))) (Prod.ext (show p.2.1 = q.2.1 from congrArg intA (congrArg (fun x : List AV × List Blk => x.1.getD 1 .undef) h)) (show p.2.2 = q.2.2 from congrArg intA (congrArg (fun x : List AV × List Blk => x.1.getD 2 .undef) h))))
noncomputable def plan_spans_t (s : SSpan) (low : Int) (high : Int) : DT (Bool) :=
  .ite (decide (low ≤ s.Low)) (
    .ite (decide (s.Low ≤ s.High)) (
      .leaf (decide (s.High ≤ high))) (
      .leaf false)) (
    .leaf false)
def plan_spans_av (r : Bool) : AV := .bool r
def plan_spans_outs (_ : List Blk) (_ : Bool) : List Blk := []
noncomputable def c_plan_spans : List AV → List Blk → Option Ans := told plan_spans_enc (fun p => (plan_spans_t p.1 p.2.1 p.2.2).get) plan_spans_av plan_spans_outs true (fun _ _ _ => ⟨rfl, fun b hb => by cases hb⟩)
noncomputable def plan_spans_env : Env := { envS (fun _ _ _ => none) with mm := some 0 }
theorem plan_spans_env_ok : ∀ f, Tells Try.prog f (plan_spans_env.fs f) := fun f => Tells.none_ f

theorem plan_spans_run (p : SSpan × Int × Int) : arun plan_spans_env Try.f71 (plan_spans_enc p).1 (plan_spans_enc p).2 = (plan_spans_t p.1 p.2.1 p.2.2).run fun r => some (plan_spans_av r, plan_spans_outs (plan_spans_enc p).2 r) := by kernel_rfl
attribute [local irreducible] arun in
theorem plan_spans_tells : Tells Try.prog 71 c_plan_spans :=
  told_tells (E := plan_spans_env) (enc := plan_spans_enc) (av := plan_spans_av) (outs := plan_spans_outs) (t := fun p : SSpan × Int × Int => plan_spans_t p.1 p.2.1 p.2.2) (by kernel_rfl) plan_spans_env_ok Try.func71 (fun c _ => loops_none (E := { plan_spans_env with nt := Try.f71.ntmps }) (fun _ => rfl) c) plan_spans_run
noncomputable def plan_spans (s : SSpan) (low : Int) (high : Int) : Option (Bool) := gOfA plan_spans_enc (fun p => (plan_spans_t p.1 p.2.1 p.2.2).get) (plan_spans_encC s low high).1 (plan_spans_encC s low high).2
theorem plan_spans_eq (s : SSpan) (low : Int) (high : Int) : plan_spans s low high = (plan_spans_t s low high).get := congrFun (gOfA_eq plan_spans_inj (fun p => (plan_spans_t p.1 p.2.1 p.2.2).get)) (s, low, high)

/-! ### minecontrol/plan.checkRoad -/
def plan_checkRoad_encC (r : SRoad) (places : Int) : List AV × List Blk := ([.agg [.int .i64 r.From, .int .i64 r.To, .int .i64 r.Length, .int .i64 r.Area, .bool r.Walk, .bool r.Closed, .int .i64 r.Rest.Low, .int .i64 r.Rest.High, .int .i64 r.Lift.Low, .int .i64 r.Lift.High], .int .i64 places], [])
def plan_checkRoad_enc (p : SRoad × Int) : List AV × List Blk := plan_checkRoad_encC p.1 p.2
theorem plan_checkRoad_inj (p q : SRoad × Int) (h : plan_checkRoad_enc p = plan_checkRoad_enc q) : p = q :=
  (Prod.ext (SRoad.ext2 (show p.1.From = q.1.From from congrArg intA (congrArg (fun x : List AV × List Blk => argC x.1 0 0) h)) (show p.1.To = q.1.To from congrArg intA (congrArg (fun x : List AV × List Blk => argC x.1 0 1) h)) (show p.1.Length = q.1.Length from congrArg intA (congrArg (fun x : List AV × List Blk => argC x.1 0 2) h)) (show p.1.Area = q.1.Area from congrArg intA (congrArg (fun x : List AV × List Blk => argC x.1 0 3) h)) (show p.1.Walk = q.1.Walk from congrArg boolA (congrArg (fun x : List AV × List Blk => argC x.1 0 4) h)) (show p.1.Closed = q.1.Closed from congrArg boolA (congrArg (fun x : List AV × List Blk => argC x.1 0 5) h)) (SSpan.ext2 (show p.1.Rest.Low = q.1.Rest.Low from congrArg intA (congrArg (fun x : List AV × List Blk => argC x.1 0 6) h)) (show p.1.Rest.High = q.1.Rest.High from congrArg intA (congrArg (fun x : List AV × List Blk => argC x.1 0 7) h))) (SSpan.ext2 (show p.1.Lift.Low = q.1.Lift.Low from congrArg intA (congrArg (fun x : List AV × List Blk => argC x.1 0 8) h)) (show p.1.Lift.High = q.1.Lift.High from congrArg intA (congrArg (fun x : List AV × List Blk => argC x.1 0 9) h)))) (show p.2 = q.2 from congrArg intA (congrArg (fun x : List AV × List Blk => x.1.getD 1 .undef) h)))
noncomputable def plan_checkRoad_t (r : SRoad) (places : Int) : DT (Int) :=
  .bind (plan_within r.From (0 : Int) (wr (places - (1 : Int)))) fun z1677 =>
  .ite (!z1677) (
    .leaf (4 : Int)) (
    .bind (plan_within r.To (0 : Int) (wr (places - (1 : Int)))) fun z1678 =>
    .ite (!z1678) (
      .leaf (4 : Int)) (
      .ite (r.From == r.To) (
        .leaf (4 : Int)) (
        .bind (plan_within r.Length (1 : Int) (100000 : Int)) fun z1679 =>
        .ite (!z1679) (
          .leaf (1 : Int)) (
          .bind (plan_within r.Area (1 : Int) (1000 : Int)) fun z1680 =>
          .ite (!z1680) (
            .leaf (1 : Int)) (
            .bind (plan_spans r.Rest (1 : Int) (262144 : Int)) fun z1681 =>
            .ite (!z1681) (
              .leaf (1 : Int)) (
              .bind (plan_spans r.Lift (-2199023255552 : Int) (2199023255552 : Int)) fun z1682 =>
              .ite (!z1682) (
                .leaf (1 : Int)) (
                .leaf (0 : Int))))))))
def plan_checkRoad_av (r : Int) : AV := .int .i64 r
def plan_checkRoad_outs (_ : List Blk) (_ : Int) : List Blk := []
noncomputable def c_plan_checkRoad : List AV → List Blk → Option Ans := told plan_checkRoad_enc (fun p => (plan_checkRoad_t p.1 p.2).get) plan_checkRoad_av plan_checkRoad_outs true (fun _ _ _ => ⟨rfl, fun b hb => by cases hb⟩)
noncomputable def plan_checkRoad_env : Env := { envS (fun f => match f with
  | 58 => c_plan_within
  | 71 => c_plan_spans
  | _ => fun _ _ => none) with mm := some 0 }
theorem plan_checkRoad_env_ok : ∀ f, Tells Try.prog f (plan_checkRoad_env.fs f) := by
  intro f
  by_cases h0 : f = 58
  · subst h0; exact plan_within_tells
  by_cases h1 : f = 71
  · subst h1; exact plan_spans_tells
  have : plan_checkRoad_env.fs f = fun _ _ => none := by
    unfold plan_checkRoad_env envS
    dsimp only
    split
    · exact absurd rfl h0
    · exact absurd rfl h1
    · rfl
  rw [this]
  exact Tells.none_ f
theorem plan_checkRoad_run (p : SRoad × Int) : arun plan_checkRoad_env Try.f59 (plan_checkRoad_enc p).1 (plan_checkRoad_enc p).2 = (plan_checkRoad_t p.1 p.2).run fun r => some (plan_checkRoad_av r, plan_checkRoad_outs (plan_checkRoad_enc p).2 r) := by kernel_rfl
attribute [local irreducible] arun in
theorem plan_checkRoad_tells : Tells Try.prog 59 c_plan_checkRoad :=
  told_tells (E := plan_checkRoad_env) (enc := plan_checkRoad_enc) (av := plan_checkRoad_av) (outs := plan_checkRoad_outs) (t := fun p : SRoad × Int => plan_checkRoad_t p.1 p.2) (by kernel_rfl) plan_checkRoad_env_ok Try.func59 (fun c _ => loops_none (E := { plan_checkRoad_env with nt := Try.f59.ntmps }) (fun _ => rfl) c) plan_checkRoad_run
noncomputable def plan_checkRoad (r : SRoad) (places : Int) : Option (Int) := gOfA plan_checkRoad_enc (fun p => (plan_checkRoad_t p.1 p.2).get) (plan_checkRoad_encC r places).1 (plan_checkRoad_encC r places).2
theorem plan_checkRoad_eq (r : SRoad) (places : Int) : plan_checkRoad r places = (plan_checkRoad_t r places).get := congrFun (gOfA_eq plan_checkRoad_inj (fun p => (plan_checkRoad_t p.1 p.2).get)) (r, places)

/-! ### minecontrol/plan.Check -/
def plan_Check_encC (m : SMine) : List AV × List Blk := ([.agg [.slc 2 m.Places.n (fun k2643 => (SPlace.enc (m.Places.f k2643))), .slc 10 m.Roads.n (fun k2644 => (SRoad.enc (m.Roads.f k2644)))]], [])
def plan_Check_enc (p : SMine) : List AV × List Blk := plan_Check_encC p
theorem plan_Check_inj (p q : SMine) (h : plan_Check_enc p = plan_Check_enc q) : p = q :=
  (SMine.ext2 (Sq.av_inj SPlace.inj (a := p.Places) (b := q.Places) (congrArg (fun x : List AV × List Blk => argC x.1 0 0) h)) (Sq.av_inj SRoad.inj (a := p.Roads) (b := q.Roads) (congrArg (fun x : List AV × List Blk => argC x.1 0 1) h)))
def plan_Check_l4_s (p : ((Sq SPlace) × (Sq SRoad)) × (Int)) : St := ⟨[(1, .ptr 0 0), (19, .slc 2 p.1.1.n (fun k2645 => (SPlace.enc (p.1.1.f k2645)))), (20, .int .i64 ((p.1.1.n : Nat) : Int)), (21, .int .i64 p.2)], [(0, .var [.slc 2 p.1.1.n (fun k2646 => (SPlace.enc (p.1.1.f k2646))), .slc 10 p.1.2.n (fun k2647 => (SRoad.enc (p.1.2.f k2647)))])], 1088⟩
theorem plan_Check_l4_inj (p q : ((Sq SPlace) × (Sq SRoad)) × (Int)) (h : plan_Check_l4_s p = plan_Check_l4_s q) : p = q :=
  Prod.ext (Prod.ext (Sq.av_inj SPlace.inj (a := p.1.1) (b := q.1.1) (congrArg (fun x : St => aget x.tm 19) h)) (Sq.av_inj SRoad.inj (a := p.1.2) (b := q.1.2) (congrArg (fun x : St => cellS x 0 1) h))) (show p.2 = q.2 from congrArg intA (congrArg (fun x : St => aget x.tm 21) h))
noncomputable def plan_Check_l4_step (v4_0 : (Sq SPlace)) (_v4_2 : (Sq SRoad)) (v4_3 : Int) : DT (LR (Int) (Unit) (Unit)) :=
  .ite (decide (v4_3 < ((v4_0.n : Nat) : Int))) (
    .ite (decide ((0 : Int) ≤ v4_3 ∧ v4_3 < ((v4_0.n : Nat) : Int))) (
      .bind (plan_within (v4_0.f (Int.toNat v4_3)).Height (-10000 : Int) (10000 : Int)) fun z1687 =>
      .ite (!z1687) (
        .leaf (.r ())) (
        .leaf (.next (wr (v4_3 + (1 : Int)))))) (
      .fail)) (
    .leaf (.l ()))
def plan_Check_l4_el (x : St) (_ : Unit) : St := ⟨[(1, .ptr 0 0), (2, .undef)], [(0, blkS x 0)], 1088⟩
def plan_Check_l4_er (x : St) (_ : Unit) : St := ⟨[(1, .ptr 0 0), (2, .int .i64 (1 : Int))], [(0, blkS x 0)], 1088⟩
noncomputable def plan_Check_l4_f (p : ((Sq SPlace) × (Sq SRoad)) × (Int)) : Option ((Unit) ⊕ (Unit)) := fixO (fun v : Int => plan_Check_l4_step p.1.1 p.1.2 v) p.2
noncomputable def plan_Check_l4_c : St → Option LRes := loopM plan_Check_l4_s plan_Check_l4_f false (.exit 0) plan_Check_l4_el .ret plan_Check_l4_er
noncomputable def plan_Check_l4 (v4_0 : (Sq SPlace)) (v4_2 : (Sq SRoad)) (v4_3 : Int) : Option ((Unit) ⊕ (Unit)) := gOfS plan_Check_l4_s plan_Check_l4_f (plan_Check_l4_s ((v4_0, v4_2), v4_3))
theorem plan_Check_l4_eq (v4_0 : (Sq SPlace)) (v4_2 : (Sq SRoad)) (v4_3 : Int) : plan_Check_l4 v4_0 v4_2 v4_3 = fixO (fun v : Int => plan_Check_l4_step v4_0 v4_2 v) v4_3 := gOfS_eq plan_Check_l4_inj plan_Check_l4_f ((v4_0, v4_2), v4_3)
def plan_Check_l10_s (p : ((Sq SRoad) × (Sq SPlace)) × (Int)) : St := ⟨[(1, .ptr 0 0), (31, .slc 10 p.1.1.n (fun k2648 => (SRoad.enc (p.1.1.f k2648)))), (32, .int .i64 ((p.1.1.n : Nat) : Int)), (33, .int .i64 p.2)], [(0, .var [.slc 2 p.1.2.n (fun k2649 => (SPlace.enc (p.1.2.f k2649))), .slc 10 p.1.1.n (fun k2650 => (SRoad.enc (p.1.1.f k2650)))])], 1344⟩
theorem plan_Check_l10_inj (p q : ((Sq SRoad) × (Sq SPlace)) × (Int)) (h : plan_Check_l10_s p = plan_Check_l10_s q) : p = q :=
  Prod.ext (Prod.ext (Sq.av_inj SRoad.inj (a := p.1.1) (b := q.1.1) (congrArg (fun x : St => aget x.tm 31) h)) (Sq.av_inj SPlace.inj (a := p.1.2) (b := q.1.2) (congrArg (fun x : St => cellS x 0 0) h))) (show p.2 = q.2 from congrArg intA (congrArg (fun x : St => aget x.tm 33) h))
noncomputable def plan_Check_l10_step (v10_0 : (Sq SRoad)) (v10_2 : (Sq SPlace)) (v10_3 : Int) : DT (LR (Int) (Unit) (Int)) :=
  .ite (decide (v10_3 < ((v10_0.n : Nat) : Int))) (
    .ite (decide ((0 : Int) ≤ v10_3 ∧ v10_3 < ((v10_0.n : Nat) : Int))) (
      .bind (plan_checkRoad (v10_0.f (Int.toNat v10_3)) ((v10_2.n : Nat) : Int)) fun z1689 =>
      .ite (z1689 != (0 : Int)) (
        .leaf (.r z1689)) (
        .leaf (.next (wr (v10_3 + (1 : Int)))))) (
      .fail)) (
    .leaf (.l ()))
def plan_Check_l10_el (x : St) (_ : Unit) : St := ⟨[(2, .undef)], [(0, blkS x 0)], 1344⟩
def plan_Check_l10_er (x : St) (a : Int) : St := ⟨[(2, .int .i64 a)], [(0, blkS x 0)], 1344⟩
noncomputable def plan_Check_l10_f (p : ((Sq SRoad) × (Sq SPlace)) × (Int)) : Option ((Unit) ⊕ (Int)) := fixO (fun v : Int => plan_Check_l10_step p.1.1 p.1.2 v) p.2
noncomputable def plan_Check_l10_c : St → Option LRes := loopM plan_Check_l10_s plan_Check_l10_f false (.exit 2) plan_Check_l10_el .ret plan_Check_l10_er
noncomputable def plan_Check_l10 (v10_0 : (Sq SRoad)) (v10_2 : (Sq SPlace)) (v10_3 : Int) : Option ((Unit) ⊕ (Int)) := gOfS plan_Check_l10_s plan_Check_l10_f (plan_Check_l10_s ((v10_0, v10_2), v10_3))
theorem plan_Check_l10_eq (v10_0 : (Sq SRoad)) (v10_2 : (Sq SPlace)) (v10_3 : Int) : plan_Check_l10 v10_0 v10_2 v10_3 = fixO (fun v : Int => plan_Check_l10_step v10_0 v10_2 v) v10_3 := gOfS_eq plan_Check_l10_inj plan_Check_l10_f ((v10_0, v10_2), v10_3)
noncomputable def plan_Check_t (m : SMine) : DT (Int) :=
  .ite (decide (((m.Places.n : Nat) : Int) > (64 : Int))) (
    .leaf (2 : Int)) (
    .ite (decide (((m.Roads.n : Nat) : Int) > (128 : Int))) (
      .leaf (2 : Int)) (
      .sum (plan_Check_l4 m.Places m.Roads (0 : Int)) (fun _ =>
        .sum (plan_Check_l10 m.Roads m.Places (0 : Int)) (fun _ =>
          .leaf (0 : Int)) (fun y1691 =>
          .leaf y1691)) (fun _ =>
        .leaf (1 : Int))))
def plan_Check_av (r : Int) : AV := .int .i64 r
def plan_Check_outs (_ : List Blk) (_ : Int) : List Blk := []
noncomputable def c_plan_Check : List AV → List Blk → Option Ans := told plan_Check_enc (fun p => (plan_Check_t p).get) plan_Check_av plan_Check_outs true (fun _ _ _ => ⟨rfl, fun b hb => by cases hb⟩)
noncomputable def plan_Check_env : Env := { envS (fun f => match f with
  | 58 => c_plan_within
  | 59 => c_plan_checkRoad
  | _ => fun _ _ => none) (fun r => match r with | 4 => some ([1, 19, 20, 21], [1, 2]) | 10 => some ([1, 31, 32, 33], [2]) | _ => none) with loops := fun r => match r with | 4 => some plan_Check_l4_c | 10 => some plan_Check_l10_c | _ => none, gc := fun r => match r with | 4 => some [0] | 10 => some [0] | _ => none, mm := some 0 }
theorem plan_Check_env_ok : ∀ f, Tells Try.prog f (plan_Check_env.fs f) := by
  intro f
  by_cases h0 : f = 58
  · subst h0; exact plan_within_tells
  by_cases h1 : f = 59
  · subst h1; exact plan_checkRoad_tells
  have : plan_Check_env.fs f = fun _ _ => none := by
    unfold plan_Check_env envS
    dsimp only
    split
    · exact absurd rfl h0
    · exact absurd rfl h1
    · rfl
  rw [this]
  exact Tells.none_ f
noncomputable def plan_Check_e : Env := { plan_Check_env with nt := 46 }
noncomputable def plan_Check_l4_b : Code := loopOf 4 Try.f35
theorem plan_Check_l4_round {R : Type} (fx : (Sq SPlace) × (Sq SRoad)) (v : Int) (N : Nat) (K : AX → St → Option R) : aloop (fun s j => aexec plan_Check_e plan_Check_l4_b s j) (headOf plan_Check_e plan_Check_l4_b 1088) (exitOf plan_Check_e plan_Check_l4_b 1088) (N + 1) (plan_Check_l4_s (fx, v)) K = (plan_Check_l4_step fx.1 fx.2 v).run (LR.elim
    (fun v' => aloop (fun s j => aexec plan_Check_e plan_Check_l4_b s j) (headOf plan_Check_e plan_Check_l4_b 1088) (exitOf plan_Check_e plan_Check_l4_b 1088) N (plan_Check_l4_s (fx, v')) K)
    (fun a => K (.exit 0) (plan_Check_l4_el (plan_Check_l4_s (fx, v)) a))
    (fun a => K .ret (plan_Check_l4_er (plan_Check_l4_s (fx, v)) a))) := by kernel_rfl
theorem plan_Check_l4_tells : LoopTells plan_Check_e plan_Check_l4_b plan_Check_l4_c :=
  loopM_tells (s := plan_Check_l4_s) (stl := plan_Check_l4_el) (str := plan_Check_l4_er) (step := fun (fx : (Sq SPlace) × (Sq SRoad)) (v : Int) => plan_Check_l4_step fx.1 fx.2 v) (n := 1088) (fun _ => rfl) (fun _ _ _ _ => rfl) (fun _ _ _ _ => rfl) plan_Check_l4_round
noncomputable def plan_Check_l10_b : Code := loopOf 10 Try.f35
theorem plan_Check_l10_round {R : Type} (fx : (Sq SRoad) × (Sq SPlace)) (v : Int) (N : Nat) (K : AX → St → Option R) : aloop (fun s j => aexec plan_Check_e plan_Check_l10_b s j) (headOf plan_Check_e plan_Check_l10_b 1344) (exitOf plan_Check_e plan_Check_l10_b 1344) (N + 1) (plan_Check_l10_s (fx, v)) K = (plan_Check_l10_step fx.1 fx.2 v).run (LR.elim
    (fun v' => aloop (fun s j => aexec plan_Check_e plan_Check_l10_b s j) (headOf plan_Check_e plan_Check_l10_b 1344) (exitOf plan_Check_e plan_Check_l10_b 1344) N (plan_Check_l10_s (fx, v')) K)
    (fun a => K (.exit 2) (plan_Check_l10_el (plan_Check_l10_s (fx, v)) a))
    (fun a => K .ret (plan_Check_l10_er (plan_Check_l10_s (fx, v)) a))) := by kernel_rfl
theorem plan_Check_l10_tells : LoopTells plan_Check_e plan_Check_l10_b plan_Check_l10_c :=
  loopM_tells (s := plan_Check_l10_s) (stl := plan_Check_l10_el) (str := plan_Check_l10_er) (step := fun (fx : (Sq SRoad) × (Sq SPlace)) (v : Int) => plan_Check_l10_step fx.1 fx.2 v) (n := 1344) (fun _ => rfl) (fun _ _ _ _ => rfl) (fun _ _ _ _ => rfl) plan_Check_l10_round
theorem plan_Check_run (p : SMine) : arun plan_Check_env Try.f35 (plan_Check_enc p).1 (plan_Check_enc p).2 = (plan_Check_t p).run fun r => some (plan_Check_av r, plan_Check_outs (plan_Check_enc p).2 r) := by kernel_rfl
theorem plan_Check_loops : ∀ c, Try.f35.body = some c → LoopsOK { plan_Check_env with nt := Try.f35.ntmps } c := by
  intro c hc
  refine loops_of c fun c' hc' f hf => ?_
  have hb : loopsOf c = [plan_Check_l4_b, plan_Check_l10_b] := by
    have : Try.f35.body.map loopsOf = some [plan_Check_l4_b, plan_Check_l10_b] := by kernel_rfl
    rw [hc] at this
    injection this
  rw [hb] at hc'
  clear hb
  rcases List.mem_cons.1 hc' with rfl | hc'
  ·
    have h6 : firstReg plan_Check_l4_b = 4 := by kernel_rfl
    rw [h6] at hf
    obtain rfl := Option.some.inj hf
    exact plan_Check_l4_tells
  obtain rfl := List.mem_singleton.1 hc'
  have h6 : firstReg plan_Check_l10_b = 10 := by kernel_rfl
  rw [h6] at hf
  obtain rfl := Option.some.inj hf
  exact plan_Check_l10_tells
attribute [local irreducible] arun in
theorem plan_Check_tells : Tells Try.prog 35 c_plan_Check :=
  told_tells (E := plan_Check_env) (enc := plan_Check_enc) (av := plan_Check_av) (outs := plan_Check_outs) (t := fun p : SMine => plan_Check_t p) (by kernel_rfl) plan_Check_env_ok Try.func35 plan_Check_loops plan_Check_run
noncomputable def plan_Check (m : SMine) : Option (Int) := gOfA plan_Check_enc (fun p => (plan_Check_t p).get) (plan_Check_encC m).1 (plan_Check_encC m).2
theorem plan_Check_eq (m : SMine) : plan_Check m = (plan_Check_t m).get := congrFun (gOfA_eq plan_Check_inj (fun p => (plan_Check_t p).get)) m

/-! ### minecontrol/fan.within -/
def fan_within_encC (n : Int) (low : Int) (high : Int) : List AV × List Blk := ([.int .i64 n, .int .i64 low, .int .i64 high], [])
def fan_within_enc (p : Int × Int × Int) : List AV × List Blk := fan_within_encC p.1 p.2.1 p.2.2
theorem fan_within_inj (p q : Int × Int × Int) (h : fan_within_enc p = fan_within_enc q) : p = q :=
  (Prod.ext (show p.1 = q.1 from congrArg intA (congrArg (fun x : List AV × List Blk => x.1.getD 0 .undef) h)) (Prod.ext (show p.2.1 = q.2.1 from congrArg intA (congrArg (fun x : List AV × List Blk => x.1.getD 1 .undef) h)) (show p.2.2 = q.2.2 from congrArg intA (congrArg (fun x : List AV × List Blk => x.1.getD 2 .undef) h))))
noncomputable def fan_within_t (n : Int) (low : Int) (high : Int) : DT (Bool) :=
  .ite (decide (low ≤ n)) (
    .leaf (decide (n ≤ high))) (
    .leaf false)
def fan_within_av (r : Bool) : AV := .bool r
def fan_within_outs (_ : List Blk) (_ : Bool) : List Blk := []
noncomputable def c_fan_within : List AV → List Blk → Option Ans := told fan_within_enc (fun p => (fan_within_t p.1 p.2.1 p.2.2).get) fan_within_av fan_within_outs true (fun _ _ _ => ⟨rfl, fun b hb => by cases hb⟩)
noncomputable def fan_within_env : Env := { envS (fun _ _ _ => none) with mm := some 0 }
theorem fan_within_env_ok : ∀ f, Tells Try.prog f (fan_within_env.fs f) := fun f => Tells.none_ f

theorem fan_within_run (p : Int × Int × Int) : arun fan_within_env Try.f72 (fan_within_enc p).1 (fan_within_enc p).2 = (fan_within_t p.1 p.2.1 p.2.2).run fun r => some (fan_within_av r, fan_within_outs (fan_within_enc p).2 r) := by kernel_rfl
attribute [local irreducible] arun in
theorem fan_within_tells : Tells Try.prog 72 c_fan_within :=
  told_tells (E := fan_within_env) (enc := fan_within_enc) (av := fan_within_av) (outs := fan_within_outs) (t := fun p : Int × Int × Int => fan_within_t p.1 p.2.1 p.2.2) (by kernel_rfl) fan_within_env_ok Try.func72 (fun c _ => loops_none (E := { fan_within_env with nt := Try.f72.ntmps }) (fun _ => rfl) c) fan_within_run
noncomputable def fan_within (n : Int) (low : Int) (high : Int) : Option (Bool) := gOfA fan_within_enc (fun p => (fan_within_t p.1 p.2.1 p.2.2).get) (fan_within_encC n low high).1 (fan_within_encC n low high).2
theorem fan_within_eq (n : Int) (low : Int) (high : Int) : fan_within n low high = (fan_within_t n low high).get := congrFun (gOfA_eq fan_within_inj (fun p => (fan_within_t p.1 p.2.1 p.2.2).get)) (n, low, high)

/-! ### minecontrol/fan.falls -/
def fan_falls_encC (from_ : SPoint) (to_ : SPoint) : List AV × List Blk := ([.agg [.int .i64 from_.Flow, .int .i64 from_.Pressure], .agg [.int .i64 to_.Flow, .int .i64 to_.Pressure]], [])
def fan_falls_enc (p : SPoint × SPoint) : List AV × List Blk := fan_falls_encC p.1 p.2
theorem fan_falls_inj (p q : SPoint × SPoint) (h : fan_falls_enc p = fan_falls_enc q) : p = q :=
  (Prod.ext (SPoint.ext2 (show p.1.Flow = q.1.Flow from congrArg intA (congrArg (fun x : List AV × List Blk => argC x.1 0 0) h)) (show p.1.Pressure = q.1.Pressure from congrArg intA (congrArg (fun x : List AV × List Blk => argC x.1 0 1) h))) (SPoint.ext2 (show p.2.Flow = q.2.Flow from congrArg intA (congrArg (fun x : List AV × List Blk => argC x.1 1 0) h)) (show p.2.Pressure = q.2.Pressure from congrArg intA (congrArg (fun x : List AV × List Blk => argC x.1 1 1) h))))
noncomputable def fan_falls_t (from_ : SPoint) (to_ : SPoint) : DT (Bool) :=
  .ite (decide (from_.Flow < to_.Flow)) (
    .leaf (decide (from_.Pressure ≥ to_.Pressure))) (
    .leaf false)
def fan_falls_av (r : Bool) : AV := .bool r
def fan_falls_outs (_ : List Blk) (_ : Bool) : List Blk := []
noncomputable def c_fan_falls : List AV → List Blk → Option Ans := told fan_falls_enc (fun p => (fan_falls_t p.1 p.2).get) fan_falls_av fan_falls_outs true (fun _ _ _ => ⟨rfl, fun b hb => by cases hb⟩)
noncomputable def fan_falls_env : Env := { envS (fun _ _ _ => none) with mm := some 0 }
theorem fan_falls_env_ok : ∀ f, Tells Try.prog f (fan_falls_env.fs f) := fun f => Tells.none_ f

theorem fan_falls_run (p : SPoint × SPoint) : arun fan_falls_env Try.f73 (fan_falls_enc p).1 (fan_falls_enc p).2 = (fan_falls_t p.1 p.2).run fun r => some (fan_falls_av r, fan_falls_outs (fan_falls_enc p).2 r) := by kernel_rfl
attribute [local irreducible] arun in
theorem fan_falls_tells : Tells Try.prog 73 c_fan_falls :=
  told_tells (E := fan_falls_env) (enc := fan_falls_enc) (av := fan_falls_av) (outs := fan_falls_outs) (t := fun p : SPoint × SPoint => fan_falls_t p.1 p.2) (by kernel_rfl) fan_falls_env_ok Try.func73 (fun c _ => loops_none (E := { fan_falls_env with nt := Try.f73.ntmps }) (fun _ => rfl) c) fan_falls_run
noncomputable def fan_falls (from_ : SPoint) (to_ : SPoint) : Option (Bool) := gOfA fan_falls_enc (fun p => (fan_falls_t p.1 p.2).get) (fan_falls_encC from_ to_).1 (fan_falls_encC from_ to_).2
theorem fan_falls_eq (from_ : SPoint) (to_ : SPoint) : fan_falls from_ to_ = (fan_falls_t from_ to_).get := congrFun (gOfA_eq fan_falls_inj (fun p => (fan_falls_t p.1 p.2).get)) (from_, to_)

/-! ### minecontrol/fan.Check -/
def fan_Check_encC (f : SFan) : List AV × List Blk := ([.agg [.int .i64 f.Road, .bool f.Back, .bool f.Auxiliary, .slc 2 f.Curve.n (fun k2651 => (SPoint.enc (f.Curve.f k2651)))]], [])
def fan_Check_enc (p : SFan) : List AV × List Blk := fan_Check_encC p
theorem fan_Check_inj (p q : SFan) (h : fan_Check_enc p = fan_Check_enc q) : p = q :=
  (SFan.ext2 (show p.Road = q.Road from congrArg intA (congrArg (fun x : List AV × List Blk => argC x.1 0 0) h)) (show p.Back = q.Back from congrArg boolA (congrArg (fun x : List AV × List Blk => argC x.1 0 1) h)) (show p.Auxiliary = q.Auxiliary from congrArg boolA (congrArg (fun x : List AV × List Blk => argC x.1 0 2) h)) (Sq.av_inj SPoint.inj (a := p.Curve) (b := q.Curve) (congrArg (fun x : List AV × List Blk => argC x.1 0 3) h)))
def fan_Check_l6_s (p : ((Sq SPoint) × Int × Bool × Bool) × (Int)) : St := ⟨[(1, .ptr 0 0), (21, .slc 2 p.1.1.n (fun k2652 => (SPoint.enc (p.1.1.f k2652)))), (22, .int .i64 ((p.1.1.n : Nat) : Int)), (23, .int .i64 p.2)], [(0, .var [.int .i64 p.1.2.1, .bool p.1.2.2.1, .bool p.1.2.2.2, .slc 2 p.1.1.n (fun k2653 => (SPoint.enc (p.1.1.f k2653)))])], 1472⟩
theorem fan_Check_l6_inj (p q : ((Sq SPoint) × Int × Bool × Bool) × (Int)) (h : fan_Check_l6_s p = fan_Check_l6_s q) : p = q :=
  Prod.ext (Prod.ext (Sq.av_inj SPoint.inj (a := p.1.1) (b := q.1.1) (congrArg (fun x : St => aget x.tm 21) h)) (Prod.ext (show p.1.2.1 = q.1.2.1 from congrArg intA (congrArg (fun x : St => cellS x 0 0) h)) (Prod.ext (show p.1.2.2.1 = q.1.2.2.1 from congrArg boolA (congrArg (fun x : St => cellS x 0 1) h)) (show p.1.2.2.2 = q.1.2.2.2 from congrArg boolA (congrArg (fun x : St => cellS x 0 2) h))))) (show p.2 = q.2 from congrArg intA (congrArg (fun x : St => aget x.tm 23) h))
noncomputable def fan_Check_l6_step (v6_0 : (Sq SPoint)) (_v6_2 : Int) (_v6_3 : Bool) (_v6_4 : Bool) (v6_5 : Int) : DT (LR (Int) (Unit) (Int)) :=
  .ite (decide (v6_5 < ((v6_0.n : Nat) : Int))) (
    .ite (decide ((0 : Int) ≤ v6_5 ∧ v6_5 < ((v6_0.n : Nat) : Int))) (
      .bind (fan_within (v6_0.f (Int.toNat v6_5)).Flow (-1048576 : Int) (1048576 : Int)) fun z1699 =>
      .ite (!z1699) (
        .leaf (.r (1 : Int))) (
        .bind (fan_within (v6_0.f (Int.toNat v6_5)).Pressure (0 : Int) (2199023255552 : Int)) fun z1700 =>
        .ite (!z1700) (
          .leaf (.r (1 : Int))) (
          .ite (decide (v6_5 > (0 : Int))) (
            .ite (decide ((0 : Int) ≤ (wr (v6_5 - (1 : Int))) ∧ (wr (v6_5 - (1 : Int))) < ((v6_0.n : Nat) : Int))) (
              .bind (fan_falls (v6_0.f (Int.toNat (wr (v6_5 - (1 : Int))))) (v6_0.f (Int.toNat v6_5))) fun z1701 =>
              .ite (!z1701) (
                .leaf (.r (14 : Int))) (
                .leaf (.next (wr (v6_5 + (1 : Int)))))) (
              .fail)) (
            .leaf (.next (wr (v6_5 + (1 : Int)))))))) (
      .fail)) (
    .leaf (.l ()))
def fan_Check_l6_el (x : St) (_ : Unit) : St := ⟨[(2, .undef)], [(0, blkS x 0)], 1472⟩
def fan_Check_l6_er (x : St) (a : Int) : St := ⟨[(2, .int .i64 a)], [(0, blkS x 0)], 1472⟩
noncomputable def fan_Check_l6_f (p : ((Sq SPoint) × Int × Bool × Bool) × (Int)) : Option ((Unit) ⊕ (Int)) := fixO (fun v : Int => fan_Check_l6_step p.1.1 p.1.2.1 p.1.2.2.1 p.1.2.2.2 v) p.2
noncomputable def fan_Check_l6_c : St → Option LRes := loopM fan_Check_l6_s fan_Check_l6_f false (.exit 1) fan_Check_l6_el .ret fan_Check_l6_er
noncomputable def fan_Check_l6 (v6_0 : (Sq SPoint)) (v6_2 : Int) (v6_3 : Bool) (v6_4 : Bool) (v6_5 : Int) : Option ((Unit) ⊕ (Int)) := gOfS fan_Check_l6_s fan_Check_l6_f (fan_Check_l6_s ((v6_0, v6_2, v6_3, v6_4), v6_5))
theorem fan_Check_l6_eq (v6_0 : (Sq SPoint)) (v6_2 : Int) (v6_3 : Bool) (v6_4 : Bool) (v6_5 : Int) : fan_Check_l6 v6_0 v6_2 v6_3 v6_4 v6_5 = fixO (fun v : Int => fan_Check_l6_step v6_0 v6_2 v6_3 v6_4 v) v6_5 := gOfS_eq fan_Check_l6_inj fan_Check_l6_f ((v6_0, v6_2, v6_3, v6_4), v6_5)
noncomputable def fan_Check_t (f : SFan) : DT (Int) :=
  .ite (decide (f.Road < (0 : Int))) (
    .leaf (4 : Int)) (
    .ite (((f.Curve.n : Nat) : Int) == (0 : Int)) (
      .leaf (2 : Int)) (
      .ite (decide (((f.Curve.n : Nat) : Int) > (8 : Int))) (
        .leaf (2 : Int)) (
        .sum (fan_Check_l6 f.Curve f.Road f.Back f.Auxiliary (0 : Int)) (fun _ =>
          .leaf (0 : Int)) (fun y1703 =>
          .leaf y1703))))
def fan_Check_av (r : Int) : AV := .int .i64 r
def fan_Check_outs (_ : List Blk) (_ : Int) : List Blk := []
noncomputable def c_fan_Check : List AV → List Blk → Option Ans := told fan_Check_enc (fun p => (fan_Check_t p).get) fan_Check_av fan_Check_outs true (fun _ _ _ => ⟨rfl, fun b hb => by cases hb⟩)
noncomputable def fan_Check_env : Env := { envS (fun f => match f with
  | 72 => c_fan_within
  | 73 => c_fan_falls
  | _ => fun _ _ => none) (fun r => match r with | 6 => some ([1, 21, 22, 23], [2]) | _ => none) with loops := fun r => match r with | 6 => some fan_Check_l6_c | _ => none, gc := fun r => match r with | 6 => some [0] | _ => none, mm := some 0 }
theorem fan_Check_env_ok : ∀ f, Tells Try.prog f (fan_Check_env.fs f) := by
  intro f
  by_cases h0 : f = 72
  · subst h0; exact fan_within_tells
  by_cases h1 : f = 73
  · subst h1; exact fan_falls_tells
  have : fan_Check_env.fs f = fun _ _ => none := by
    unfold fan_Check_env envS
    dsimp only
    split
    · exact absurd rfl h0
    · exact absurd rfl h1
    · rfl
  rw [this]
  exact Tells.none_ f
noncomputable def fan_Check_e : Env := { fan_Check_env with nt := 52 }
noncomputable def fan_Check_l6_b : Code := loopOf 6 Try.f60
theorem fan_Check_l6_round {R : Type} (fx : (Sq SPoint) × Int × Bool × Bool) (v : Int) (N : Nat) (K : AX → St → Option R) : aloop (fun s j => aexec fan_Check_e fan_Check_l6_b s j) (headOf fan_Check_e fan_Check_l6_b 1472) (exitOf fan_Check_e fan_Check_l6_b 1472) (N + 1) (fan_Check_l6_s (fx, v)) K = (fan_Check_l6_step fx.1 fx.2.1 fx.2.2.1 fx.2.2.2 v).run (LR.elim
    (fun v' => aloop (fun s j => aexec fan_Check_e fan_Check_l6_b s j) (headOf fan_Check_e fan_Check_l6_b 1472) (exitOf fan_Check_e fan_Check_l6_b 1472) N (fan_Check_l6_s (fx, v')) K)
    (fun a => K (.exit 1) (fan_Check_l6_el (fan_Check_l6_s (fx, v)) a))
    (fun a => K .ret (fan_Check_l6_er (fan_Check_l6_s (fx, v)) a))) := by kernel_rfl
theorem fan_Check_l6_tells : LoopTells fan_Check_e fan_Check_l6_b fan_Check_l6_c :=
  loopM_tells (s := fan_Check_l6_s) (stl := fan_Check_l6_el) (str := fan_Check_l6_er) (step := fun (fx : (Sq SPoint) × Int × Bool × Bool) (v : Int) => fan_Check_l6_step fx.1 fx.2.1 fx.2.2.1 fx.2.2.2 v) (n := 1472) (fun _ => rfl) (fun _ _ _ _ => rfl) (fun _ _ _ _ => rfl) fan_Check_l6_round
theorem fan_Check_run (p : SFan) : arun fan_Check_env Try.f60 (fan_Check_enc p).1 (fan_Check_enc p).2 = (fan_Check_t p).run fun r => some (fan_Check_av r, fan_Check_outs (fan_Check_enc p).2 r) := by kernel_rfl
theorem fan_Check_loops : ∀ c, Try.f60.body = some c → LoopsOK { fan_Check_env with nt := Try.f60.ntmps } c := by
  intro c hc
  refine loops_of c fun c' hc' f hf => ?_
  have hb : loopsOf c = [fan_Check_l6_b] := by
    have : Try.f60.body.map loopsOf = some [fan_Check_l6_b] := by kernel_rfl
    rw [hc] at this
    injection this
  rw [hb] at hc'
  clear hb
  obtain rfl := List.mem_singleton.1 hc'
  have h6 : firstReg fan_Check_l6_b = 6 := by kernel_rfl
  rw [h6] at hf
  obtain rfl := Option.some.inj hf
  exact fan_Check_l6_tells
attribute [local irreducible] arun in
theorem fan_Check_tells : Tells Try.prog 60 c_fan_Check :=
  told_tells (E := fan_Check_env) (enc := fan_Check_enc) (av := fan_Check_av) (outs := fan_Check_outs) (t := fun p : SFan => fan_Check_t p) (by kernel_rfl) fan_Check_env_ok Try.func60 fan_Check_loops fan_Check_run
noncomputable def fan_Check (f : SFan) : Option (Int) := gOfA fan_Check_enc (fun p => (fan_Check_t p).get) (fan_Check_encC f).1 (fan_Check_encC f).2
theorem fan_Check_eq (f : SFan) : fan_Check f = (fan_Check_t f).get := congrFun (gOfA_eq fan_Check_inj (fun p => (fan_Check_t p).get)) f

/-! ### minecontrol/branch.within -/
def branch_within_encC (n : Int) (low : Int) (high : Int) : List AV × List Blk := ([.int .i64 n, .int .i64 low, .int .i64 high], [])
def branch_within_enc (p : Int × Int × Int) : List AV × List Blk := branch_within_encC p.1 p.2.1 p.2.2
theorem branch_within_inj (p q : Int × Int × Int) (h : branch_within_enc p = branch_within_enc q) : p = q :=
  (Prod.ext (show p.1 = q.1 from congrArg intA (congrArg (fun x : List AV × List Blk => x.1.getD 0 .undef) h)) (Prod.ext (show p.2.1 = q.2.1 from congrArg intA (congrArg (fun x : List AV × List Blk => x.1.getD 1 .undef) h)) (show p.2.2 = q.2.2 from congrArg intA (congrArg (fun x : List AV × List Blk => x.1.getD 2 .undef) h))))
noncomputable def branch_within_t (n : Int) (low : Int) (high : Int) : DT (Bool) :=
  .ite (decide (low ≤ n)) (
    .leaf (decide (n ≤ high))) (
    .leaf false)
def branch_within_av (r : Bool) : AV := .bool r
def branch_within_outs (_ : List Blk) (_ : Bool) : List Blk := []
noncomputable def c_branch_within : List AV → List Blk → Option Ans := told branch_within_enc (fun p => (branch_within_t p.1 p.2.1 p.2.2).get) branch_within_av branch_within_outs true (fun _ _ _ => ⟨rfl, fun b hb => by cases hb⟩)
noncomputable def branch_within_env : Env := { envS (fun _ _ _ => none) with mm := some 0 }
theorem branch_within_env_ok : ∀ f, Tells Try.prog f (branch_within_env.fs f) := fun f => Tells.none_ f

theorem branch_within_run (p : Int × Int × Int) : arun branch_within_env Try.f43 (branch_within_enc p).1 (branch_within_enc p).2 = (branch_within_t p.1 p.2.1 p.2.2).run fun r => some (branch_within_av r, branch_within_outs (branch_within_enc p).2 r) := by kernel_rfl
attribute [local irreducible] arun in
theorem branch_within_tells : Tells Try.prog 43 c_branch_within :=
  told_tells (E := branch_within_env) (enc := branch_within_enc) (av := branch_within_av) (outs := branch_within_outs) (t := fun p : Int × Int × Int => branch_within_t p.1 p.2.1 p.2.2) (by kernel_rfl) branch_within_env_ok Try.func43 (fun c _ => loops_none (E := { branch_within_env with nt := Try.f43.ntmps }) (fun _ => rfl) c) branch_within_run
noncomputable def branch_within (n : Int) (low : Int) (high : Int) : Option (Bool) := gOfA branch_within_enc (fun p => (branch_within_t p.1 p.2.1 p.2.2).get) (branch_within_encC n low high).1 (branch_within_encC n low high).2
theorem branch_within_eq (n : Int) (low : Int) (high : Int) : branch_within n low high = (branch_within_t n low high).get := congrFun (gOfA_eq branch_within_inj (fun p => (branch_within_t p.1 p.2.1 p.2.2).get)) (n, low, high)

/-! ### minecontrol/branch.hasRoad -/
def branch_hasRoad_encC (a : SAir) (road : Int) : List AV × List Blk := ([.agg [.slc 2 a.Mine.Places.n (fun k2654 => (SPlace.enc (a.Mine.Places.f k2654))), .slc 10 a.Mine.Roads.n (fun k2655 => (SRoad.enc (a.Mine.Roads.f k2655))), .slc 4 a.Fans.n (fun k2656 => (SFan.enc (a.Fans.f k2656))), .slc 3 a.Doors.n (fun k2657 => (SDoor.enc (a.Doors.f k2657)))], .int .i64 road], [])
def branch_hasRoad_enc (p : SAir × Int) : List AV × List Blk := branch_hasRoad_encC p.1 p.2
theorem branch_hasRoad_inj (p q : SAir × Int) (h : branch_hasRoad_enc p = branch_hasRoad_enc q) : p = q :=
  (Prod.ext (SAir.ext2 (SMine.ext2 (Sq.av_inj SPlace.inj (a := p.1.Mine.Places) (b := q.1.Mine.Places) (congrArg (fun x : List AV × List Blk => argC x.1 0 0) h)) (Sq.av_inj SRoad.inj (a := p.1.Mine.Roads) (b := q.1.Mine.Roads) (congrArg (fun x : List AV × List Blk => argC x.1 0 1) h))) (Sq.av_inj SFan.inj (a := p.1.Fans) (b := q.1.Fans) (congrArg (fun x : List AV × List Blk => argC x.1 0 2) h)) (Sq.av_inj SDoor.inj (a := p.1.Doors) (b := q.1.Doors) (congrArg (fun x : List AV × List Blk => argC x.1 0 3) h))) (show p.2 = q.2 from congrArg intA (congrArg (fun x : List AV × List Blk => x.1.getD 1 .undef) h)))
noncomputable def branch_hasRoad_t (a : SAir) (road : Int) : DT (Bool) :=
  .bind (branch_within road (0 : Int) (wr (((a.Mine.Roads.n : Nat) : Int) - (1 : Int)))) fun z1705 =>
  .leaf z1705
def branch_hasRoad_av (r : Bool) : AV := .bool r
def branch_hasRoad_outs (_ : List Blk) (_ : Bool) : List Blk := []
noncomputable def c_branch_hasRoad : List AV → List Blk → Option Ans := told branch_hasRoad_enc (fun p => (branch_hasRoad_t p.1 p.2).get) branch_hasRoad_av branch_hasRoad_outs true (fun _ _ _ => ⟨rfl, fun b hb => by cases hb⟩)
noncomputable def branch_hasRoad_env : Env := { envS (fun f => match f with
  | 43 => c_branch_within
  | _ => fun _ _ => none) with mm := some 0 }
theorem branch_hasRoad_env_ok : ∀ f, Tells Try.prog f (branch_hasRoad_env.fs f) := by
  intro f
  by_cases h0 : f = 43
  · subst h0; exact branch_within_tells
  have : branch_hasRoad_env.fs f = fun _ _ => none := by
    unfold branch_hasRoad_env envS
    dsimp only
    split
    · exact absurd rfl h0
    · rfl
  rw [this]
  exact Tells.none_ f
theorem branch_hasRoad_run (p : SAir × Int) : arun branch_hasRoad_env Try.f61 (branch_hasRoad_enc p).1 (branch_hasRoad_enc p).2 = (branch_hasRoad_t p.1 p.2).run fun r => some (branch_hasRoad_av r, branch_hasRoad_outs (branch_hasRoad_enc p).2 r) := by kernel_rfl
attribute [local irreducible] arun in
theorem branch_hasRoad_tells : Tells Try.prog 61 c_branch_hasRoad :=
  told_tells (E := branch_hasRoad_env) (enc := branch_hasRoad_enc) (av := branch_hasRoad_av) (outs := branch_hasRoad_outs) (t := fun p : SAir × Int => branch_hasRoad_t p.1 p.2) (by kernel_rfl) branch_hasRoad_env_ok Try.func61 (fun c _ => loops_none (E := { branch_hasRoad_env with nt := Try.f61.ntmps }) (fun _ => rfl) c) branch_hasRoad_run
noncomputable def branch_hasRoad (a : SAir) (road : Int) : Option (Bool) := gOfA branch_hasRoad_enc (fun p => (branch_hasRoad_t p.1 p.2).get) (branch_hasRoad_encC a road).1 (branch_hasRoad_encC a road).2
theorem branch_hasRoad_eq (a : SAir) (road : Int) : branch_hasRoad a road = (branch_hasRoad_t a road).get := congrFun (gOfA_eq branch_hasRoad_inj (fun p => (branch_hasRoad_t p.1 p.2).get)) (a, road)

/-! ### minecontrol/branch.checkFans -/
def branch_checkFans_encC (a : SAir) : List AV × List Blk := ([.agg [.slc 2 a.Mine.Places.n (fun k2658 => (SPlace.enc (a.Mine.Places.f k2658))), .slc 10 a.Mine.Roads.n (fun k2659 => (SRoad.enc (a.Mine.Roads.f k2659))), .slc 4 a.Fans.n (fun k2660 => (SFan.enc (a.Fans.f k2660))), .slc 3 a.Doors.n (fun k2661 => (SDoor.enc (a.Doors.f k2661)))]], [])
def branch_checkFans_enc (p : SAir) : List AV × List Blk := branch_checkFans_encC p
theorem branch_checkFans_inj (p q : SAir) (h : branch_checkFans_enc p = branch_checkFans_enc q) : p = q :=
  (SAir.ext2 (SMine.ext2 (Sq.av_inj SPlace.inj (a := p.Mine.Places) (b := q.Mine.Places) (congrArg (fun x : List AV × List Blk => argC x.1 0 0) h)) (Sq.av_inj SRoad.inj (a := p.Mine.Roads) (b := q.Mine.Roads) (congrArg (fun x : List AV × List Blk => argC x.1 0 1) h))) (Sq.av_inj SFan.inj (a := p.Fans) (b := q.Fans) (congrArg (fun x : List AV × List Blk => argC x.1 0 2) h)) (Sq.av_inj SDoor.inj (a := p.Doors) (b := q.Doors) (congrArg (fun x : List AV × List Blk => argC x.1 0 3) h)))
def branch_checkFans_l4_s (p : ((Sq SFan) × (Sq SPlace) × (Sq SRoad) × (Sq SDoor)) × (Int)) : St := ⟨[(1, .ptr 0 0), (11, .slc 4 p.1.1.n (fun k2662 => (SFan.enc (p.1.1.f k2662)))), (12, .int .i64 ((p.1.1.n : Nat) : Int)), (13, .int .i64 p.2)], [(0, .var [.slc 2 p.1.2.1.n (fun k2663 => (SPlace.enc (p.1.2.1.f k2663))), .slc 10 p.1.2.2.1.n (fun k2664 => (SRoad.enc (p.1.2.2.1.f k2664))), .slc 4 p.1.1.n (fun k2665 => (SFan.enc (p.1.1.f k2665))), .slc 3 p.1.2.2.2.n (fun k2666 => (SDoor.enc (p.1.2.2.2.f k2666)))])], 704⟩
theorem branch_checkFans_l4_inj (p q : ((Sq SFan) × (Sq SPlace) × (Sq SRoad) × (Sq SDoor)) × (Int)) (h : branch_checkFans_l4_s p = branch_checkFans_l4_s q) : p = q :=
  Prod.ext (Prod.ext (Sq.av_inj SFan.inj (a := p.1.1) (b := q.1.1) (congrArg (fun x : St => aget x.tm 11) h)) (Prod.ext (Sq.av_inj SPlace.inj (a := p.1.2.1) (b := q.1.2.1) (congrArg (fun x : St => cellS x 0 0) h)) (Prod.ext (Sq.av_inj SRoad.inj (a := p.1.2.2.1) (b := q.1.2.2.1) (congrArg (fun x : St => cellS x 0 1) h)) (Sq.av_inj SDoor.inj (a := p.1.2.2.2) (b := q.1.2.2.2) (congrArg (fun x : St => cellS x 0 3) h))))) (show p.2 = q.2 from congrArg intA (congrArg (fun x : St => aget x.tm 13) h))
noncomputable def branch_checkFans_l4_step (v4_0 : (Sq SFan)) (v4_2 : (Sq SPlace)) (v4_3 : (Sq SRoad)) (v4_4 : (Sq SDoor)) (v4_5 : Int) : DT (LR (Int) (Unit) (Int)) :=
  .ite (decide (v4_5 < ((v4_0.n : Nat) : Int))) (
    .ite (decide ((0 : Int) ≤ v4_5 ∧ v4_5 < ((v4_0.n : Nat) : Int))) (
      .bind (fan_Check (v4_0.f (Int.toNat v4_5))) fun z1709 =>
      .ite (z1709 != (0 : Int)) (
        .leaf (.r z1709)) (
        .bind (branch_hasRoad (SAir.mk (SMine.mk v4_2 v4_3) v4_0 v4_4) (v4_0.f (Int.toNat v4_5)).Road) fun z1710 =>
        .ite (!z1710) (
          .leaf (.r (4 : Int))) (
          .leaf (.next (wr (v4_5 + (1 : Int))))))) (
      .fail)) (
    .leaf (.l ()))
def branch_checkFans_l4_el (x : St) (_ : Unit) : St := ⟨[(2, .undef)], [(0, blkS x 0)], 704⟩
def branch_checkFans_l4_er (x : St) (a : Int) : St := ⟨[(2, .int .i64 a)], [(0, blkS x 0)], 704⟩
noncomputable def branch_checkFans_l4_f (p : ((Sq SFan) × (Sq SPlace) × (Sq SRoad) × (Sq SDoor)) × (Int)) : Option ((Unit) ⊕ (Int)) := fixO (fun v : Int => branch_checkFans_l4_step p.1.1 p.1.2.1 p.1.2.2.1 p.1.2.2.2 v) p.2
noncomputable def branch_checkFans_l4_c : St → Option LRes := loopM branch_checkFans_l4_s branch_checkFans_l4_f false (.exit 0) branch_checkFans_l4_el .ret branch_checkFans_l4_er
noncomputable def branch_checkFans_l4 (v4_0 : (Sq SFan)) (v4_2 : (Sq SPlace)) (v4_3 : (Sq SRoad)) (v4_4 : (Sq SDoor)) (v4_5 : Int) : Option ((Unit) ⊕ (Int)) := gOfS branch_checkFans_l4_s branch_checkFans_l4_f (branch_checkFans_l4_s ((v4_0, v4_2, v4_3, v4_4), v4_5))
theorem branch_checkFans_l4_eq (v4_0 : (Sq SFan)) (v4_2 : (Sq SPlace)) (v4_3 : (Sq SRoad)) (v4_4 : (Sq SDoor)) (v4_5 : Int) : branch_checkFans_l4 v4_0 v4_2 v4_3 v4_4 v4_5 = fixO (fun v : Int => branch_checkFans_l4_step v4_0 v4_2 v4_3 v4_4 v) v4_5 := gOfS_eq branch_checkFans_l4_inj branch_checkFans_l4_f ((v4_0, v4_2, v4_3, v4_4), v4_5)
noncomputable def branch_checkFans_t (a : SAir) : DT (Int) :=
  .ite (decide (((a.Fans.n : Nat) : Int) > (8 : Int))) (
    .leaf (2 : Int)) (
    .sum (branch_checkFans_l4 a.Fans a.Mine.Places a.Mine.Roads a.Doors (0 : Int)) (fun _ =>
      .leaf (0 : Int)) (fun y1712 =>
      .leaf y1712))
def branch_checkFans_av (r : Int) : AV := .int .i64 r
def branch_checkFans_outs (_ : List Blk) (_ : Int) : List Blk := []
noncomputable def c_branch_checkFans : List AV → List Blk → Option Ans := told branch_checkFans_enc (fun p => (branch_checkFans_t p).get) branch_checkFans_av branch_checkFans_outs true (fun _ _ _ => ⟨rfl, fun b hb => by cases hb⟩)
noncomputable def branch_checkFans_env : Env := { envS (fun f => match f with
  | 60 => c_fan_Check
  | 61 => c_branch_hasRoad
  | _ => fun _ _ => none) (fun r => match r with | 4 => some ([1, 11, 12, 13], [2]) | _ => none) with loops := fun r => match r with | 4 => some branch_checkFans_l4_c | _ => none, gc := fun r => match r with | 4 => some [0] | _ => none, mm := some 0 }
theorem branch_checkFans_env_ok : ∀ f, Tells Try.prog f (branch_checkFans_env.fs f) := by
  intro f
  by_cases h0 : f = 60
  · subst h0; exact fan_Check_tells
  by_cases h1 : f = 61
  · subst h1; exact branch_hasRoad_tells
  have : branch_checkFans_env.fs f = fun _ _ => none := by
    unfold branch_checkFans_env envS
    dsimp only
    split
    · exact absurd rfl h0
    · exact absurd rfl h1
    · rfl
  rw [this]
  exact Tells.none_ f
noncomputable def branch_checkFans_e : Env := { branch_checkFans_env with nt := 28 }
noncomputable def branch_checkFans_l4_b : Code := loopOf 4 Try.f36
theorem branch_checkFans_l4_round {R : Type} (fx : (Sq SFan) × (Sq SPlace) × (Sq SRoad) × (Sq SDoor)) (v : Int) (N : Nat) (K : AX → St → Option R) : aloop (fun s j => aexec branch_checkFans_e branch_checkFans_l4_b s j) (headOf branch_checkFans_e branch_checkFans_l4_b 704) (exitOf branch_checkFans_e branch_checkFans_l4_b 704) (N + 1) (branch_checkFans_l4_s (fx, v)) K = (branch_checkFans_l4_step fx.1 fx.2.1 fx.2.2.1 fx.2.2.2 v).run (LR.elim
    (fun v' => aloop (fun s j => aexec branch_checkFans_e branch_checkFans_l4_b s j) (headOf branch_checkFans_e branch_checkFans_l4_b 704) (exitOf branch_checkFans_e branch_checkFans_l4_b 704) N (branch_checkFans_l4_s (fx, v')) K)
    (fun a => K (.exit 0) (branch_checkFans_l4_el (branch_checkFans_l4_s (fx, v)) a))
    (fun a => K .ret (branch_checkFans_l4_er (branch_checkFans_l4_s (fx, v)) a))) := by kernel_rfl
theorem branch_checkFans_l4_tells : LoopTells branch_checkFans_e branch_checkFans_l4_b branch_checkFans_l4_c :=
  loopM_tells (s := branch_checkFans_l4_s) (stl := branch_checkFans_l4_el) (str := branch_checkFans_l4_er) (step := fun (fx : (Sq SFan) × (Sq SPlace) × (Sq SRoad) × (Sq SDoor)) (v : Int) => branch_checkFans_l4_step fx.1 fx.2.1 fx.2.2.1 fx.2.2.2 v) (n := 704) (fun _ => rfl) (fun _ _ _ _ => rfl) (fun _ _ _ _ => rfl) branch_checkFans_l4_round
theorem branch_checkFans_run (p : SAir) : arun branch_checkFans_env Try.f36 (branch_checkFans_enc p).1 (branch_checkFans_enc p).2 = (branch_checkFans_t p).run fun r => some (branch_checkFans_av r, branch_checkFans_outs (branch_checkFans_enc p).2 r) := by kernel_rfl
theorem branch_checkFans_loops : ∀ c, Try.f36.body = some c → LoopsOK { branch_checkFans_env with nt := Try.f36.ntmps } c := by
  intro c hc
  refine loops_of c fun c' hc' f hf => ?_
  have hb : loopsOf c = [branch_checkFans_l4_b] := by
    have : Try.f36.body.map loopsOf = some [branch_checkFans_l4_b] := by kernel_rfl
    rw [hc] at this
    injection this
  rw [hb] at hc'
  clear hb
  obtain rfl := List.mem_singleton.1 hc'
  have h6 : firstReg branch_checkFans_l4_b = 4 := by kernel_rfl
  rw [h6] at hf
  obtain rfl := Option.some.inj hf
  exact branch_checkFans_l4_tells
attribute [local irreducible] arun in
theorem branch_checkFans_tells : Tells Try.prog 36 c_branch_checkFans :=
  told_tells (E := branch_checkFans_env) (enc := branch_checkFans_enc) (av := branch_checkFans_av) (outs := branch_checkFans_outs) (t := fun p : SAir => branch_checkFans_t p) (by kernel_rfl) branch_checkFans_env_ok Try.func36 branch_checkFans_loops branch_checkFans_run
noncomputable def branch_checkFans (a : SAir) : Option (Int) := gOfA branch_checkFans_enc (fun p => (branch_checkFans_t p).get) (branch_checkFans_encC a).1 (branch_checkFans_encC a).2
theorem branch_checkFans_eq (a : SAir) : branch_checkFans a = (branch_checkFans_t a).get := congrFun (gOfA_eq branch_checkFans_inj (fun p => (branch_checkFans_t p).get)) a

/-! ### minecontrol/door.outOfRange -/
def door_outOfRange_encC (rest : Int) : List AV × List Blk := ([.int .i64 rest], [])
def door_outOfRange_enc (p : Int) : List AV × List Blk := door_outOfRange_encC p
theorem door_outOfRange_inj (p q : Int) (h : door_outOfRange_enc p = door_outOfRange_enc q) : p = q :=
  (show p = q from congrArg intA (congrArg (fun x : List AV × List Blk => x.1.getD 0 .undef) h))
noncomputable def door_outOfRange_t (rest : Int) : DT (Bool) :=
  .ite (decide (rest < (0 : Int))) (
    .leaf true) (
    .leaf (decide (rest > (262144 : Int))))
def door_outOfRange_av (r : Bool) : AV := .bool r
def door_outOfRange_outs (_ : List Blk) (_ : Bool) : List Blk := []
noncomputable def c_door_outOfRange : List AV → List Blk → Option Ans := told door_outOfRange_enc (fun p => (door_outOfRange_t p).get) door_outOfRange_av door_outOfRange_outs true (fun _ _ _ => ⟨rfl, fun b hb => by cases hb⟩)
noncomputable def door_outOfRange_env : Env := { envS (fun _ _ _ => none) with mm := some 0 }
theorem door_outOfRange_env_ok : ∀ f, Tells Try.prog f (door_outOfRange_env.fs f) := fun f => Tells.none_ f

theorem door_outOfRange_run (p : Int) : arun door_outOfRange_env Try.f80 (door_outOfRange_enc p).1 (door_outOfRange_enc p).2 = (door_outOfRange_t p).run fun r => some (door_outOfRange_av r, door_outOfRange_outs (door_outOfRange_enc p).2 r) := by kernel_rfl
attribute [local irreducible] arun in
theorem door_outOfRange_tells : Tells Try.prog 80 c_door_outOfRange :=
  told_tells (E := door_outOfRange_env) (enc := door_outOfRange_enc) (av := door_outOfRange_av) (outs := door_outOfRange_outs) (t := fun p : Int => door_outOfRange_t p) (by kernel_rfl) door_outOfRange_env_ok Try.func80 (fun c _ => loops_none (E := { door_outOfRange_env with nt := Try.f80.ntmps }) (fun _ => rfl) c) door_outOfRange_run
noncomputable def door_outOfRange (rest : Int) : Option (Bool) := gOfA door_outOfRange_enc (fun p => (door_outOfRange_t p).get) (door_outOfRange_encC rest).1 (door_outOfRange_encC rest).2
theorem door_outOfRange_eq (rest : Int) : door_outOfRange rest = (door_outOfRange_t rest).get := congrFun (gOfA_eq door_outOfRange_inj (fun p => (door_outOfRange_t p).get)) rest

/-! ### slices.IndexFunc[[]int,int] -/
def slices_IndexFunc_encC (s : (Sq Int)) : List AV × List Blk := ([.slc 1 s.n (fun k2667 => [.int .i64 (s.f k2667)]), .fn 80 []], [])
def slices_IndexFunc_enc (p : (Sq Int)) : List AV × List Blk := slices_IndexFunc_encC p
theorem slices_IndexFunc_inj (p q : (Sq Int)) (h : slices_IndexFunc_enc p = slices_IndexFunc_enc q) : p = q :=
  (Sq.av_inj intE_i64 (a := p) (b := q) (congrArg (fun x : List AV × List Blk => x.1.getD 0 .undef) h))
def slices_IndexFunc_l2_s (p : ((Sq Int)) × (Int)) : St := ⟨[(0, .slc 1 p.1.n (fun k2668 => [.int .i64 (p.1.f k2668)])), (1, .fn 80 []), (7, .int .i64 ((p.1.n : Nat) : Int)), (8, .int .i64 p.2)], [], 256⟩
theorem slices_IndexFunc_l2_inj (p q : ((Sq Int)) × (Int)) (h : slices_IndexFunc_l2_s p = slices_IndexFunc_l2_s q) : p = q :=
  Prod.ext (Sq.av_inj intE_i64 (a := p.1) (b := q.1) (congrArg (fun x : St => aget x.tm 0) h)) (show p.2 = q.2 from congrArg intA (congrArg (fun x : St => aget x.tm 8) h))
noncomputable def slices_IndexFunc_l2_step (s_2_0 : (Sq Int)) (v2_2 : Int) : DT (LR (Int) (Unit) (Int)) :=
  .ite (decide (v2_2 < ((s_2_0.n : Nat) : Int))) (
    .ite (decide ((0 : Int) ≤ v2_2 ∧ v2_2 < ((s_2_0.n : Nat) : Int))) (
      .bind (door_outOfRange (s_2_0.f (Int.toNat v2_2))) fun z1716 =>
      .ite z1716 (
        .leaf (.r v2_2)) (
        .leaf (.next (wr (v2_2 + (1 : Int)))))) (
      .fail)) (
    .leaf (.l ()))
def slices_IndexFunc_l2_el (_ : St) (_ : Unit) : St := ⟨[(4, .undef)], [], 256⟩
def slices_IndexFunc_l2_er (_ : St) (a : Int) : St := ⟨[(4, .int .i64 a)], [], 256⟩
noncomputable def slices_IndexFunc_l2_f (p : ((Sq Int)) × (Int)) : Option ((Unit) ⊕ (Int)) := fixO (fun v : Int => slices_IndexFunc_l2_step p.1 v) p.2
noncomputable def slices_IndexFunc_l2_c : St → Option LRes := loopM slices_IndexFunc_l2_s slices_IndexFunc_l2_f false (.exit 0) slices_IndexFunc_l2_el .ret slices_IndexFunc_l2_er
noncomputable def slices_IndexFunc_l2 (s_2_0 : (Sq Int)) (v2_2 : Int) : Option ((Unit) ⊕ (Int)) := gOfS slices_IndexFunc_l2_s slices_IndexFunc_l2_f (slices_IndexFunc_l2_s (s_2_0, v2_2))
theorem slices_IndexFunc_l2_eq (s_2_0 : (Sq Int)) (v2_2 : Int) : slices_IndexFunc_l2 s_2_0 v2_2 = fixO (fun v : Int => slices_IndexFunc_l2_step s_2_0 v) v2_2 := gOfS_eq slices_IndexFunc_l2_inj slices_IndexFunc_l2_f (s_2_0, v2_2)
noncomputable def slices_IndexFunc_t (s : (Sq Int)) : DT (Int) :=
  .sum (slices_IndexFunc_l2 s (0 : Int)) (fun _ =>
    .leaf (-1 : Int)) (fun y1718 =>
    .leaf y1718)
def slices_IndexFunc_av (r : Int) : AV := .int .i64 r
def slices_IndexFunc_outs (_ : List Blk) (_ : Int) : List Blk := []
noncomputable def c_slices_IndexFunc : List AV → List Blk → Option Ans := told slices_IndexFunc_enc (fun p => (slices_IndexFunc_t p).get) slices_IndexFunc_av slices_IndexFunc_outs true (fun _ _ _ => ⟨rfl, fun b hb => by cases hb⟩)
noncomputable def slices_IndexFunc_env : Env := { envS (fun f => match f with
  | 80 => c_door_outOfRange
  | _ => fun _ _ => none) (fun r => match r with | 2 => some ([0, 1, 7, 8], [4]) | _ => none) with loops := fun r => match r with | 2 => some slices_IndexFunc_l2_c | _ => none, gc := fun r => match r with | 2 => some [] | _ => none, mm := some 0 }
theorem slices_IndexFunc_env_ok : ∀ f, Tells Try.prog f (slices_IndexFunc_env.fs f) := by
  intro f
  by_cases h0 : f = 80
  · subst h0; exact door_outOfRange_tells
  have : slices_IndexFunc_env.fs f = fun _ _ => none := by
    unfold slices_IndexFunc_env envS
    dsimp only
    split
    · exact absurd rfl h0
    · rfl
  rw [this]
  exact Tells.none_ f
noncomputable def slices_IndexFunc_e : Env := { slices_IndexFunc_env with nt := 19 }
noncomputable def slices_IndexFunc_l2_b : Code := loopOf 2 Try.f89
theorem slices_IndexFunc_l2_round {R : Type} (fx : (Sq Int)) (v : Int) (N : Nat) (K : AX → St → Option R) : aloop (fun s j => aexec slices_IndexFunc_e slices_IndexFunc_l2_b s j) (headOf slices_IndexFunc_e slices_IndexFunc_l2_b 256) (exitOf slices_IndexFunc_e slices_IndexFunc_l2_b 256) (N + 1) (slices_IndexFunc_l2_s (fx, v)) K = (slices_IndexFunc_l2_step fx v).run (LR.elim
    (fun v' => aloop (fun s j => aexec slices_IndexFunc_e slices_IndexFunc_l2_b s j) (headOf slices_IndexFunc_e slices_IndexFunc_l2_b 256) (exitOf slices_IndexFunc_e slices_IndexFunc_l2_b 256) N (slices_IndexFunc_l2_s (fx, v')) K)
    (fun a => K (.exit 0) (slices_IndexFunc_l2_el (slices_IndexFunc_l2_s (fx, v)) a))
    (fun a => K .ret (slices_IndexFunc_l2_er (slices_IndexFunc_l2_s (fx, v)) a))) := by kernel_rfl
theorem slices_IndexFunc_l2_tells : LoopTells slices_IndexFunc_e slices_IndexFunc_l2_b slices_IndexFunc_l2_c :=
  loopM_tells (s := slices_IndexFunc_l2_s) (stl := slices_IndexFunc_l2_el) (str := slices_IndexFunc_l2_er) (step := fun (fx : (Sq Int)) (v : Int) => slices_IndexFunc_l2_step fx v) (n := 256) (fun _ => rfl) (fun _ _ _ _ => rfl) (fun _ _ _ _ => rfl) slices_IndexFunc_l2_round
theorem slices_IndexFunc_run (p : (Sq Int)) : arun slices_IndexFunc_env Try.f89 (slices_IndexFunc_enc p).1 (slices_IndexFunc_enc p).2 = (slices_IndexFunc_t p).run fun r => some (slices_IndexFunc_av r, slices_IndexFunc_outs (slices_IndexFunc_enc p).2 r) := by kernel_rfl
theorem slices_IndexFunc_loops : ∀ c, Try.f89.body = some c → LoopsOK { slices_IndexFunc_env with nt := Try.f89.ntmps } c := by
  intro c hc
  refine loops_of c fun c' hc' f hf => ?_
  have hb : loopsOf c = [slices_IndexFunc_l2_b] := by
    have : Try.f89.body.map loopsOf = some [slices_IndexFunc_l2_b] := by kernel_rfl
    rw [hc] at this
    injection this
  rw [hb] at hc'
  clear hb
  obtain rfl := List.mem_singleton.1 hc'
  have h6 : firstReg slices_IndexFunc_l2_b = 2 := by kernel_rfl
  rw [h6] at hf
  obtain rfl := Option.some.inj hf
  exact slices_IndexFunc_l2_tells
attribute [local irreducible] arun in
theorem slices_IndexFunc_tells : Tells Try.prog 89 c_slices_IndexFunc :=
  told_tells (E := slices_IndexFunc_env) (enc := slices_IndexFunc_enc) (av := slices_IndexFunc_av) (outs := slices_IndexFunc_outs) (t := fun p : (Sq Int) => slices_IndexFunc_t p) (by kernel_rfl) slices_IndexFunc_env_ok Try.func89 slices_IndexFunc_loops slices_IndexFunc_run
noncomputable def slices_IndexFunc (s : (Sq Int)) : Option (Int) := gOfA slices_IndexFunc_enc (fun p => (slices_IndexFunc_t p).get) (slices_IndexFunc_encC s).1 (slices_IndexFunc_encC s).2
theorem slices_IndexFunc_eq (s : (Sq Int)) : slices_IndexFunc s = (slices_IndexFunc_t s).get := congrFun (gOfA_eq slices_IndexFunc_inj (fun p => (slices_IndexFunc_t p).get)) s

/-! ### slices.ContainsFunc[[]int,int] -/
def slices_ContainsFunc_encC (s : (Sq Int)) : List AV × List Blk := ([.slc 1 s.n (fun k2669 => [.int .i64 (s.f k2669)]), .fn 80 []], [])
def slices_ContainsFunc_enc (p : (Sq Int)) : List AV × List Blk := slices_ContainsFunc_encC p
theorem slices_ContainsFunc_inj (p q : (Sq Int)) (h : slices_ContainsFunc_enc p = slices_ContainsFunc_enc q) : p = q :=
  (Sq.av_inj intE_i64 (a := p) (b := q) (congrArg (fun x : List AV × List Blk => x.1.getD 0 .undef) h))
noncomputable def slices_ContainsFunc_t (s : (Sq Int)) : DT (Bool) :=
  .bind (slices_IndexFunc s) fun z1719 =>
  .leaf (decide (z1719 ≥ (0 : Int)))
def slices_ContainsFunc_av (r : Bool) : AV := .bool r
def slices_ContainsFunc_outs (_ : List Blk) (_ : Bool) : List Blk := []
noncomputable def c_slices_ContainsFunc : List AV → List Blk → Option Ans := told slices_ContainsFunc_enc (fun p => (slices_ContainsFunc_t p).get) slices_ContainsFunc_av slices_ContainsFunc_outs true (fun _ _ _ => ⟨rfl, fun b hb => by cases hb⟩)
noncomputable def slices_ContainsFunc_env : Env := { envS (fun f => match f with
  | 89 => c_slices_IndexFunc
  | _ => fun _ _ => none) with mm := some 0 }
theorem slices_ContainsFunc_env_ok : ∀ f, Tells Try.prog f (slices_ContainsFunc_env.fs f) := by
  intro f
  by_cases h0 : f = 89
  · subst h0; exact slices_IndexFunc_tells
  have : slices_ContainsFunc_env.fs f = fun _ _ => none := by
    unfold slices_ContainsFunc_env envS
    dsimp only
    split
    · exact absurd rfl h0
    · rfl
  rw [this]
  exact Tells.none_ f
theorem slices_ContainsFunc_run (p : (Sq Int)) : arun slices_ContainsFunc_env Try.f79 (slices_ContainsFunc_enc p).1 (slices_ContainsFunc_enc p).2 = (slices_ContainsFunc_t p).run fun r => some (slices_ContainsFunc_av r, slices_ContainsFunc_outs (slices_ContainsFunc_enc p).2 r) := by kernel_rfl
attribute [local irreducible] arun in
theorem slices_ContainsFunc_tells : Tells Try.prog 79 c_slices_ContainsFunc :=
  told_tells (E := slices_ContainsFunc_env) (enc := slices_ContainsFunc_enc) (av := slices_ContainsFunc_av) (outs := slices_ContainsFunc_outs) (t := fun p : (Sq Int) => slices_ContainsFunc_t p) (by kernel_rfl) slices_ContainsFunc_env_ok Try.func79 (fun c _ => loops_none (E := { slices_ContainsFunc_env with nt := Try.f79.ntmps }) (fun _ => rfl) c) slices_ContainsFunc_run
noncomputable def slices_ContainsFunc (s : (Sq Int)) : Option (Bool) := gOfA slices_ContainsFunc_enc (fun p => (slices_ContainsFunc_t p).get) (slices_ContainsFunc_encC s).1 (slices_ContainsFunc_encC s).2
theorem slices_ContainsFunc_eq (s : (Sq Int)) : slices_ContainsFunc s = (slices_ContainsFunc_t s).get := congrFun (gOfA_eq slices_ContainsFunc_inj (fun p => (slices_ContainsFunc_t p).get)) s

/-! ### minecontrol/door.descend -/
def door_descend_encC (l : (Sq Int)) : List AV × List Blk := ([.slc 1 l.n (fun k2670 => [.int .i64 (l.f k2670)])], [])
def door_descend_enc (p : (Sq Int)) : List AV × List Blk := door_descend_encC p
theorem door_descend_inj (p q : (Sq Int)) (h : door_descend_enc p = door_descend_enc q) : p = q :=
  (Sq.av_inj intE_i64 (a := p) (b := q) (congrArg (fun x : List AV × List Blk => x.1.getD 0 .undef) h))
def door_descend_l2_s (p : ((Sq Int)) × (Int)) : St := ⟨[(0, .slc 1 p.1.n (fun k2671 => [.int .i64 (p.1.f k2671)])), (5, .int .i64 ((p.1.n : Nat) : Int)), (6, .int .i64 p.2)], [], 256⟩
theorem door_descend_l2_inj (p q : ((Sq Int)) × (Int)) (h : door_descend_l2_s p = door_descend_l2_s q) : p = q :=
  Prod.ext (Sq.av_inj intE_i64 (a := p.1) (b := q.1) (congrArg (fun x : St => aget x.tm 0) h)) (show p.2 = q.2 from congrArg intA (congrArg (fun x : St => aget x.tm 6) h))
noncomputable def door_descend_l2_step (l_2_0 : (Sq Int)) (v2_2 : Int) : DT (LR (Int) (Unit) (Unit)) :=
  .ite (decide (v2_2 < ((l_2_0.n : Nat) : Int))) (
    .ite (decide (v2_2 > (0 : Int))) (
      .ite (decide ((0 : Int) ≤ v2_2 ∧ v2_2 < ((l_2_0.n : Nat) : Int))) (
        .ite (decide ((0 : Int) ≤ (wr (v2_2 - (1 : Int))) ∧ (wr (v2_2 - (1 : Int))) < ((l_2_0.n : Nat) : Int))) (
          .ite (decide ((l_2_0.f (Int.toNat v2_2)) ≥ (l_2_0.f (Int.toNat (wr (v2_2 - (1 : Int))))))) (
            .leaf (.r ())) (
            .leaf (.next (wr (v2_2 + (1 : Int)))))) (
          .fail)) (
        .fail)) (
      .leaf (.next (wr (v2_2 + (1 : Int)))))) (
    .leaf (.l ()))
def door_descend_l2_el (_ : St) (_ : Unit) : St := ⟨[(2, .undef)], [], 256⟩
def door_descend_l2_er (_ : St) (_ : Unit) : St := ⟨[(2, .bool false)], [], 256⟩
noncomputable def door_descend_l2_f (p : ((Sq Int)) × (Int)) : Option ((Unit) ⊕ (Unit)) := fixO (fun v : Int => door_descend_l2_step p.1 v) p.2
noncomputable def door_descend_l2_c : St → Option LRes := loopM door_descend_l2_s door_descend_l2_f false (.exit 0) door_descend_l2_el .ret door_descend_l2_er
noncomputable def door_descend_l2 (l_2_0 : (Sq Int)) (v2_2 : Int) : Option ((Unit) ⊕ (Unit)) := gOfS door_descend_l2_s door_descend_l2_f (door_descend_l2_s (l_2_0, v2_2))
theorem door_descend_l2_eq (l_2_0 : (Sq Int)) (v2_2 : Int) : door_descend_l2 l_2_0 v2_2 = fixO (fun v : Int => door_descend_l2_step l_2_0 v) v2_2 := gOfS_eq door_descend_l2_inj door_descend_l2_f (l_2_0, v2_2)
noncomputable def door_descend_t (l : (Sq Int)) : DT (Bool) :=
  .sum (door_descend_l2 l (0 : Int)) (fun _ =>
    .leaf true) (fun _ =>
    .leaf false)
def door_descend_av (r : Bool) : AV := .bool r
def door_descend_outs (_ : List Blk) (_ : Bool) : List Blk := []
noncomputable def c_door_descend : List AV → List Blk → Option Ans := told door_descend_enc (fun p => (door_descend_t p).get) door_descend_av door_descend_outs true (fun _ _ _ => ⟨rfl, fun b hb => by cases hb⟩)
noncomputable def door_descend_env : Env := { envS (fun _ _ _ => none) (fun r => match r with | 2 => some ([0, 5, 6], [2]) | _ => none) with loops := fun r => match r with | 2 => some door_descend_l2_c | _ => none, gc := fun r => match r with | 2 => some [] | _ => none, mm := some 0 }
theorem door_descend_env_ok : ∀ f, Tells Try.prog f (door_descend_env.fs f) := fun f => Tells.none_ f

noncomputable def door_descend_e : Env := { door_descend_env with nt := 24 }
noncomputable def door_descend_l2_b : Code := loopOf 2 Try.f81
theorem door_descend_l2_round {R : Type} (fx : (Sq Int)) (v : Int) (N : Nat) (K : AX → St → Option R) : aloop (fun s j => aexec door_descend_e door_descend_l2_b s j) (headOf door_descend_e door_descend_l2_b 256) (exitOf door_descend_e door_descend_l2_b 256) (N + 1) (door_descend_l2_s (fx, v)) K = (door_descend_l2_step fx v).run (LR.elim
    (fun v' => aloop (fun s j => aexec door_descend_e door_descend_l2_b s j) (headOf door_descend_e door_descend_l2_b 256) (exitOf door_descend_e door_descend_l2_b 256) N (door_descend_l2_s (fx, v')) K)
    (fun a => K (.exit 0) (door_descend_l2_el (door_descend_l2_s (fx, v)) a))
    (fun a => K .ret (door_descend_l2_er (door_descend_l2_s (fx, v)) a))) := by kernel_rfl
theorem door_descend_l2_tells : LoopTells door_descend_e door_descend_l2_b door_descend_l2_c :=
  loopM_tells (s := door_descend_l2_s) (stl := door_descend_l2_el) (str := door_descend_l2_er) (step := fun (fx : (Sq Int)) (v : Int) => door_descend_l2_step fx v) (n := 256) (fun _ => rfl) (fun _ _ _ _ => rfl) (fun _ _ _ _ => rfl) door_descend_l2_round
theorem door_descend_run (p : (Sq Int)) : arun door_descend_env Try.f81 (door_descend_enc p).1 (door_descend_enc p).2 = (door_descend_t p).run fun r => some (door_descend_av r, door_descend_outs (door_descend_enc p).2 r) := by kernel_rfl
theorem door_descend_loops : ∀ c, Try.f81.body = some c → LoopsOK { door_descend_env with nt := Try.f81.ntmps } c := by
  intro c hc
  refine loops_of c fun c' hc' f hf => ?_
  have hb : loopsOf c = [door_descend_l2_b] := by
    have : Try.f81.body.map loopsOf = some [door_descend_l2_b] := by kernel_rfl
    rw [hc] at this
    injection this
  rw [hb] at hc'
  clear hb
  obtain rfl := List.mem_singleton.1 hc'
  have h6 : firstReg door_descend_l2_b = 2 := by kernel_rfl
  rw [h6] at hf
  obtain rfl := Option.some.inj hf
  exact door_descend_l2_tells
attribute [local irreducible] arun in
theorem door_descend_tells : Tells Try.prog 81 c_door_descend :=
  told_tells (E := door_descend_env) (enc := door_descend_enc) (av := door_descend_av) (outs := door_descend_outs) (t := fun p : (Sq Int) => door_descend_t p) (by kernel_rfl) door_descend_env_ok Try.func81 door_descend_loops door_descend_run
noncomputable def door_descend (l : (Sq Int)) : Option (Bool) := gOfA door_descend_enc (fun p => (door_descend_t p).get) (door_descend_encC l).1 (door_descend_encC l).2
theorem door_descend_eq (l : (Sq Int)) : door_descend l = (door_descend_t l).get := congrFun (gOfA_eq door_descend_inj (fun p => (door_descend_t p).get)) l

/-! ### minecontrol/door.has -/
def door_has_encC (things : Int) (number : Int) : List AV × List Blk := ([.int .i64 things, .int .i64 number], [])
def door_has_enc (p : Int × Int) : List AV × List Blk := door_has_encC p.1 p.2
theorem door_has_inj (p q : Int × Int) (h : door_has_enc p = door_has_enc q) : p = q :=
  (Prod.ext (show p.1 = q.1 from congrArg intA (congrArg (fun x : List AV × List Blk => x.1.getD 0 .undef) h)) (show p.2 = q.2 from congrArg intA (congrArg (fun x : List AV × List Blk => x.1.getD 1 .undef) h)))
noncomputable def door_has_t (things : Int) (number : Int) : DT (Bool) :=
  .ite (decide ((0 : Int) ≤ number)) (
    .leaf (decide (number < things))) (
    .leaf false)
def door_has_av (r : Bool) : AV := .bool r
def door_has_outs (_ : List Blk) (_ : Bool) : List Blk := []
noncomputable def c_door_has : List AV → List Blk → Option Ans := told door_has_enc (fun p => (door_has_t p.1 p.2).get) door_has_av door_has_outs true (fun _ _ _ => ⟨rfl, fun b hb => by cases hb⟩)
noncomputable def door_has_env : Env := { envS (fun _ _ _ => none) with mm := some 0 }
theorem door_has_env_ok : ∀ f, Tells Try.prog f (door_has_env.fs f) := fun f => Tells.none_ f

theorem door_has_run (p : Int × Int) : arun door_has_env Try.f83 (door_has_enc p).1 (door_has_enc p).2 = (door_has_t p.1 p.2).run fun r => some (door_has_av r, door_has_outs (door_has_enc p).2 r) := by kernel_rfl
attribute [local irreducible] arun in
theorem door_has_tells : Tells Try.prog 83 c_door_has :=
  told_tells (E := door_has_env) (enc := door_has_enc) (av := door_has_av) (outs := door_has_outs) (t := fun p : Int × Int => door_has_t p.1 p.2) (by kernel_rfl) door_has_env_ok Try.func83 (fun c _ => loops_none (E := { door_has_env with nt := Try.f83.ntmps }) (fun _ => rfl) c) door_has_run
noncomputable def door_has (things : Int) (number : Int) : Option (Bool) := gOfA door_has_enc (fun p => (door_has_t p.1 p.2).get) (door_has_encC things number).1 (door_has_encC things number).2
theorem door_has_eq (things : Int) (number : Int) : door_has things number = (door_has_t things number).get := congrFun (gOfA_eq door_has_inj (fun p => (door_has_t p.1 p.2).get)) (things, number)

/-! ### minecontrol/door.paired -/
def door_paired_encC (l : (Sq SDoor)) (i : Int) : List AV × List Blk := ([.slc 3 l.n (fun k2672 => (SDoor.enc (l.f k2672))), .int .i64 i], [])
def door_paired_enc (p : (Sq SDoor) × Int) : List AV × List Blk := door_paired_encC p.1 p.2
theorem door_paired_inj (p q : (Sq SDoor) × Int) (h : door_paired_enc p = door_paired_enc q) : p = q :=
  (Prod.ext (Sq.av_inj SDoor.inj (a := p.1) (b := q.1) (congrArg (fun x : List AV × List Blk => x.1.getD 0 .undef) h)) (show p.2 = q.2 from congrArg intA (congrArg (fun x : List AV × List Blk => x.1.getD 1 .undef) h)))
noncomputable def door_paired_t (l : (Sq SDoor)) (i : Int) : DT (Bool) :=
  .ite (decide ((0 : Int) ≤ i ∧ i < ((l.n : Nat) : Int))) (
    .ite ((l.f (Int.toNat i)).Other == (-1 : Int)) (
      .leaf true) (
      .ite ((l.f (Int.toNat i)).Other != i) (
        .bind (door_has ((l.n : Nat) : Int) (l.f (Int.toNat i)).Other) fun z1724 =>
        .ite z1724 (
          .ite (decide ((0 : Int) ≤ (l.f (Int.toNat i)).Other ∧ (l.f (Int.toNat i)).Other < ((l.n : Nat) : Int))) (
            .leaf ((l.f (Int.toNat (l.f (Int.toNat i)).Other)).Other == i)) (
            .fail)) (
          .leaf false)) (
        .leaf false))) (
    .fail)
def door_paired_av (r : Bool) : AV := .bool r
def door_paired_outs (_ : List Blk) (_ : Bool) : List Blk := []
noncomputable def c_door_paired : List AV → List Blk → Option Ans := told door_paired_enc (fun p => (door_paired_t p.1 p.2).get) door_paired_av door_paired_outs true (fun _ _ _ => ⟨rfl, fun b hb => by cases hb⟩)
noncomputable def door_paired_env : Env := { envS (fun f => match f with
  | 83 => c_door_has
  | _ => fun _ _ => none) with mm := some 0 }
theorem door_paired_env_ok : ∀ f, Tells Try.prog f (door_paired_env.fs f) := by
  intro f
  by_cases h0 : f = 83
  · subst h0; exact door_has_tells
  have : door_paired_env.fs f = fun _ _ => none := by
    unfold door_paired_env envS
    dsimp only
    split
    · exact absurd rfl h0
    · rfl
  rw [this]
  exact Tells.none_ f
theorem door_paired_run (p : (Sq SDoor) × Int) : arun door_paired_env Try.f82 (door_paired_enc p).1 (door_paired_enc p).2 = (door_paired_t p.1 p.2).run fun r => some (door_paired_av r, door_paired_outs (door_paired_enc p).2 r) := by kernel_rfl
attribute [local irreducible] arun in
theorem door_paired_tells : Tells Try.prog 82 c_door_paired :=
  told_tells (E := door_paired_env) (enc := door_paired_enc) (av := door_paired_av) (outs := door_paired_outs) (t := fun p : (Sq SDoor) × Int => door_paired_t p.1 p.2) (by kernel_rfl) door_paired_env_ok Try.func82 (fun c _ => loops_none (E := { door_paired_env with nt := Try.f82.ntmps }) (fun _ => rfl) c) door_paired_run
noncomputable def door_paired (l : (Sq SDoor)) (i : Int) : Option (Bool) := gOfA door_paired_enc (fun p => (door_paired_t p.1 p.2).get) (door_paired_encC l i).1 (door_paired_encC l i).2
theorem door_paired_eq (l : (Sq SDoor)) (i : Int) : door_paired l i = (door_paired_t l i).get := congrFun (gOfA_eq door_paired_inj (fun p => (door_paired_t p.1 p.2).get)) (l, i)

/-! ### minecontrol/door.checkDoor -/
def door_checkDoor_encC (l : (Sq SDoor)) (i : Int) : List AV × List Blk := ([.slc 3 l.n (fun k2673 => (SDoor.enc (l.f k2673))), .int .i64 i], [])
def door_checkDoor_enc (p : (Sq SDoor) × Int) : List AV × List Blk := door_checkDoor_encC p.1 p.2
theorem door_checkDoor_inj (p q : (Sq SDoor) × Int) (h : door_checkDoor_enc p = door_checkDoor_enc q) : p = q :=
  (Prod.ext (Sq.av_inj SDoor.inj (a := p.1) (b := q.1) (congrArg (fun x : List AV × List Blk => x.1.getD 0 .undef) h)) (show p.2 = q.2 from congrArg intA (congrArg (fun x : List AV × List Blk => x.1.getD 1 .undef) h)))
noncomputable def door_checkDoor_t (l : (Sq SDoor)) (i : Int) : DT (Int) :=
  .ite (decide ((0 : Int) ≤ i ∧ i < ((l.n : Nat) : Int))) (
    .ite (decide ((l.f (Int.toNat i)).Road < (0 : Int))) (
      .leaf (4 : Int)) (
      .ite (decide ((((l.f (Int.toNat i)).Rests.n : Nat) : Int) < (2 : Int))) (
        .leaf (2 : Int)) (
        .ite (decide ((((l.f (Int.toNat i)).Rests.n : Nat) : Int) > (6 : Int))) (
          .leaf (2 : Int)) (
          .bind (slices_ContainsFunc (l.f (Int.toNat i)).Rests) fun z1720 =>
          .ite z1720 (
            .leaf (1 : Int)) (
            .bind (door_descend (l.f (Int.toNat i)).Rests) fun z1723 =>
            .ite (!z1723) (
              .leaf (15 : Int)) (
              .bind (door_paired l i) fun z1725 =>
              .ite (!z1725) (
                .leaf (15 : Int)) (
                .leaf (0 : Int)))))))) (
    .fail)
def door_checkDoor_av (r : Int) : AV := .int .i64 r
def door_checkDoor_outs (_ : List Blk) (_ : Int) : List Blk := []
noncomputable def c_door_checkDoor : List AV → List Blk → Option Ans := told door_checkDoor_enc (fun p => (door_checkDoor_t p.1 p.2).get) door_checkDoor_av door_checkDoor_outs true (fun _ _ _ => ⟨rfl, fun b hb => by cases hb⟩)
noncomputable def door_checkDoor_env : Env := { envS (fun f => match f with
  | 79 => c_slices_ContainsFunc
  | 81 => c_door_descend
  | 82 => c_door_paired
  | _ => fun _ _ => none) with mm := some 0 }
theorem door_checkDoor_env_ok : ∀ f, Tells Try.prog f (door_checkDoor_env.fs f) := by
  intro f
  by_cases h0 : f = 79
  · subst h0; exact slices_ContainsFunc_tells
  by_cases h1 : f = 81
  · subst h1; exact door_descend_tells
  by_cases h2 : f = 82
  · subst h2; exact door_paired_tells
  have : door_checkDoor_env.fs f = fun _ _ => none := by
    unfold door_checkDoor_env envS
    dsimp only
    split
    · exact absurd rfl h0
    · exact absurd rfl h1
    · exact absurd rfl h2
    · rfl
  rw [this]
  exact Tells.none_ f
theorem door_checkDoor_run (p : (Sq SDoor) × Int) : arun door_checkDoor_env Try.f74 (door_checkDoor_enc p).1 (door_checkDoor_enc p).2 = (door_checkDoor_t p.1 p.2).run fun r => some (door_checkDoor_av r, door_checkDoor_outs (door_checkDoor_enc p).2 r) := by kernel_rfl
attribute [local irreducible] arun in
theorem door_checkDoor_tells : Tells Try.prog 74 c_door_checkDoor :=
  told_tells (E := door_checkDoor_env) (enc := door_checkDoor_enc) (av := door_checkDoor_av) (outs := door_checkDoor_outs) (t := fun p : (Sq SDoor) × Int => door_checkDoor_t p.1 p.2) (by kernel_rfl) door_checkDoor_env_ok Try.func74 (fun c _ => loops_none (E := { door_checkDoor_env with nt := Try.f74.ntmps }) (fun _ => rfl) c) door_checkDoor_run
noncomputable def door_checkDoor (l : (Sq SDoor)) (i : Int) : Option (Int) := gOfA door_checkDoor_enc (fun p => (door_checkDoor_t p.1 p.2).get) (door_checkDoor_encC l i).1 (door_checkDoor_encC l i).2
theorem door_checkDoor_eq (l : (Sq SDoor)) (i : Int) : door_checkDoor l i = (door_checkDoor_t l i).get := congrFun (gOfA_eq door_checkDoor_inj (fun p => (door_checkDoor_t p.1 p.2).get)) (l, i)

/-! ### minecontrol/door.Check -/
def door_Check_encC (l : (Sq SDoor)) : List AV × List Blk := ([.slc 3 l.n (fun k2674 => (SDoor.enc (l.f k2674)))], [])
def door_Check_enc (p : (Sq SDoor)) : List AV × List Blk := door_Check_encC p
theorem door_Check_inj (p q : (Sq SDoor)) (h : door_Check_enc p = door_Check_enc q) : p = q :=
  (Sq.av_inj SDoor.inj (a := p) (b := q) (congrArg (fun x : List AV × List Blk => x.1.getD 0 .undef) h))
def door_Check_l4_s (p : ((Sq SDoor)) × (Int)) : St := ⟨[(0, .slc 3 p.1.n (fun k2675 => (SDoor.enc (p.1.f k2675)))), (9, .int .i64 ((p.1.n : Nat) : Int)), (10, .int .i64 p.2)], [], 512⟩
theorem door_Check_l4_inj (p q : ((Sq SDoor)) × (Int)) (h : door_Check_l4_s p = door_Check_l4_s q) : p = q :=
  Prod.ext (Sq.av_inj SDoor.inj (a := p.1) (b := q.1) (congrArg (fun x : St => aget x.tm 0) h)) (show p.2 = q.2 from congrArg intA (congrArg (fun x : St => aget x.tm 10) h))
noncomputable def door_Check_l4_step (l_4_0 : (Sq SDoor)) (v4_2 : Int) : DT (LR (Int) (Unit) (Int)) :=
  .ite (decide (v4_2 < ((l_4_0.n : Nat) : Int))) (
    .bind (door_checkDoor l_4_0 v4_2) fun z1728 =>
    .ite (z1728 != (0 : Int)) (
      .leaf (.r z1728)) (
      .leaf (.next (wr (v4_2 + (1 : Int)))))) (
    .leaf (.l ()))
def door_Check_l4_el (_ : St) (_ : Unit) : St := ⟨[(2, .undef)], [], 512⟩
def door_Check_l4_er (_ : St) (a : Int) : St := ⟨[(2, .int .i64 a)], [], 512⟩
noncomputable def door_Check_l4_f (p : ((Sq SDoor)) × (Int)) : Option ((Unit) ⊕ (Int)) := fixO (fun v : Int => door_Check_l4_step p.1 v) p.2
noncomputable def door_Check_l4_c : St → Option LRes := loopM door_Check_l4_s door_Check_l4_f false (.exit 0) door_Check_l4_el .ret door_Check_l4_er
noncomputable def door_Check_l4 (l_4_0 : (Sq SDoor)) (v4_2 : Int) : Option ((Unit) ⊕ (Int)) := gOfS door_Check_l4_s door_Check_l4_f (door_Check_l4_s (l_4_0, v4_2))
theorem door_Check_l4_eq (l_4_0 : (Sq SDoor)) (v4_2 : Int) : door_Check_l4 l_4_0 v4_2 = fixO (fun v : Int => door_Check_l4_step l_4_0 v) v4_2 := gOfS_eq door_Check_l4_inj door_Check_l4_f (l_4_0, v4_2)
noncomputable def door_Check_t (l : (Sq SDoor)) : DT (Int) :=
  .ite (decide (((l.n : Nat) : Int) > (16 : Int))) (
    .leaf (2 : Int)) (
    .sum (door_Check_l4 l (0 : Int)) (fun _ =>
      .leaf (0 : Int)) (fun y1730 =>
      .leaf y1730))
def door_Check_av (r : Int) : AV := .int .i64 r
def door_Check_outs (_ : List Blk) (_ : Int) : List Blk := []
noncomputable def c_door_Check : List AV → List Blk → Option Ans := told door_Check_enc (fun p => (door_Check_t p).get) door_Check_av door_Check_outs true (fun _ _ _ => ⟨rfl, fun b hb => by cases hb⟩)
noncomputable def door_Check_env : Env := { envS (fun f => match f with
  | 74 => c_door_checkDoor
  | _ => fun _ _ => none) (fun r => match r with | 4 => some ([0, 9, 10], [2]) | _ => none) with loops := fun r => match r with | 4 => some door_Check_l4_c | _ => none, gc := fun r => match r with | 4 => some [] | _ => none, mm := some 0 }
theorem door_Check_env_ok : ∀ f, Tells Try.prog f (door_Check_env.fs f) := by
  intro f
  by_cases h0 : f = 74
  · subst h0; exact door_checkDoor_tells
  have : door_Check_env.fs f = fun _ _ => none := by
    unfold door_Check_env envS
    dsimp only
    split
    · exact absurd rfl h0
    · rfl
  rw [this]
  exact Tells.none_ f
noncomputable def door_Check_e : Env := { door_Check_env with nt := 20 }
noncomputable def door_Check_l4_b : Code := loopOf 4 Try.f62
theorem door_Check_l4_round {R : Type} (fx : (Sq SDoor)) (v : Int) (N : Nat) (K : AX → St → Option R) : aloop (fun s j => aexec door_Check_e door_Check_l4_b s j) (headOf door_Check_e door_Check_l4_b 512) (exitOf door_Check_e door_Check_l4_b 512) (N + 1) (door_Check_l4_s (fx, v)) K = (door_Check_l4_step fx v).run (LR.elim
    (fun v' => aloop (fun s j => aexec door_Check_e door_Check_l4_b s j) (headOf door_Check_e door_Check_l4_b 512) (exitOf door_Check_e door_Check_l4_b 512) N (door_Check_l4_s (fx, v')) K)
    (fun a => K (.exit 0) (door_Check_l4_el (door_Check_l4_s (fx, v)) a))
    (fun a => K .ret (door_Check_l4_er (door_Check_l4_s (fx, v)) a))) := by kernel_rfl
theorem door_Check_l4_tells : LoopTells door_Check_e door_Check_l4_b door_Check_l4_c :=
  loopM_tells (s := door_Check_l4_s) (stl := door_Check_l4_el) (str := door_Check_l4_er) (step := fun (fx : (Sq SDoor)) (v : Int) => door_Check_l4_step fx v) (n := 512) (fun _ => rfl) (fun _ _ _ _ => rfl) (fun _ _ _ _ => rfl) door_Check_l4_round
theorem door_Check_run (p : (Sq SDoor)) : arun door_Check_env Try.f62 (door_Check_enc p).1 (door_Check_enc p).2 = (door_Check_t p).run fun r => some (door_Check_av r, door_Check_outs (door_Check_enc p).2 r) := by kernel_rfl
theorem door_Check_loops : ∀ c, Try.f62.body = some c → LoopsOK { door_Check_env with nt := Try.f62.ntmps } c := by
  intro c hc
  refine loops_of c fun c' hc' f hf => ?_
  have hb : loopsOf c = [door_Check_l4_b] := by
    have : Try.f62.body.map loopsOf = some [door_Check_l4_b] := by kernel_rfl
    rw [hc] at this
    injection this
  rw [hb] at hc'
  clear hb
  obtain rfl := List.mem_singleton.1 hc'
  have h6 : firstReg door_Check_l4_b = 4 := by kernel_rfl
  rw [h6] at hf
  obtain rfl := Option.some.inj hf
  exact door_Check_l4_tells
attribute [local irreducible] arun in
theorem door_Check_tells : Tells Try.prog 62 c_door_Check :=
  told_tells (E := door_Check_env) (enc := door_Check_enc) (av := door_Check_av) (outs := door_Check_outs) (t := fun p : (Sq SDoor) => door_Check_t p) (by kernel_rfl) door_Check_env_ok Try.func62 door_Check_loops door_Check_run
noncomputable def door_Check (l : (Sq SDoor)) : Option (Int) := gOfA door_Check_enc (fun p => (door_Check_t p).get) (door_Check_encC l).1 (door_Check_encC l).2
theorem door_Check_eq (l : (Sq SDoor)) : door_Check l = (door_Check_t l).get := congrFun (gOfA_eq door_Check_inj (fun p => (door_Check_t p).get)) l

/-! ### minecontrol/branch.checkDoors -/
def branch_checkDoors_encC (a : SAir) : List AV × List Blk := ([.agg [.slc 2 a.Mine.Places.n (fun k2676 => (SPlace.enc (a.Mine.Places.f k2676))), .slc 10 a.Mine.Roads.n (fun k2677 => (SRoad.enc (a.Mine.Roads.f k2677))), .slc 4 a.Fans.n (fun k2678 => (SFan.enc (a.Fans.f k2678))), .slc 3 a.Doors.n (fun k2679 => (SDoor.enc (a.Doors.f k2679)))]], [])
def branch_checkDoors_enc (p : SAir) : List AV × List Blk := branch_checkDoors_encC p
theorem branch_checkDoors_inj (p q : SAir) (h : branch_checkDoors_enc p = branch_checkDoors_enc q) : p = q :=
  (SAir.ext2 (SMine.ext2 (Sq.av_inj SPlace.inj (a := p.Mine.Places) (b := q.Mine.Places) (congrArg (fun x : List AV × List Blk => argC x.1 0 0) h)) (Sq.av_inj SRoad.inj (a := p.Mine.Roads) (b := q.Mine.Roads) (congrArg (fun x : List AV × List Blk => argC x.1 0 1) h))) (Sq.av_inj SFan.inj (a := p.Fans) (b := q.Fans) (congrArg (fun x : List AV × List Blk => argC x.1 0 2) h)) (Sq.av_inj SDoor.inj (a := p.Doors) (b := q.Doors) (congrArg (fun x : List AV × List Blk => argC x.1 0 3) h)))
def branch_checkDoors_l5_s (p : ((Sq SDoor) × (Sq SPlace) × (Sq SRoad) × (Sq SFan)) × (Int)) : St := ⟨[(1, .ptr 0 0), (13, .slc 3 p.1.1.n (fun k2680 => (SDoor.enc (p.1.1.f k2680)))), (14, .int .i64 ((p.1.1.n : Nat) : Int)), (15, .int .i64 p.2)], [(0, .var [.slc 2 p.1.2.1.n (fun k2681 => (SPlace.enc (p.1.2.1.f k2681))), .slc 10 p.1.2.2.1.n (fun k2682 => (SRoad.enc (p.1.2.2.1.f k2682))), .slc 4 p.1.2.2.2.n (fun k2683 => (SFan.enc (p.1.2.2.2.f k2683))), .slc 3 p.1.1.n (fun k2684 => (SDoor.enc (p.1.1.f k2684)))])], 896⟩
theorem branch_checkDoors_l5_inj (p q : ((Sq SDoor) × (Sq SPlace) × (Sq SRoad) × (Sq SFan)) × (Int)) (h : branch_checkDoors_l5_s p = branch_checkDoors_l5_s q) : p = q :=
  Prod.ext (Prod.ext (Sq.av_inj SDoor.inj (a := p.1.1) (b := q.1.1) (congrArg (fun x : St => aget x.tm 13) h)) (Prod.ext (Sq.av_inj SPlace.inj (a := p.1.2.1) (b := q.1.2.1) (congrArg (fun x : St => cellS x 0 0) h)) (Prod.ext (Sq.av_inj SRoad.inj (a := p.1.2.2.1) (b := q.1.2.2.1) (congrArg (fun x : St => cellS x 0 1) h)) (Sq.av_inj SFan.inj (a := p.1.2.2.2) (b := q.1.2.2.2) (congrArg (fun x : St => cellS x 0 2) h))))) (show p.2 = q.2 from congrArg intA (congrArg (fun x : St => aget x.tm 15) h))
noncomputable def branch_checkDoors_l5_step (v5_0 : (Sq SDoor)) (v5_2 : (Sq SPlace)) (v5_3 : (Sq SRoad)) (v5_4 : (Sq SFan)) (v5_5 : Int) : DT (LR (Int) (Unit) (Unit)) :=
  .ite (decide (v5_5 < ((v5_0.n : Nat) : Int))) (
    .ite (decide ((0 : Int) ≤ v5_5 ∧ v5_5 < ((v5_0.n : Nat) : Int))) (
      .bind (branch_hasRoad (SAir.mk (SMine.mk v5_2 v5_3) v5_4 v5_0) (v5_0.f (Int.toNat v5_5)).Road) fun z1736 =>
      .ite (!z1736) (
        .leaf (.r ())) (
        .leaf (.next (wr (v5_5 + (1 : Int)))))) (
      .fail)) (
    .leaf (.l ()))
def branch_checkDoors_l5_el (x : St) (_ : Unit) : St := ⟨[(2, .undef)], [(0, blkS x 0)], 896⟩
def branch_checkDoors_l5_er (x : St) (_ : Unit) : St := ⟨[(2, .int .i64 (4 : Int))], [(0, blkS x 0)], 896⟩
noncomputable def branch_checkDoors_l5_f (p : ((Sq SDoor) × (Sq SPlace) × (Sq SRoad) × (Sq SFan)) × (Int)) : Option ((Unit) ⊕ (Unit)) := fixO (fun v : Int => branch_checkDoors_l5_step p.1.1 p.1.2.1 p.1.2.2.1 p.1.2.2.2 v) p.2
noncomputable def branch_checkDoors_l5_c : St → Option LRes := loopM branch_checkDoors_l5_s branch_checkDoors_l5_f false (.exit 0) branch_checkDoors_l5_el .ret branch_checkDoors_l5_er
noncomputable def branch_checkDoors_l5 (v5_0 : (Sq SDoor)) (v5_2 : (Sq SPlace)) (v5_3 : (Sq SRoad)) (v5_4 : (Sq SFan)) (v5_5 : Int) : Option ((Unit) ⊕ (Unit)) := gOfS branch_checkDoors_l5_s branch_checkDoors_l5_f (branch_checkDoors_l5_s ((v5_0, v5_2, v5_3, v5_4), v5_5))
theorem branch_checkDoors_l5_eq (v5_0 : (Sq SDoor)) (v5_2 : (Sq SPlace)) (v5_3 : (Sq SRoad)) (v5_4 : (Sq SFan)) (v5_5 : Int) : branch_checkDoors_l5 v5_0 v5_2 v5_3 v5_4 v5_5 = fixO (fun v : Int => branch_checkDoors_l5_step v5_0 v5_2 v5_3 v5_4 v) v5_5 := gOfS_eq branch_checkDoors_l5_inj branch_checkDoors_l5_f ((v5_0, v5_2, v5_3, v5_4), v5_5)
noncomputable def branch_checkDoors_t (a : SAir) : DT (Int) :=
  .bind (door_Check a.Doors) fun z1735 =>
  .ite (z1735 != (0 : Int)) (
    .leaf z1735) (
    .sum (branch_checkDoors_l5 a.Doors a.Mine.Places a.Mine.Roads a.Fans (0 : Int)) (fun _ =>
      .leaf (0 : Int)) (fun _ =>
      .leaf (4 : Int)))
def branch_checkDoors_av (r : Int) : AV := .int .i64 r
def branch_checkDoors_outs (_ : List Blk) (_ : Int) : List Blk := []
noncomputable def c_branch_checkDoors : List AV → List Blk → Option Ans := told branch_checkDoors_enc (fun p => (branch_checkDoors_t p).get) branch_checkDoors_av branch_checkDoors_outs true (fun _ _ _ => ⟨rfl, fun b hb => by cases hb⟩)
noncomputable def branch_checkDoors_env : Env := { envS (fun f => match f with
  | 62 => c_door_Check
  | 61 => c_branch_hasRoad
  | _ => fun _ _ => none) (fun r => match r with | 5 => some ([1, 13, 14, 15], [2]) | _ => none) with loops := fun r => match r with | 5 => some branch_checkDoors_l5_c | _ => none, gc := fun r => match r with | 5 => some [0] | _ => none, mm := some 0 }
theorem branch_checkDoors_env_ok : ∀ f, Tells Try.prog f (branch_checkDoors_env.fs f) := by
  intro f
  by_cases h0 : f = 62
  · subst h0; exact door_Check_tells
  by_cases h1 : f = 61
  · subst h1; exact branch_hasRoad_tells
  have : branch_checkDoors_env.fs f = fun _ _ => none := by
    unfold branch_checkDoors_env envS
    dsimp only
    split
    · exact absurd rfl h0
    · exact absurd rfl h1
    · rfl
  rw [this]
  exact Tells.none_ f
noncomputable def branch_checkDoors_e : Env := { branch_checkDoors_env with nt := 25 }
noncomputable def branch_checkDoors_l5_b : Code := loopOf 5 Try.f37
theorem branch_checkDoors_l5_round {R : Type} (fx : (Sq SDoor) × (Sq SPlace) × (Sq SRoad) × (Sq SFan)) (v : Int) (N : Nat) (K : AX → St → Option R) : aloop (fun s j => aexec branch_checkDoors_e branch_checkDoors_l5_b s j) (headOf branch_checkDoors_e branch_checkDoors_l5_b 896) (exitOf branch_checkDoors_e branch_checkDoors_l5_b 896) (N + 1) (branch_checkDoors_l5_s (fx, v)) K = (branch_checkDoors_l5_step fx.1 fx.2.1 fx.2.2.1 fx.2.2.2 v).run (LR.elim
    (fun v' => aloop (fun s j => aexec branch_checkDoors_e branch_checkDoors_l5_b s j) (headOf branch_checkDoors_e branch_checkDoors_l5_b 896) (exitOf branch_checkDoors_e branch_checkDoors_l5_b 896) N (branch_checkDoors_l5_s (fx, v')) K)
    (fun a => K (.exit 0) (branch_checkDoors_l5_el (branch_checkDoors_l5_s (fx, v)) a))
    (fun a => K .ret (branch_checkDoors_l5_er (branch_checkDoors_l5_s (fx, v)) a))) := by kernel_rfl
theorem branch_checkDoors_l5_tells : LoopTells branch_checkDoors_e branch_checkDoors_l5_b branch_checkDoors_l5_c :=
  loopM_tells (s := branch_checkDoors_l5_s) (stl := branch_checkDoors_l5_el) (str := branch_checkDoors_l5_er) (step := fun (fx : (Sq SDoor) × (Sq SPlace) × (Sq SRoad) × (Sq SFan)) (v : Int) => branch_checkDoors_l5_step fx.1 fx.2.1 fx.2.2.1 fx.2.2.2 v) (n := 896) (fun _ => rfl) (fun _ _ _ _ => rfl) (fun _ _ _ _ => rfl) branch_checkDoors_l5_round
theorem branch_checkDoors_run (p : SAir) : arun branch_checkDoors_env Try.f37 (branch_checkDoors_enc p).1 (branch_checkDoors_enc p).2 = (branch_checkDoors_t p).run fun r => some (branch_checkDoors_av r, branch_checkDoors_outs (branch_checkDoors_enc p).2 r) := by kernel_rfl
theorem branch_checkDoors_loops : ∀ c, Try.f37.body = some c → LoopsOK { branch_checkDoors_env with nt := Try.f37.ntmps } c := by
  intro c hc
  refine loops_of c fun c' hc' f hf => ?_
  have hb : loopsOf c = [branch_checkDoors_l5_b] := by
    have : Try.f37.body.map loopsOf = some [branch_checkDoors_l5_b] := by kernel_rfl
    rw [hc] at this
    injection this
  rw [hb] at hc'
  clear hb
  obtain rfl := List.mem_singleton.1 hc'
  have h6 : firstReg branch_checkDoors_l5_b = 5 := by kernel_rfl
  rw [h6] at hf
  obtain rfl := Option.some.inj hf
  exact branch_checkDoors_l5_tells
attribute [local irreducible] arun in
theorem branch_checkDoors_tells : Tells Try.prog 37 c_branch_checkDoors :=
  told_tells (E := branch_checkDoors_env) (enc := branch_checkDoors_enc) (av := branch_checkDoors_av) (outs := branch_checkDoors_outs) (t := fun p : SAir => branch_checkDoors_t p) (by kernel_rfl) branch_checkDoors_env_ok Try.func37 branch_checkDoors_loops branch_checkDoors_run
noncomputable def branch_checkDoors (a : SAir) : Option (Int) := gOfA branch_checkDoors_enc (fun p => (branch_checkDoors_t p).get) (branch_checkDoors_encC a).1 (branch_checkDoors_encC a).2
theorem branch_checkDoors_eq (a : SAir) : branch_checkDoors a = (branch_checkDoors_t a).get := congrFun (gOfA_eq branch_checkDoors_inj (fun p => (branch_checkDoors_t p).get)) a

/-! ### minecontrol/branch.Check -/
def branch_Check_encC (a : SAir) : List AV × List Blk := ([.agg [.slc 2 a.Mine.Places.n (fun k2685 => (SPlace.enc (a.Mine.Places.f k2685))), .slc 10 a.Mine.Roads.n (fun k2686 => (SRoad.enc (a.Mine.Roads.f k2686))), .slc 4 a.Fans.n (fun k2687 => (SFan.enc (a.Fans.f k2687))), .slc 3 a.Doors.n (fun k2688 => (SDoor.enc (a.Doors.f k2688)))]], [])
def branch_Check_enc (p : SAir) : List AV × List Blk := branch_Check_encC p
theorem branch_Check_inj (p q : SAir) (h : branch_Check_enc p = branch_Check_enc q) : p = q :=
  (SAir.ext2 (SMine.ext2 (Sq.av_inj SPlace.inj (a := p.Mine.Places) (b := q.Mine.Places) (congrArg (fun x : List AV × List Blk => argC x.1 0 0) h)) (Sq.av_inj SRoad.inj (a := p.Mine.Roads) (b := q.Mine.Roads) (congrArg (fun x : List AV × List Blk => argC x.1 0 1) h))) (Sq.av_inj SFan.inj (a := p.Fans) (b := q.Fans) (congrArg (fun x : List AV × List Blk => argC x.1 0 2) h)) (Sq.av_inj SDoor.inj (a := p.Doors) (b := q.Doors) (congrArg (fun x : List AV × List Blk => argC x.1 0 3) h)))
noncomputable def branch_Check_t (a : SAir) : DT (Int) :=
  .bind (plan_Check a.Mine) fun z1693 =>
  .ite (z1693 != (0 : Int)) (
    .leaf z1693) (
    .bind (branch_checkFans a) fun z1713 =>
    .ite (z1713 != (0 : Int)) (
      .leaf z1713) (
      .bind (branch_checkDoors a) fun z1739 =>
      .leaf z1739))
def branch_Check_av (r : Int) : AV := .int .i64 r
def branch_Check_outs (_ : List Blk) (_ : Int) : List Blk := []
noncomputable def c_branch_Check : List AV → List Blk → Option Ans := told branch_Check_enc (fun p => (branch_Check_t p).get) branch_Check_av branch_Check_outs true (fun _ _ _ => ⟨rfl, fun b hb => by cases hb⟩)
noncomputable def branch_Check_env : Env := { envS (fun f => match f with
  | 35 => c_plan_Check
  | 36 => c_branch_checkFans
  | 37 => c_branch_checkDoors
  | _ => fun _ _ => none) with mm := some 0 }
theorem branch_Check_env_ok : ∀ f, Tells Try.prog f (branch_Check_env.fs f) := by
  intro f
  by_cases h0 : f = 35
  · subst h0; exact plan_Check_tells
  by_cases h1 : f = 36
  · subst h1; exact branch_checkFans_tells
  by_cases h2 : f = 37
  · subst h2; exact branch_checkDoors_tells
  have : branch_Check_env.fs f = fun _ _ => none := by
    unfold branch_Check_env envS
    dsimp only
    split
    · exact absurd rfl h0
    · exact absurd rfl h1
    · exact absurd rfl h2
    · rfl
  rw [this]
  exact Tells.none_ f
theorem branch_Check_run (p : SAir) : arun branch_Check_env Try.f17 (branch_Check_enc p).1 (branch_Check_enc p).2 = (branch_Check_t p).run fun r => some (branch_Check_av r, branch_Check_outs (branch_Check_enc p).2 r) := by kernel_rfl
attribute [local irreducible] arun in
theorem branch_Check_tells : Tells Try.prog 17 c_branch_Check :=
  told_tells (E := branch_Check_env) (enc := branch_Check_enc) (av := branch_Check_av) (outs := branch_Check_outs) (t := fun p : SAir => branch_Check_t p) (by kernel_rfl) branch_Check_env_ok Try.func17 (fun c _ => loops_none (E := { branch_Check_env with nt := Try.f17.ntmps }) (fun _ => rfl) c) branch_Check_run
noncomputable def branch_Check (a : SAir) : Option (Int) := gOfA branch_Check_enc (fun p => (branch_Check_t p).get) (branch_Check_encC a).1 (branch_Check_encC a).2
theorem branch_Check_eq (a : SAir) : branch_Check a = (branch_Check_t a).get := congrFun (gOfA_eq branch_Check_inj (fun p => (branch_Check_t p).get)) a

/-! ### minecontrol/minecontrolref01.Span -/
def ref01_Span_encC (s : SSpan) (low : Int) (high : Int) : List AV × List Blk := ([.agg [.int .i64 s.Low, .int .i64 s.High], .int .i64 low, .int .i64 high], [])
def ref01_Span_enc (p : SSpan × Int × Int) : List AV × List Blk := ref01_Span_encC p.1 p.2.1 p.2.2
theorem ref01_Span_inj (p q : SSpan × Int × Int) (h : ref01_Span_enc p = ref01_Span_enc q) : p = q :=
  (Prod.ext (SSpan.ext2 (show p.1.Low = q.1.Low from congrArg intA (congrArg (fun x : List AV × List Blk => argC x.1 0 0) h)) (show p.1.High = q.1.High from congrArg intA (congrArg (fun x : List AV × List Blk => argC x.1 0 1) h))) (Prod.ext (show p.2.1 = q.2.1 from congrArg intA (congrArg (fun x : List AV × List Blk => x.1.getD 1 .undef) h)) (show p.2.2 = q.2.2 from congrArg intA (congrArg (fun x : List AV × List Blk => x.1.getD 2 .undef) h))))
noncomputable def ref01_Span_t (s : SSpan) (low : Int) (high : Int) : DT (Bool) :=
  .ite (decide (low ≤ s.Low)) (
    .ite (decide (s.Low ≤ s.High)) (
      .leaf (decide (s.High ≤ high))) (
      .leaf false)) (
    .leaf false)
def ref01_Span_av (r : Bool) : AV := .bool r
def ref01_Span_outs (_ : List Blk) (_ : Bool) : List Blk := []
noncomputable def c_ref01_Span : List AV → List Blk → Option Ans := told ref01_Span_enc (fun p => (ref01_Span_t p.1 p.2.1 p.2.2).get) ref01_Span_av ref01_Span_outs true (fun _ _ _ => ⟨rfl, fun b hb => by cases hb⟩)
noncomputable def ref01_Span_env : Env := { envS (fun _ _ _ => none) with mm := some 0 }
theorem ref01_Span_env_ok : ∀ f, Tells Try.prog f (ref01_Span_env.fs f) := fun f => Tells.none_ f

theorem ref01_Span_run (p : SSpan × Int × Int) : arun ref01_Span_env Try.f63 (ref01_Span_enc p).1 (ref01_Span_enc p).2 = (ref01_Span_t p.1 p.2.1 p.2.2).run fun r => some (ref01_Span_av r, ref01_Span_outs (ref01_Span_enc p).2 r) := by kernel_rfl
attribute [local irreducible] arun in
theorem ref01_Span_tells : Tells Try.prog 63 c_ref01_Span :=
  told_tells (E := ref01_Span_env) (enc := ref01_Span_enc) (av := ref01_Span_av) (outs := ref01_Span_outs) (t := fun p : SSpan × Int × Int => ref01_Span_t p.1 p.2.1 p.2.2) (by kernel_rfl) ref01_Span_env_ok Try.func63 (fun c _ => loops_none (E := { ref01_Span_env with nt := Try.f63.ntmps }) (fun _ => rfl) c) ref01_Span_run
noncomputable def ref01_Span (s : SSpan) (low : Int) (high : Int) : Option (Bool) := gOfA ref01_Span_enc (fun p => (ref01_Span_t p.1 p.2.1 p.2.2).get) (ref01_Span_encC s low high).1 (ref01_Span_encC s low high).2
theorem ref01_Span_eq (s : SSpan) (low : Int) (high : Int) : ref01_Span s low high = (ref01_Span_t s low high).get := congrFun (gOfA_eq ref01_Span_inj (fun p => (ref01_Span_t p.1 p.2.1 p.2.2).get)) (s, low, high)

/-! ### minecontrol/minecontrolref01.Check -/
def ref01_Check_encC (m : SMine) : List AV × List Blk := ([.agg [.slc 2 m.Places.n (fun k2689 => (SPlace.enc (m.Places.f k2689))), .slc 10 m.Roads.n (fun k2690 => (SRoad.enc (m.Roads.f k2690)))]], [])
def ref01_Check_enc (p : SMine) : List AV × List Blk := ref01_Check_encC p
theorem ref01_Check_inj (p q : SMine) (h : ref01_Check_enc p = ref01_Check_enc q) : p = q :=
  (SMine.ext2 (Sq.av_inj SPlace.inj (a := p.Places) (b := q.Places) (congrArg (fun x : List AV × List Blk => argC x.1 0 0) h)) (Sq.av_inj SRoad.inj (a := p.Roads) (b := q.Roads) (congrArg (fun x : List AV × List Blk => argC x.1 0 1) h)))
def ref01_Check_l4_s (p : ((Sq SPlace) × (Sq SRoad)) × (Int)) : St := ⟨[(1, .ptr 0 0), (3, .int .i64 p.2)], [(0, .var [.slc 2 p.1.1.n (fun k2691 => (SPlace.enc (p.1.1.f k2691))), .slc 10 p.1.2.n (fun k2692 => (SRoad.enc (p.1.2.f k2692)))])], 896⟩
theorem ref01_Check_l4_inj (p q : ((Sq SPlace) × (Sq SRoad)) × (Int)) (h : ref01_Check_l4_s p = ref01_Check_l4_s q) : p = q :=
  Prod.ext (Prod.ext (Sq.av_inj SPlace.inj (a := p.1.1) (b := q.1.1) (congrArg (fun x : St => cellS x 0 0) h)) (Sq.av_inj SRoad.inj (a := p.1.2) (b := q.1.2) (congrArg (fun x : St => cellS x 0 1) h))) (show p.2 = q.2 from congrArg intA (congrArg (fun x : St => aget x.tm 3) h))
noncomputable def ref01_Check_l4_step (v4_0 : (Sq SPlace)) (_v4_1 : (Sq SRoad)) (i_4_2 : Int) : DT (LR (Int) (Unit) (Unit)) :=
  .ite (decide (i_4_2 < ((v4_0.n : Nat) : Int))) (
    .ite (decide ((0 : Int) ≤ i_4_2 ∧ i_4_2 < ((v4_0.n : Nat) : Int))) (
      .ite (decide ((v4_0.f (Int.toNat i_4_2)).Height < (-10000 : Int))) (
        .leaf (.r ())) (
        .ite (decide ((v4_0.f (Int.toNat i_4_2)).Height > (10000 : Int))) (
          .leaf (.r ())) (
          .leaf (.next (wr (i_4_2 + (1 : Int))))))) (
      .fail)) (
    .leaf (.l ()))
def ref01_Check_l4_el (x : St) (_ : Unit) : St := ⟨[(1, .ptr 0 0), (2, .undef)], [(0, blkS x 0)], 896⟩
def ref01_Check_l4_er (x : St) (_ : Unit) : St := ⟨[(1, .ptr 0 0), (2, .int .i64 (1 : Int))], [(0, blkS x 0)], 896⟩
noncomputable def ref01_Check_l4_f (p : ((Sq SPlace) × (Sq SRoad)) × (Int)) : Option ((Unit) ⊕ (Unit)) := fixO (fun v : Int => ref01_Check_l4_step p.1.1 p.1.2 v) p.2
noncomputable def ref01_Check_l4_c : St → Option LRes := loopM ref01_Check_l4_s ref01_Check_l4_f false (.exit 0) ref01_Check_l4_el .ret ref01_Check_l4_er
noncomputable def ref01_Check_l4 (v4_0 : (Sq SPlace)) (v4_1 : (Sq SRoad)) (i_4_2 : Int) : Option ((Unit) ⊕ (Unit)) := gOfS ref01_Check_l4_s ref01_Check_l4_f (ref01_Check_l4_s ((v4_0, v4_1), i_4_2))
theorem ref01_Check_l4_eq (v4_0 : (Sq SPlace)) (v4_1 : (Sq SRoad)) (i_4_2 : Int) : ref01_Check_l4 v4_0 v4_1 i_4_2 = fixO (fun v : Int => ref01_Check_l4_step v4_0 v4_1 v) i_4_2 := gOfS_eq ref01_Check_l4_inj ref01_Check_l4_f ((v4_0, v4_1), i_4_2)
def ref01_Check_l10_s (p : ((Sq SPlace) × (Sq SRoad)) × (Int)) : St := ⟨[(1, .ptr 0 0), (5, .int .i64 p.2)], [(0, .var [.slc 2 p.1.1.n (fun k2693 => (SPlace.enc (p.1.1.f k2693))), .slc 10 p.1.2.n (fun k2694 => (SRoad.enc (p.1.2.f k2694)))])], 960⟩
theorem ref01_Check_l10_inj (p q : ((Sq SPlace) × (Sq SRoad)) × (Int)) (h : ref01_Check_l10_s p = ref01_Check_l10_s q) : p = q :=
  Prod.ext (Prod.ext (Sq.av_inj SPlace.inj (a := p.1.1) (b := q.1.1) (congrArg (fun x : St => cellS x 0 0) h)) (Sq.av_inj SRoad.inj (a := p.1.2) (b := q.1.2) (congrArg (fun x : St => cellS x 0 1) h))) (show p.2 = q.2 from congrArg intA (congrArg (fun x : St => aget x.tm 5) h))
noncomputable def ref01_Check_l10_step (v10_0 : (Sq SPlace)) (v10_1 : (Sq SRoad)) (i_10_2 : Int) : DT (LR (Int) (Unit) (Int)) :=
  .ite (decide (i_10_2 < ((v10_1.n : Nat) : Int))) (
    .ite (decide ((0 : Int) ≤ i_10_2 ∧ i_10_2 < ((v10_1.n : Nat) : Int))) (
      .ite (decide ((v10_1.f (Int.toNat i_10_2)).From < (0 : Int))) (
        .leaf (.r (4 : Int))) (
        .ite (decide ((v10_1.f (Int.toNat i_10_2)).From ≥ ((v10_0.n : Nat) : Int))) (
          .leaf (.r (4 : Int))) (
          .ite (decide ((v10_1.f (Int.toNat i_10_2)).To < (0 : Int))) (
            .leaf (.r (4 : Int))) (
            .ite (decide ((v10_1.f (Int.toNat i_10_2)).To ≥ ((v10_0.n : Nat) : Int))) (
              .leaf (.r (4 : Int))) (
              .ite ((v10_1.f (Int.toNat i_10_2)).From == (v10_1.f (Int.toNat i_10_2)).To) (
                .leaf (.r (4 : Int))) (
                .ite (decide ((v10_1.f (Int.toNat i_10_2)).Length < (1 : Int))) (
                  .leaf (.r (1 : Int))) (
                  .ite (decide ((v10_1.f (Int.toNat i_10_2)).Length > (100000 : Int))) (
                    .leaf (.r (1 : Int))) (
                    .ite (decide ((v10_1.f (Int.toNat i_10_2)).Area < (1 : Int))) (
                      .leaf (.r (1 : Int))) (
                      .ite (decide ((v10_1.f (Int.toNat i_10_2)).Area > (1000 : Int))) (
                        .leaf (.r (1 : Int))) (
                        .bind (ref01_Span (v10_1.f (Int.toNat i_10_2)).Rest (1 : Int) (262144 : Int)) fun z1750 =>
                        .ite (!z1750) (
                          .leaf (.r (1 : Int))) (
                          .bind (ref01_Span (v10_1.f (Int.toNat i_10_2)).Lift (-2199023255552 : Int) (2199023255552 : Int)) fun z1751 =>
                          .ite (!z1751) (
                            .leaf (.r (1 : Int))) (
                            .leaf (.next (wr (i_10_2 + (1 : Int)))))))))))))))) (
      .fail)) (
    .leaf (.l ()))
def ref01_Check_l10_el (x : St) (_ : Unit) : St := ⟨[(2, .undef)], [(0, blkS x 0)], 960⟩
def ref01_Check_l10_er (x : St) (a : Int) : St := ⟨[(2, .int .i64 a)], [(0, blkS x 0)], 960⟩
noncomputable def ref01_Check_l10_f (p : ((Sq SPlace) × (Sq SRoad)) × (Int)) : Option ((Unit) ⊕ (Int)) := fixO (fun v : Int => ref01_Check_l10_step p.1.1 p.1.2 v) p.2
noncomputable def ref01_Check_l10_c : St → Option LRes := loopM ref01_Check_l10_s ref01_Check_l10_f false (.exit 2) ref01_Check_l10_el .ret ref01_Check_l10_er
noncomputable def ref01_Check_l10 (v10_0 : (Sq SPlace)) (v10_1 : (Sq SRoad)) (i_10_2 : Int) : Option ((Unit) ⊕ (Int)) := gOfS ref01_Check_l10_s ref01_Check_l10_f (ref01_Check_l10_s ((v10_0, v10_1), i_10_2))
theorem ref01_Check_l10_eq (v10_0 : (Sq SPlace)) (v10_1 : (Sq SRoad)) (i_10_2 : Int) : ref01_Check_l10 v10_0 v10_1 i_10_2 = fixO (fun v : Int => ref01_Check_l10_step v10_0 v10_1 v) i_10_2 := gOfS_eq ref01_Check_l10_inj ref01_Check_l10_f ((v10_0, v10_1), i_10_2)
noncomputable def ref01_Check_t (m : SMine) : DT (Int) :=
  .ite (decide (((m.Places.n : Nat) : Int) > (64 : Int))) (
    .leaf (2 : Int)) (
    .ite (decide (((m.Roads.n : Nat) : Int) > (128 : Int))) (
      .leaf (2 : Int)) (
      .sum (ref01_Check_l4 m.Places m.Roads (0 : Int)) (fun _ =>
        .sum (ref01_Check_l10 m.Places m.Roads (0 : Int)) (fun _ =>
          .leaf (0 : Int)) (fun y1753 =>
          .leaf y1753)) (fun _ =>
        .leaf (1 : Int))))
def ref01_Check_av (r : Int) : AV := .int .i64 r
def ref01_Check_outs (_ : List Blk) (_ : Int) : List Blk := []
noncomputable def c_ref01_Check : List AV → List Blk → Option Ans := told ref01_Check_enc (fun p => (ref01_Check_t p).get) ref01_Check_av ref01_Check_outs true (fun _ _ _ => ⟨rfl, fun b hb => by cases hb⟩)
noncomputable def ref01_Check_env : Env := { envS (fun f => match f with
  | 63 => c_ref01_Span
  | _ => fun _ _ => none) (fun r => match r with | 4 => some ([1, 3], [1, 2]) | 10 => some ([1, 5], [2]) | _ => none) with loops := fun r => match r with | 4 => some ref01_Check_l4_c | 10 => some ref01_Check_l10_c | _ => none, gc := fun r => match r with | 4 => some [0] | 10 => some [0] | _ => none, mm := some 0 }
theorem ref01_Check_env_ok : ∀ f, Tells Try.prog f (ref01_Check_env.fs f) := by
  intro f
  by_cases h0 : f = 63
  · subst h0; exact ref01_Span_tells
  have : ref01_Check_env.fs f = fun _ _ => none := by
    unfold ref01_Check_env envS
    dsimp only
    split
    · exact absurd rfl h0
    · rfl
  rw [this]
  exact Tells.none_ f
noncomputable def ref01_Check_e : Env := { ref01_Check_env with nt := 109 }
noncomputable def ref01_Check_l4_b : Code := loopOf 4 Try.f38
theorem ref01_Check_l4_round {R : Type} (fx : (Sq SPlace) × (Sq SRoad)) (v : Int) (N : Nat) (K : AX → St → Option R) : aloop (fun s j => aexec ref01_Check_e ref01_Check_l4_b s j) (headOf ref01_Check_e ref01_Check_l4_b 896) (exitOf ref01_Check_e ref01_Check_l4_b 896) (N + 1) (ref01_Check_l4_s (fx, v)) K = (ref01_Check_l4_step fx.1 fx.2 v).run (LR.elim
    (fun v' => aloop (fun s j => aexec ref01_Check_e ref01_Check_l4_b s j) (headOf ref01_Check_e ref01_Check_l4_b 896) (exitOf ref01_Check_e ref01_Check_l4_b 896) N (ref01_Check_l4_s (fx, v')) K)
    (fun a => K (.exit 0) (ref01_Check_l4_el (ref01_Check_l4_s (fx, v)) a))
    (fun a => K .ret (ref01_Check_l4_er (ref01_Check_l4_s (fx, v)) a))) := by kernel_rfl
theorem ref01_Check_l4_tells : LoopTells ref01_Check_e ref01_Check_l4_b ref01_Check_l4_c :=
  loopM_tells (s := ref01_Check_l4_s) (stl := ref01_Check_l4_el) (str := ref01_Check_l4_er) (step := fun (fx : (Sq SPlace) × (Sq SRoad)) (v : Int) => ref01_Check_l4_step fx.1 fx.2 v) (n := 896) (fun _ => rfl) (fun _ _ _ _ => rfl) (fun _ _ _ _ => rfl) ref01_Check_l4_round
noncomputable def ref01_Check_l10_b : Code := loopOf 10 Try.f38
theorem ref01_Check_l10_round {R : Type} (fx : (Sq SPlace) × (Sq SRoad)) (v : Int) (N : Nat) (K : AX → St → Option R) : aloop (fun s j => aexec ref01_Check_e ref01_Check_l10_b s j) (headOf ref01_Check_e ref01_Check_l10_b 960) (exitOf ref01_Check_e ref01_Check_l10_b 960) (N + 1) (ref01_Check_l10_s (fx, v)) K = (ref01_Check_l10_step fx.1 fx.2 v).run (LR.elim
    (fun v' => aloop (fun s j => aexec ref01_Check_e ref01_Check_l10_b s j) (headOf ref01_Check_e ref01_Check_l10_b 960) (exitOf ref01_Check_e ref01_Check_l10_b 960) N (ref01_Check_l10_s (fx, v')) K)
    (fun a => K (.exit 2) (ref01_Check_l10_el (ref01_Check_l10_s (fx, v)) a))
    (fun a => K .ret (ref01_Check_l10_er (ref01_Check_l10_s (fx, v)) a))) := by kernel_rfl
theorem ref01_Check_l10_tells : LoopTells ref01_Check_e ref01_Check_l10_b ref01_Check_l10_c :=
  loopM_tells (s := ref01_Check_l10_s) (stl := ref01_Check_l10_el) (str := ref01_Check_l10_er) (step := fun (fx : (Sq SPlace) × (Sq SRoad)) (v : Int) => ref01_Check_l10_step fx.1 fx.2 v) (n := 960) (fun _ => rfl) (fun _ _ _ _ => rfl) (fun _ _ _ _ => rfl) ref01_Check_l10_round
theorem ref01_Check_run (p : SMine) : arun ref01_Check_env Try.f38 (ref01_Check_enc p).1 (ref01_Check_enc p).2 = (ref01_Check_t p).run fun r => some (ref01_Check_av r, ref01_Check_outs (ref01_Check_enc p).2 r) := by kernel_rfl
theorem ref01_Check_loops : ∀ c, Try.f38.body = some c → LoopsOK { ref01_Check_env with nt := Try.f38.ntmps } c := by
  intro c hc
  refine loops_of c fun c' hc' f hf => ?_
  have hb : loopsOf c = [ref01_Check_l4_b, ref01_Check_l10_b] := by
    have : Try.f38.body.map loopsOf = some [ref01_Check_l4_b, ref01_Check_l10_b] := by kernel_rfl
    rw [hc] at this
    injection this
  rw [hb] at hc'
  clear hb
  rcases List.mem_cons.1 hc' with rfl | hc'
  ·
    have h6 : firstReg ref01_Check_l4_b = 4 := by kernel_rfl
    rw [h6] at hf
    obtain rfl := Option.some.inj hf
    exact ref01_Check_l4_tells
  obtain rfl := List.mem_singleton.1 hc'
  have h6 : firstReg ref01_Check_l10_b = 10 := by kernel_rfl
  rw [h6] at hf
  obtain rfl := Option.some.inj hf
  exact ref01_Check_l10_tells
attribute [local irreducible] arun in
theorem ref01_Check_tells : Tells Try.prog 38 c_ref01_Check :=
  told_tells (E := ref01_Check_env) (enc := ref01_Check_enc) (av := ref01_Check_av) (outs := ref01_Check_outs) (t := fun p : SMine => ref01_Check_t p) (by kernel_rfl) ref01_Check_env_ok Try.func38 ref01_Check_loops ref01_Check_run
noncomputable def ref01_Check (m : SMine) : Option (Int) := gOfA ref01_Check_enc (fun p => (ref01_Check_t p).get) (ref01_Check_encC m).1 (ref01_Check_encC m).2
theorem ref01_Check_eq (m : SMine) : ref01_Check m = (ref01_Check_t m).get := congrFun (gOfA_eq ref01_Check_inj (fun p => (ref01_Check_t p).get)) m

/-! ### minecontrol/minecontrolref07.Check -/
def ref07_Check_encC (f : SFan) : List AV × List Blk := ([.agg [.int .i64 f.Road, .bool f.Back, .bool f.Auxiliary, .slc 2 f.Curve.n (fun k2695 => (SPoint.enc (f.Curve.f k2695)))]], [])
def ref07_Check_enc (p : SFan) : List AV × List Blk := ref07_Check_encC p
theorem ref07_Check_inj (p q : SFan) (h : ref07_Check_enc p = ref07_Check_enc q) : p = q :=
  (SFan.ext2 (show p.Road = q.Road from congrArg intA (congrArg (fun x : List AV × List Blk => argC x.1 0 0) h)) (show p.Back = q.Back from congrArg boolA (congrArg (fun x : List AV × List Blk => argC x.1 0 1) h)) (show p.Auxiliary = q.Auxiliary from congrArg boolA (congrArg (fun x : List AV × List Blk => argC x.1 0 2) h)) (Sq.av_inj SPoint.inj (a := p.Curve) (b := q.Curve) (congrArg (fun x : List AV × List Blk => argC x.1 0 3) h)))
def ref07_Check_l6_s (p : (Int × Bool × Bool × (Sq SPoint)) × (Int)) : St := ⟨[(1, .ptr 0 0), (3, .int .i64 p.2)], [(0, .var [.int .i64 p.1.1, .bool p.1.2.1, .bool p.1.2.2.1, .slc 2 p.1.2.2.2.n (fun k2696 => (SPoint.enc (p.1.2.2.2.f k2696)))])], 1152⟩
theorem ref07_Check_l6_inj (p q : (Int × Bool × Bool × (Sq SPoint)) × (Int)) (h : ref07_Check_l6_s p = ref07_Check_l6_s q) : p = q :=
  Prod.ext (Prod.ext (show p.1.1 = q.1.1 from congrArg intA (congrArg (fun x : St => cellS x 0 0) h)) (Prod.ext (show p.1.2.1 = q.1.2.1 from congrArg boolA (congrArg (fun x : St => cellS x 0 1) h)) (Prod.ext (show p.1.2.2.1 = q.1.2.2.1 from congrArg boolA (congrArg (fun x : St => cellS x 0 2) h)) (Sq.av_inj SPoint.inj (a := p.1.2.2.2) (b := q.1.2.2.2) (congrArg (fun x : St => cellS x 0 3) h))))) (show p.2 = q.2 from congrArg intA (congrArg (fun x : St => aget x.tm 3) h))
noncomputable def ref07_Check_l6_step (_v6_0 : Int) (_v6_1 : Bool) (_v6_2 : Bool) (v6_3 : (Sq SPoint)) (i_6_4 : Int) : DT (LR (Int) (Unit) (Int)) :=
  .ite (decide (i_6_4 < ((v6_3.n : Nat) : Int))) (
    .ite (decide ((0 : Int) ≤ i_6_4 ∧ i_6_4 < ((v6_3.n : Nat) : Int))) (
      .ite (decide ((v6_3.f (Int.toNat i_6_4)).Flow < (-1048576 : Int))) (
        .leaf (.r (1 : Int))) (
        .ite (decide ((v6_3.f (Int.toNat i_6_4)).Flow > (1048576 : Int))) (
          .leaf (.r (1 : Int))) (
          .ite (decide ((v6_3.f (Int.toNat i_6_4)).Pressure < (0 : Int))) (
            .leaf (.r (1 : Int))) (
            .ite (decide ((v6_3.f (Int.toNat i_6_4)).Pressure > (2199023255552 : Int))) (
              .leaf (.r (1 : Int))) (
              .ite (decide (i_6_4 > (0 : Int))) (
                .ite (decide ((0 : Int) ≤ (wr (i_6_4 - (1 : Int))) ∧ (wr (i_6_4 - (1 : Int))) < ((v6_3.n : Nat) : Int))) (
                  .ite (decide ((v6_3.f (Int.toNat i_6_4)).Flow ≤ (v6_3.f (Int.toNat (wr (i_6_4 - (1 : Int))))).Flow)) (
                    .leaf (.r (14 : Int))) (
                    .ite (decide ((0 : Int) ≤ (wr (i_6_4 - (1 : Int))) ∧ (wr (i_6_4 - (1 : Int))) < ((v6_3.n : Nat) : Int))) (
                      .ite (decide ((v6_3.f (Int.toNat i_6_4)).Pressure > (v6_3.f (Int.toNat (wr (i_6_4 - (1 : Int))))).Pressure)) (
                        .leaf (.r (14 : Int))) (
                        .leaf (.next (wr (i_6_4 + (1 : Int)))))) (
                      .fail))) (
                  .fail)) (
                .leaf (.next (wr (i_6_4 + (1 : Int)))))))))) (
      .fail)) (
    .leaf (.l ()))
def ref07_Check_l6_el (x : St) (_ : Unit) : St := ⟨[(2, .undef)], [(0, blkS x 0)], 1152⟩
def ref07_Check_l6_er (x : St) (a : Int) : St := ⟨[(2, .int .i64 a)], [(0, blkS x 0)], 1152⟩
noncomputable def ref07_Check_l6_f (p : (Int × Bool × Bool × (Sq SPoint)) × (Int)) : Option ((Unit) ⊕ (Int)) := fixO (fun v : Int => ref07_Check_l6_step p.1.1 p.1.2.1 p.1.2.2.1 p.1.2.2.2 v) p.2
noncomputable def ref07_Check_l6_c : St → Option LRes := loopM ref07_Check_l6_s ref07_Check_l6_f false (.exit 0) ref07_Check_l6_el .ret ref07_Check_l6_er
noncomputable def ref07_Check_l6 (v6_0 : Int) (v6_1 : Bool) (v6_2 : Bool) (v6_3 : (Sq SPoint)) (i_6_4 : Int) : Option ((Unit) ⊕ (Int)) := gOfS ref07_Check_l6_s ref07_Check_l6_f (ref07_Check_l6_s ((v6_0, v6_1, v6_2, v6_3), i_6_4))
theorem ref07_Check_l6_eq (v6_0 : Int) (v6_1 : Bool) (v6_2 : Bool) (v6_3 : (Sq SPoint)) (i_6_4 : Int) : ref07_Check_l6 v6_0 v6_1 v6_2 v6_3 i_6_4 = fixO (fun v : Int => ref07_Check_l6_step v6_0 v6_1 v6_2 v6_3 v) i_6_4 := gOfS_eq ref07_Check_l6_inj ref07_Check_l6_f ((v6_0, v6_1, v6_2, v6_3), i_6_4)
noncomputable def ref07_Check_t (f : SFan) : DT (Int) :=
  .ite (decide (f.Road < (0 : Int))) (
    .leaf (4 : Int)) (
    .ite (decide (((f.Curve.n : Nat) : Int) < (1 : Int))) (
      .leaf (2 : Int)) (
      .ite (decide (((f.Curve.n : Nat) : Int) > (8 : Int))) (
        .leaf (2 : Int)) (
        .sum (ref07_Check_l6 f.Road f.Back f.Auxiliary f.Curve (0 : Int)) (fun _ =>
          .leaf (0 : Int)) (fun y1757 =>
          .leaf y1757))))
def ref07_Check_av (r : Int) : AV := .int .i64 r
def ref07_Check_outs (_ : List Blk) (_ : Int) : List Blk := []
noncomputable def c_ref07_Check : List AV → List Blk → Option Ans := told ref07_Check_enc (fun p => (ref07_Check_t p).get) ref07_Check_av ref07_Check_outs true (fun _ _ _ => ⟨rfl, fun b hb => by cases hb⟩)
noncomputable def ref07_Check_env : Env := { envS (fun _ _ _ => none) (fun r => match r with | 6 => some ([1, 3], [2]) | _ => none) with loops := fun r => match r with | 6 => some ref07_Check_l6_c | _ => none, gc := fun r => match r with | 6 => some [0] | _ => none, mm := some 0 }
theorem ref07_Check_env_ok : ∀ f, Tells Try.prog f (ref07_Check_env.fs f) := fun f => Tells.none_ f

noncomputable def ref07_Check_e : Env := { ref07_Check_env with nt := 74 }
noncomputable def ref07_Check_l6_b : Code := loopOf 6 Try.f39
theorem ref07_Check_l6_round {R : Type} (fx : Int × Bool × Bool × (Sq SPoint)) (v : Int) (N : Nat) (K : AX → St → Option R) : aloop (fun s j => aexec ref07_Check_e ref07_Check_l6_b s j) (headOf ref07_Check_e ref07_Check_l6_b 1152) (exitOf ref07_Check_e ref07_Check_l6_b 1152) (N + 1) (ref07_Check_l6_s (fx, v)) K = (ref07_Check_l6_step fx.1 fx.2.1 fx.2.2.1 fx.2.2.2 v).run (LR.elim
    (fun v' => aloop (fun s j => aexec ref07_Check_e ref07_Check_l6_b s j) (headOf ref07_Check_e ref07_Check_l6_b 1152) (exitOf ref07_Check_e ref07_Check_l6_b 1152) N (ref07_Check_l6_s (fx, v')) K)
    (fun a => K (.exit 0) (ref07_Check_l6_el (ref07_Check_l6_s (fx, v)) a))
    (fun a => K .ret (ref07_Check_l6_er (ref07_Check_l6_s (fx, v)) a))) := by kernel_rfl
theorem ref07_Check_l6_tells : LoopTells ref07_Check_e ref07_Check_l6_b ref07_Check_l6_c :=
  loopM_tells (s := ref07_Check_l6_s) (stl := ref07_Check_l6_el) (str := ref07_Check_l6_er) (step := fun (fx : Int × Bool × Bool × (Sq SPoint)) (v : Int) => ref07_Check_l6_step fx.1 fx.2.1 fx.2.2.1 fx.2.2.2 v) (n := 1152) (fun _ => rfl) (fun _ _ _ _ => rfl) (fun _ _ _ _ => rfl) ref07_Check_l6_round
theorem ref07_Check_run (p : SFan) : arun ref07_Check_env Try.f39 (ref07_Check_enc p).1 (ref07_Check_enc p).2 = (ref07_Check_t p).run fun r => some (ref07_Check_av r, ref07_Check_outs (ref07_Check_enc p).2 r) := by kernel_rfl
theorem ref07_Check_loops : ∀ c, Try.f39.body = some c → LoopsOK { ref07_Check_env with nt := Try.f39.ntmps } c := by
  intro c hc
  refine loops_of c fun c' hc' f hf => ?_
  have hb : loopsOf c = [ref07_Check_l6_b] := by
    have : Try.f39.body.map loopsOf = some [ref07_Check_l6_b] := by kernel_rfl
    rw [hc] at this
    injection this
  rw [hb] at hc'
  clear hb
  obtain rfl := List.mem_singleton.1 hc'
  have h6 : firstReg ref07_Check_l6_b = 6 := by kernel_rfl
  rw [h6] at hf
  obtain rfl := Option.some.inj hf
  exact ref07_Check_l6_tells
attribute [local irreducible] arun in
theorem ref07_Check_tells : Tells Try.prog 39 c_ref07_Check :=
  told_tells (E := ref07_Check_env) (enc := ref07_Check_enc) (av := ref07_Check_av) (outs := ref07_Check_outs) (t := fun p : SFan => ref07_Check_t p) (by kernel_rfl) ref07_Check_env_ok Try.func39 ref07_Check_loops ref07_Check_run
noncomputable def ref07_Check (f : SFan) : Option (Int) := gOfA ref07_Check_enc (fun p => (ref07_Check_t p).get) (ref07_Check_encC f).1 (ref07_Check_encC f).2
theorem ref07_Check_eq (f : SFan) : ref07_Check f = (ref07_Check_t f).get := congrFun (gOfA_eq ref07_Check_inj (fun p => (ref07_Check_t p).get)) f

/-! ### minecontrol/minecontrolref08.Check -/
def ref08_Check_encC (l : (Sq SDoor)) : List AV × List Blk := ([.slc 3 l.n (fun k2697 => (SDoor.enc (l.f k2697)))], [])
def ref08_Check_enc (p : (Sq SDoor)) : List AV × List Blk := ref08_Check_encC p
theorem ref08_Check_inj (p q : (Sq SDoor)) (h : ref08_Check_enc p = ref08_Check_enc q) : p = q :=
  (Sq.av_inj SDoor.inj (a := p) (b := q) (congrArg (fun x : List AV × List Blk => x.1.getD 0 .undef) h))
def ref08_Check_l12_s (p : ((Sq SDoor) × Int × Int × (Sq Int) × Int) × (Int)) : St := ⟨[(0, .slc 3 p.1.1.n (fun k2698 => (SDoor.enc (p.1.1.f k2698)))), (3, .int .i64 p.1.2.2.2.2), (4, .ptr 896 0), (5, .int .i64 p.2)], [(896, .var [.int .i64 p.1.2.1, .int .i64 p.1.2.2.1, .slc 1 p.1.2.2.2.1.n (fun k2699 => [.int .i64 (p.1.2.2.2.1.f k2699)])])], 2048⟩
theorem ref08_Check_l12_inj (p q : ((Sq SDoor) × Int × Int × (Sq Int) × Int) × (Int)) (h : ref08_Check_l12_s p = ref08_Check_l12_s q) : p = q :=
  Prod.ext (Prod.ext (Sq.av_inj SDoor.inj (a := p.1.1) (b := q.1.1) (congrArg (fun x : St => aget x.tm 0) h)) (Prod.ext (show p.1.2.1 = q.1.2.1 from congrArg intA (congrArg (fun x : St => cellS x 896 0) h)) (Prod.ext (show p.1.2.2.1 = q.1.2.2.1 from congrArg intA (congrArg (fun x : St => cellS x 896 1) h)) (Prod.ext (Sq.av_inj intE_i64 (a := p.1.2.2.2.1) (b := q.1.2.2.2.1) (congrArg (fun x : St => cellS x 896 2) h)) (show p.1.2.2.2.2 = q.1.2.2.2.2 from congrArg intA (congrArg (fun x : St => aget x.tm 3) h)))))) (show p.2 = q.2 from congrArg intA (congrArg (fun x : St => aget x.tm 5) h))
noncomputable def ref08_Check_l12_step (_l_12_0 : (Sq SDoor)) (_v12_1 : Int) (_v12_2 : Int) (v12_3 : (Sq Int)) (_i_12_5 : Int) (k_12_4 : Int) : DT (LR (Int) (Unit) (Unit)) :=
  .ite (decide (k_12_4 < ((v12_3.n : Nat) : Int))) (
    .ite (decide ((0 : Int) ≤ k_12_4 ∧ k_12_4 < ((v12_3.n : Nat) : Int))) (
      .ite (decide ((v12_3.f (Int.toNat k_12_4)) < (0 : Int))) (
        .leaf (.r ())) (
        .ite (decide ((0 : Int) ≤ k_12_4 ∧ k_12_4 < ((v12_3.n : Nat) : Int))) (
          .ite (decide ((v12_3.f (Int.toNat k_12_4)) > (262144 : Int))) (
            .leaf (.r ())) (
            .leaf (.next (wr (k_12_4 + (1 : Int)))))) (
          .fail))) (
      .fail)) (
    .leaf (.l ()))
def ref08_Check_l12_el (x : St) (_ : Unit) : St := ⟨[(0, aget x.tm 0), (2, .undef), (3, aget x.tm 3), (4, .ptr 896 0)], [(896, blkS x 896)], 2048⟩
def ref08_Check_l12_er (x : St) (_ : Unit) : St := ⟨[(0, aget x.tm 0), (2, .int .i64 (1 : Int)), (3, aget x.tm 3), (4, .ptr 896 0)], [(896, blkS x 896)], 2048⟩
noncomputable def ref08_Check_l12_f (p : ((Sq SDoor) × Int × Int × (Sq Int) × Int) × (Int)) : Option ((Unit) ⊕ (Unit)) := fixO (fun v : Int => ref08_Check_l12_step p.1.1 p.1.2.1 p.1.2.2.1 p.1.2.2.2.1 p.1.2.2.2.2 v) p.2
noncomputable def ref08_Check_l12_c : St → Option LRes := loopM ref08_Check_l12_s ref08_Check_l12_f false (.exit 2) ref08_Check_l12_el .ret ref08_Check_l12_er
noncomputable def ref08_Check_l12 (l_12_0 : (Sq SDoor)) (v12_1 : Int) (v12_2 : Int) (v12_3 : (Sq Int)) (i_12_5 : Int) (k_12_4 : Int) : Option ((Unit) ⊕ (Unit)) := gOfS ref08_Check_l12_s ref08_Check_l12_f (ref08_Check_l12_s ((l_12_0, v12_1, v12_2, v12_3, i_12_5), k_12_4))
theorem ref08_Check_l12_eq (l_12_0 : (Sq SDoor)) (v12_1 : Int) (v12_2 : Int) (v12_3 : (Sq Int)) (i_12_5 : Int) (k_12_4 : Int) : ref08_Check_l12 l_12_0 v12_1 v12_2 v12_3 i_12_5 k_12_4 = fixO (fun v : Int => ref08_Check_l12_step l_12_0 v12_1 v12_2 v12_3 i_12_5 v) k_12_4 := gOfS_eq ref08_Check_l12_inj ref08_Check_l12_f ((l_12_0, v12_1, v12_2, v12_3, i_12_5), k_12_4)
def ref08_Check_l17_s (p : ((Sq SDoor) × Int × Int × (Sq Int) × Int) × (Int)) : St := ⟨[(0, .slc 3 p.1.1.n (fun k2700 => (SDoor.enc (p.1.1.f k2700)))), (3, .int .i64 p.1.2.2.2.2), (4, .ptr 896 0), (6, .int .i64 p.2)], [(896, .var [.int .i64 p.1.2.1, .int .i64 p.1.2.2.1, .slc 1 p.1.2.2.2.1.n (fun k2701 => [.int .i64 (p.1.2.2.2.1.f k2701)])])], 2112⟩
theorem ref08_Check_l17_inj (p q : ((Sq SDoor) × Int × Int × (Sq Int) × Int) × (Int)) (h : ref08_Check_l17_s p = ref08_Check_l17_s q) : p = q :=
  Prod.ext (Prod.ext (Sq.av_inj SDoor.inj (a := p.1.1) (b := q.1.1) (congrArg (fun x : St => aget x.tm 0) h)) (Prod.ext (show p.1.2.1 = q.1.2.1 from congrArg intA (congrArg (fun x : St => cellS x 896 0) h)) (Prod.ext (show p.1.2.2.1 = q.1.2.2.1 from congrArg intA (congrArg (fun x : St => cellS x 896 1) h)) (Prod.ext (Sq.av_inj intE_i64 (a := p.1.2.2.2.1) (b := q.1.2.2.2.1) (congrArg (fun x : St => cellS x 896 2) h)) (show p.1.2.2.2.2 = q.1.2.2.2.2 from congrArg intA (congrArg (fun x : St => aget x.tm 3) h)))))) (show p.2 = q.2 from congrArg intA (congrArg (fun x : St => aget x.tm 6) h))
noncomputable def ref08_Check_l17_step (_l_17_0 : (Sq SDoor)) (_v17_1 : Int) (_v17_2 : Int) (v17_3 : (Sq Int)) (_i_17_5 : Int) (k_17_4 : Int) : DT (LR (Int) (Unit) (Unit)) :=
  .ite (decide (k_17_4 < ((v17_3.n : Nat) : Int))) (
    .ite (decide ((0 : Int) ≤ k_17_4 ∧ k_17_4 < ((v17_3.n : Nat) : Int))) (
      .ite (decide ((0 : Int) ≤ (wr (k_17_4 - (1 : Int))) ∧ (wr (k_17_4 - (1 : Int))) < ((v17_3.n : Nat) : Int))) (
        .ite (decide ((v17_3.f (Int.toNat k_17_4)) ≥ (v17_3.f (Int.toNat (wr (k_17_4 - (1 : Int))))))) (
          .leaf (.r ())) (
          .leaf (.next (wr (k_17_4 + (1 : Int)))))) (
        .fail)) (
      .fail)) (
    .leaf (.l ()))
def ref08_Check_l17_el (x : St) (_ : Unit) : St := ⟨[(0, aget x.tm 0), (2, .undef), (3, aget x.tm 3), (4, .ptr 896 0)], [(896, blkS x 896)], 2112⟩
def ref08_Check_l17_er (x : St) (_ : Unit) : St := ⟨[(0, aget x.tm 0), (2, .int .i64 (15 : Int)), (3, aget x.tm 3), (4, .ptr 896 0)], [(896, blkS x 896)], 2112⟩
noncomputable def ref08_Check_l17_f (p : ((Sq SDoor) × Int × Int × (Sq Int) × Int) × (Int)) : Option ((Unit) ⊕ (Unit)) := fixO (fun v : Int => ref08_Check_l17_step p.1.1 p.1.2.1 p.1.2.2.1 p.1.2.2.2.1 p.1.2.2.2.2 v) p.2
noncomputable def ref08_Check_l17_c : St → Option LRes := loopM ref08_Check_l17_s ref08_Check_l17_f false (.exit 4) ref08_Check_l17_el .ret ref08_Check_l17_er
noncomputable def ref08_Check_l17 (l_17_0 : (Sq SDoor)) (v17_1 : Int) (v17_2 : Int) (v17_3 : (Sq Int)) (i_17_5 : Int) (k_17_4 : Int) : Option ((Unit) ⊕ (Unit)) := gOfS ref08_Check_l17_s ref08_Check_l17_f (ref08_Check_l17_s ((l_17_0, v17_1, v17_2, v17_3, i_17_5), k_17_4))
theorem ref08_Check_l17_eq (l_17_0 : (Sq SDoor)) (v17_1 : Int) (v17_2 : Int) (v17_3 : (Sq Int)) (i_17_5 : Int) (k_17_4 : Int) : ref08_Check_l17 l_17_0 v17_1 v17_2 v17_3 i_17_5 k_17_4 = fixO (fun v : Int => ref08_Check_l17_step l_17_0 v17_1 v17_2 v17_3 i_17_5 v) k_17_4 := gOfS_eq ref08_Check_l17_inj ref08_Check_l17_f ((l_17_0, v17_1, v17_2, v17_3, i_17_5), k_17_4)
def ref08_Check_l4_s (p : ((Sq SDoor)) × (Int)) : St := ⟨[(0, .slc 3 p.1.n (fun k2702 => (SDoor.enc (p.1.f k2702)))), (3, .int .i64 p.2)], [], 384⟩
theorem ref08_Check_l4_inj (p q : ((Sq SDoor)) × (Int)) (h : ref08_Check_l4_s p = ref08_Check_l4_s q) : p = q :=
  Prod.ext (Sq.av_inj SDoor.inj (a := p.1) (b := q.1) (congrArg (fun x : St => aget x.tm 0) h)) (show p.2 = q.2 from congrArg intA (congrArg (fun x : St => aget x.tm 3) h))
noncomputable def ref08_Check_l4_step (l_4_0 : (Sq SDoor)) (i_4_1 : Int) : DT (LR (Int) (Unit) (Int)) :=
  .ite (decide (i_4_1 < ((l_4_0.n : Nat) : Int))) (
    .ite (decide ((0 : Int) ≤ i_4_1 ∧ i_4_1 < ((l_4_0.n : Nat) : Int))) (
      .ite (decide ((l_4_0.f (Int.toNat i_4_1)).Road < (0 : Int))) (
        .leaf (.r (4 : Int))) (
        .ite (decide ((((l_4_0.f (Int.toNat i_4_1)).Rests.n : Nat) : Int) < (2 : Int))) (
          .leaf (.r (2 : Int))) (
          .ite (decide ((((l_4_0.f (Int.toNat i_4_1)).Rests.n : Nat) : Int) > (6 : Int))) (
            .leaf (.r (2 : Int))) (
            .sum (ref08_Check_l12 l_4_0 (l_4_0.f (Int.toNat i_4_1)).Road (l_4_0.f (Int.toNat i_4_1)).Other (l_4_0.f (Int.toNat i_4_1)).Rests i_4_1 (0 : Int)) (fun _ =>
              .sum (ref08_Check_l17 l_4_0 (l_4_0.f (Int.toNat i_4_1)).Road (l_4_0.f (Int.toNat i_4_1)).Other (l_4_0.f (Int.toNat i_4_1)).Rests i_4_1 (1 : Int)) (fun _ =>
                .ite ((l_4_0.f (Int.toNat i_4_1)).Other != (-1 : Int)) (
                  .ite (decide ((l_4_0.f (Int.toNat i_4_1)).Other < (0 : Int))) (
                    .leaf (.r (15 : Int))) (
                    .ite (decide ((l_4_0.f (Int.toNat i_4_1)).Other ≥ ((l_4_0.n : Nat) : Int))) (
                      .leaf (.r (15 : Int))) (
                      .ite ((l_4_0.f (Int.toNat i_4_1)).Other == i_4_1) (
                        .leaf (.r (15 : Int))) (
                        .ite (decide ((0 : Int) ≤ (l_4_0.f (Int.toNat i_4_1)).Other ∧ (l_4_0.f (Int.toNat i_4_1)).Other < ((l_4_0.n : Nat) : Int))) (
                          .ite ((l_4_0.f (Int.toNat (l_4_0.f (Int.toNat i_4_1)).Other)).Other != i_4_1) (
                            .leaf (.r (15 : Int))) (
                            .leaf (.next (wr (i_4_1 + (1 : Int)))))) (
                          .fail))))) (
                  .leaf (.next (wr (i_4_1 + (1 : Int)))))) (fun _ =>
                .leaf (.r (15 : Int)))) (fun _ =>
              .leaf (.r (1 : Int))))))) (
      .fail)) (
    .leaf (.l ()))
def ref08_Check_l4_el (_ : St) (_ : Unit) : St := ⟨[(2, .undef)], [], 384⟩
def ref08_Check_l4_er (_ : St) (a : Int) : St := ⟨[(2, .int .i64 a)], [], 384⟩
noncomputable def ref08_Check_l4_f (p : ((Sq SDoor)) × (Int)) : Option ((Unit) ⊕ (Int)) := fixO (fun v : Int => ref08_Check_l4_step p.1 v) p.2
noncomputable def ref08_Check_l4_c : St → Option LRes := loopM ref08_Check_l4_s ref08_Check_l4_f false (.exit 0) ref08_Check_l4_el .ret ref08_Check_l4_er
noncomputable def ref08_Check_l4 (l_4_0 : (Sq SDoor)) (i_4_1 : Int) : Option ((Unit) ⊕ (Int)) := gOfS ref08_Check_l4_s ref08_Check_l4_f (ref08_Check_l4_s (l_4_0, i_4_1))
theorem ref08_Check_l4_eq (l_4_0 : (Sq SDoor)) (i_4_1 : Int) : ref08_Check_l4 l_4_0 i_4_1 = fixO (fun v : Int => ref08_Check_l4_step l_4_0 v) i_4_1 := gOfS_eq ref08_Check_l4_inj ref08_Check_l4_f (l_4_0, i_4_1)
noncomputable def ref08_Check_t (l : (Sq SDoor)) : DT (Int) :=
  .ite (decide (((l.n : Nat) : Int) > (16 : Int))) (
    .leaf (2 : Int)) (
    .sum (ref08_Check_l4 l (0 : Int)) (fun _ =>
      .leaf (0 : Int)) (fun y1776 =>
      .leaf y1776))
def ref08_Check_av (r : Int) : AV := .int .i64 r
def ref08_Check_outs (_ : List Blk) (_ : Int) : List Blk := []
noncomputable def c_ref08_Check : List AV → List Blk → Option Ans := told ref08_Check_enc (fun p => (ref08_Check_t p).get) ref08_Check_av ref08_Check_outs true (fun _ _ _ => ⟨rfl, fun b hb => by cases hb⟩)
noncomputable def ref08_Check_env : Env := { envS (fun _ _ _ => none) (fun r => match r with | 12 => some ([0, 3, 4, 5], [0, 2, 3, 4]) | 17 => some ([0, 3, 4, 6], [0, 2, 3, 4]) | 4 => some ([0, 3], [2]) | _ => none) with loops := fun r => match r with | 12 => some ref08_Check_l12_c | 17 => some ref08_Check_l17_c | 4 => some ref08_Check_l4_c | _ => none, gc := fun r => match r with | 12 => some [896] | 17 => some [896] | 4 => some [] | _ => none, mm := some 0 }
theorem ref08_Check_env_ok : ∀ f, Tells Try.prog f (ref08_Check_env.fs f) := fun f => Tells.none_ f

noncomputable def ref08_Check_e : Env := { ref08_Check_env with nt := 104 }
noncomputable def ref08_Check_l12_b : Code := loopOf 12 Try.f40
theorem ref08_Check_l12_round {R : Type} (fx : (Sq SDoor) × Int × Int × (Sq Int) × Int) (v : Int) (N : Nat) (K : AX → St → Option R) : aloop (fun s j => aexec ref08_Check_e ref08_Check_l12_b s j) (headOf ref08_Check_e ref08_Check_l12_b 2048) (exitOf ref08_Check_e ref08_Check_l12_b 2048) (N + 1) (ref08_Check_l12_s (fx, v)) K = (ref08_Check_l12_step fx.1 fx.2.1 fx.2.2.1 fx.2.2.2.1 fx.2.2.2.2 v).run (LR.elim
    (fun v' => aloop (fun s j => aexec ref08_Check_e ref08_Check_l12_b s j) (headOf ref08_Check_e ref08_Check_l12_b 2048) (exitOf ref08_Check_e ref08_Check_l12_b 2048) N (ref08_Check_l12_s (fx, v')) K)
    (fun a => K (.exit 2) (ref08_Check_l12_el (ref08_Check_l12_s (fx, v)) a))
    (fun a => K .ret (ref08_Check_l12_er (ref08_Check_l12_s (fx, v)) a))) := by kernel_rfl
theorem ref08_Check_l12_tells : LoopTells ref08_Check_e ref08_Check_l12_b ref08_Check_l12_c :=
  loopM_tells (s := ref08_Check_l12_s) (stl := ref08_Check_l12_el) (str := ref08_Check_l12_er) (step := fun (fx : (Sq SDoor) × Int × Int × (Sq Int) × Int) (v : Int) => ref08_Check_l12_step fx.1 fx.2.1 fx.2.2.1 fx.2.2.2.1 fx.2.2.2.2 v) (n := 2048) (fun _ => rfl) (fun _ _ _ _ => rfl) (fun _ _ _ _ => rfl) ref08_Check_l12_round
noncomputable def ref08_Check_l17_b : Code := loopOf 17 Try.f40
theorem ref08_Check_l17_round {R : Type} (fx : (Sq SDoor) × Int × Int × (Sq Int) × Int) (v : Int) (N : Nat) (K : AX → St → Option R) : aloop (fun s j => aexec ref08_Check_e ref08_Check_l17_b s j) (headOf ref08_Check_e ref08_Check_l17_b 2112) (exitOf ref08_Check_e ref08_Check_l17_b 2112) (N + 1) (ref08_Check_l17_s (fx, v)) K = (ref08_Check_l17_step fx.1 fx.2.1 fx.2.2.1 fx.2.2.2.1 fx.2.2.2.2 v).run (LR.elim
    (fun v' => aloop (fun s j => aexec ref08_Check_e ref08_Check_l17_b s j) (headOf ref08_Check_e ref08_Check_l17_b 2112) (exitOf ref08_Check_e ref08_Check_l17_b 2112) N (ref08_Check_l17_s (fx, v')) K)
    (fun a => K (.exit 4) (ref08_Check_l17_el (ref08_Check_l17_s (fx, v)) a))
    (fun a => K .ret (ref08_Check_l17_er (ref08_Check_l17_s (fx, v)) a))) := by kernel_rfl
theorem ref08_Check_l17_tells : LoopTells ref08_Check_e ref08_Check_l17_b ref08_Check_l17_c :=
  loopM_tells (s := ref08_Check_l17_s) (stl := ref08_Check_l17_el) (str := ref08_Check_l17_er) (step := fun (fx : (Sq SDoor) × Int × Int × (Sq Int) × Int) (v : Int) => ref08_Check_l17_step fx.1 fx.2.1 fx.2.2.1 fx.2.2.2.1 fx.2.2.2.2 v) (n := 2112) (fun _ => rfl) (fun _ _ _ _ => rfl) (fun _ _ _ _ => rfl) ref08_Check_l17_round
noncomputable def ref08_Check_l4_b : Code := loopOf 4 Try.f40
theorem ref08_Check_l4_round {R : Type} (fx : (Sq SDoor)) (v : Int) (N : Nat) (K : AX → St → Option R) : aloop (fun s j => aexec ref08_Check_e ref08_Check_l4_b s j) (headOf ref08_Check_e ref08_Check_l4_b 384) (exitOf ref08_Check_e ref08_Check_l4_b 384) (N + 1) (ref08_Check_l4_s (fx, v)) K = (ref08_Check_l4_step fx v).run (LR.elim
    (fun v' => aloop (fun s j => aexec ref08_Check_e ref08_Check_l4_b s j) (headOf ref08_Check_e ref08_Check_l4_b 384) (exitOf ref08_Check_e ref08_Check_l4_b 384) N (ref08_Check_l4_s (fx, v')) K)
    (fun a => K (.exit 0) (ref08_Check_l4_el (ref08_Check_l4_s (fx, v)) a))
    (fun a => K .ret (ref08_Check_l4_er (ref08_Check_l4_s (fx, v)) a))) := by kernel_rfl
theorem ref08_Check_l4_tells : LoopTells ref08_Check_e ref08_Check_l4_b ref08_Check_l4_c :=
  loopM_tells (s := ref08_Check_l4_s) (stl := ref08_Check_l4_el) (str := ref08_Check_l4_er) (step := fun (fx : (Sq SDoor)) (v : Int) => ref08_Check_l4_step fx v) (n := 384) (fun _ => rfl) (fun _ _ _ _ => rfl) (fun _ _ _ _ => rfl) ref08_Check_l4_round
theorem ref08_Check_run (p : (Sq SDoor)) : arun ref08_Check_env Try.f40 (ref08_Check_enc p).1 (ref08_Check_enc p).2 = (ref08_Check_t p).run fun r => some (ref08_Check_av r, ref08_Check_outs (ref08_Check_enc p).2 r) := by kernel_rfl
theorem ref08_Check_loops : ∀ c, Try.f40.body = some c → LoopsOK { ref08_Check_env with nt := Try.f40.ntmps } c := by
  intro c hc
  refine loops_of c fun c' hc' f hf => ?_
  have hb : loopsOf c = [ref08_Check_l4_b, ref08_Check_l12_b, ref08_Check_l17_b] := by
    have : Try.f40.body.map loopsOf = some [ref08_Check_l4_b, ref08_Check_l12_b, ref08_Check_l17_b] := by kernel_rfl
    rw [hc] at this
    injection this
  rw [hb] at hc'
  clear hb
  rcases List.mem_cons.1 hc' with rfl | hc'
  ·
    have h6 : firstReg ref08_Check_l4_b = 4 := by kernel_rfl
    rw [h6] at hf
    obtain rfl := Option.some.inj hf
    exact ref08_Check_l4_tells
  rcases List.mem_cons.1 hc' with rfl | hc'
  ·
    have h6 : firstReg ref08_Check_l12_b = 12 := by kernel_rfl
    rw [h6] at hf
    obtain rfl := Option.some.inj hf
    exact ref08_Check_l12_tells
  obtain rfl := List.mem_singleton.1 hc'
  have h6 : firstReg ref08_Check_l17_b = 17 := by kernel_rfl
  rw [h6] at hf
  obtain rfl := Option.some.inj hf
  exact ref08_Check_l17_tells
attribute [local irreducible] arun in
theorem ref08_Check_tells : Tells Try.prog 40 c_ref08_Check :=
  told_tells (E := ref08_Check_env) (enc := ref08_Check_enc) (av := ref08_Check_av) (outs := ref08_Check_outs) (t := fun p : (Sq SDoor) => ref08_Check_t p) (by kernel_rfl) ref08_Check_env_ok Try.func40 ref08_Check_loops ref08_Check_run
noncomputable def ref08_Check (l : (Sq SDoor)) : Option (Int) := gOfA ref08_Check_enc (fun p => (ref08_Check_t p).get) (ref08_Check_encC l).1 (ref08_Check_encC l).2
theorem ref08_Check_eq (l : (Sq SDoor)) : ref08_Check l = (ref08_Check_t l).get := congrFun (gOfA_eq ref08_Check_inj (fun p => (ref08_Check_t p).get)) l

/-! ### minecontrol/minecontrolref09.Check -/
def ref09_Check_encC (a : SAir) : List AV × List Blk := ([.agg [.slc 2 a.Mine.Places.n (fun k2703 => (SPlace.enc (a.Mine.Places.f k2703))), .slc 10 a.Mine.Roads.n (fun k2704 => (SRoad.enc (a.Mine.Roads.f k2704))), .slc 4 a.Fans.n (fun k2705 => (SFan.enc (a.Fans.f k2705))), .slc 3 a.Doors.n (fun k2706 => (SDoor.enc (a.Doors.f k2706)))]], [])
def ref09_Check_enc (p : SAir) : List AV × List Blk := ref09_Check_encC p
theorem ref09_Check_inj (p q : SAir) (h : ref09_Check_enc p = ref09_Check_enc q) : p = q :=
  (SAir.ext2 (SMine.ext2 (Sq.av_inj SPlace.inj (a := p.Mine.Places) (b := q.Mine.Places) (congrArg (fun x : List AV × List Blk => argC x.1 0 0) h)) (Sq.av_inj SRoad.inj (a := p.Mine.Roads) (b := q.Mine.Roads) (congrArg (fun x : List AV × List Blk => argC x.1 0 1) h))) (Sq.av_inj SFan.inj (a := p.Fans) (b := q.Fans) (congrArg (fun x : List AV × List Blk => argC x.1 0 2) h)) (Sq.av_inj SDoor.inj (a := p.Doors) (b := q.Doors) (congrArg (fun x : List AV × List Blk => argC x.1 0 3) h)))
def ref09_Check_l7_s (p : ((Sq SPlace) × (Sq SRoad) × (Sq SFan) × (Sq SDoor)) × (Int)) : St := ⟨[(1, .ptr 0 0), (4, .int .i64 p.2)], [(0, .var [.slc 2 p.1.1.n (fun k2707 => (SPlace.enc (p.1.1.f k2707))), .slc 10 p.1.2.1.n (fun k2708 => (SRoad.enc (p.1.2.1.f k2708))), .slc 4 p.1.2.2.1.n (fun k2709 => (SFan.enc (p.1.2.2.1.f k2709))), .slc 3 p.1.2.2.2.n (fun k2710 => (SDoor.enc (p.1.2.2.2.f k2710)))])], 1024⟩
theorem ref09_Check_l7_inj (p q : ((Sq SPlace) × (Sq SRoad) × (Sq SFan) × (Sq SDoor)) × (Int)) (h : ref09_Check_l7_s p = ref09_Check_l7_s q) : p = q :=
  Prod.ext (Prod.ext (Sq.av_inj SPlace.inj (a := p.1.1) (b := q.1.1) (congrArg (fun x : St => cellS x 0 0) h)) (Prod.ext (Sq.av_inj SRoad.inj (a := p.1.2.1) (b := q.1.2.1) (congrArg (fun x : St => cellS x 0 1) h)) (Prod.ext (Sq.av_inj SFan.inj (a := p.1.2.2.1) (b := q.1.2.2.1) (congrArg (fun x : St => cellS x 0 2) h)) (Sq.av_inj SDoor.inj (a := p.1.2.2.2) (b := q.1.2.2.2) (congrArg (fun x : St => cellS x 0 3) h))))) (show p.2 = q.2 from congrArg intA (congrArg (fun x : St => aget x.tm 4) h))
noncomputable def ref09_Check_l7_step (_v7_0 : (Sq SPlace)) (v7_1 : (Sq SRoad)) (v7_2 : (Sq SFan)) (_v7_3 : (Sq SDoor)) (i_7_4 : Int) : DT (LR (Int) (Unit) (Int)) :=
  .ite (decide (i_7_4 < ((v7_2.n : Nat) : Int))) (
    .ite (decide ((0 : Int) ≤ i_7_4 ∧ i_7_4 < ((v7_2.n : Nat) : Int))) (
      .bind (ref07_Check (v7_2.f (Int.toNat i_7_4))) fun z1783 =>
      .ite (z1783 != (0 : Int)) (
        .leaf (.r z1783)) (
        .ite (decide ((0 : Int) ≤ i_7_4 ∧ i_7_4 < ((v7_2.n : Nat) : Int))) (
          .ite (decide ((v7_2.f (Int.toNat i_7_4)).Road ≥ ((v7_1.n : Nat) : Int))) (
            .leaf (.r (4 : Int))) (
            .leaf (.next (wr (i_7_4 + (1 : Int)))))) (
          .fail))) (
      .fail)) (
    .leaf (.l ()))
def ref09_Check_l7_el (x : St) (_ : Unit) : St := ⟨[(1, .ptr 0 0), (2, .undef)], [(0, blkS x 0)], 1024⟩
def ref09_Check_l7_er (x : St) (a : Int) : St := ⟨[(1, .ptr 0 0), (2, .int .i64 a)], [(0, blkS x 0)], 1024⟩
noncomputable def ref09_Check_l7_f (p : ((Sq SPlace) × (Sq SRoad) × (Sq SFan) × (Sq SDoor)) × (Int)) : Option ((Unit) ⊕ (Int)) := fixO (fun v : Int => ref09_Check_l7_step p.1.1 p.1.2.1 p.1.2.2.1 p.1.2.2.2 v) p.2
noncomputable def ref09_Check_l7_c : St → Option LRes := loopM ref09_Check_l7_s ref09_Check_l7_f false (.exit 0) ref09_Check_l7_el .ret ref09_Check_l7_er
noncomputable def ref09_Check_l7 (v7_0 : (Sq SPlace)) (v7_1 : (Sq SRoad)) (v7_2 : (Sq SFan)) (v7_3 : (Sq SDoor)) (i_7_4 : Int) : Option ((Unit) ⊕ (Int)) := gOfS ref09_Check_l7_s ref09_Check_l7_f (ref09_Check_l7_s ((v7_0, v7_1, v7_2, v7_3), i_7_4))
theorem ref09_Check_l7_eq (v7_0 : (Sq SPlace)) (v7_1 : (Sq SRoad)) (v7_2 : (Sq SFan)) (v7_3 : (Sq SDoor)) (i_7_4 : Int) : ref09_Check_l7 v7_0 v7_1 v7_2 v7_3 i_7_4 = fixO (fun v : Int => ref09_Check_l7_step v7_0 v7_1 v7_2 v7_3 v) i_7_4 := gOfS_eq ref09_Check_l7_inj ref09_Check_l7_f ((v7_0, v7_1, v7_2, v7_3), i_7_4)
def ref09_Check_l18_s (p : ((Sq SPlace) × (Sq SRoad) × (Sq SFan) × (Sq SDoor)) × (Int)) : St := ⟨[(1, .ptr 0 0), (7, .int .i64 p.2)], [(0, .var [.slc 2 p.1.1.n (fun k2711 => (SPlace.enc (p.1.1.f k2711))), .slc 10 p.1.2.1.n (fun k2712 => (SRoad.enc (p.1.2.1.f k2712))), .slc 4 p.1.2.2.1.n (fun k2713 => (SFan.enc (p.1.2.2.1.f k2713))), .slc 3 p.1.2.2.2.n (fun k2714 => (SDoor.enc (p.1.2.2.2.f k2714)))])], 1600⟩
theorem ref09_Check_l18_inj (p q : ((Sq SPlace) × (Sq SRoad) × (Sq SFan) × (Sq SDoor)) × (Int)) (h : ref09_Check_l18_s p = ref09_Check_l18_s q) : p = q :=
  Prod.ext (Prod.ext (Sq.av_inj SPlace.inj (a := p.1.1) (b := q.1.1) (congrArg (fun x : St => cellS x 0 0) h)) (Prod.ext (Sq.av_inj SRoad.inj (a := p.1.2.1) (b := q.1.2.1) (congrArg (fun x : St => cellS x 0 1) h)) (Prod.ext (Sq.av_inj SFan.inj (a := p.1.2.2.1) (b := q.1.2.2.1) (congrArg (fun x : St => cellS x 0 2) h)) (Sq.av_inj SDoor.inj (a := p.1.2.2.2) (b := q.1.2.2.2) (congrArg (fun x : St => cellS x 0 3) h))))) (show p.2 = q.2 from congrArg intA (congrArg (fun x : St => aget x.tm 7) h))
noncomputable def ref09_Check_l18_step (_v18_0 : (Sq SPlace)) (v18_1 : (Sq SRoad)) (_v18_2 : (Sq SFan)) (v18_3 : (Sq SDoor)) (i_18_4 : Int) : DT (LR (Int) (Unit) (Unit)) :=
  .ite (decide (i_18_4 < ((v18_3.n : Nat) : Int))) (
    .ite (decide ((0 : Int) ≤ i_18_4 ∧ i_18_4 < ((v18_3.n : Nat) : Int))) (
      .ite (decide ((v18_3.f (Int.toNat i_18_4)).Road ≥ ((v18_1.n : Nat) : Int))) (
        .leaf (.r ())) (
        .leaf (.next (wr (i_18_4 + (1 : Int)))))) (
      .fail)) (
    .leaf (.l ()))
def ref09_Check_l18_el (x : St) (_ : Unit) : St := ⟨[(2, .undef)], [(0, blkS x 0)], 1600⟩
def ref09_Check_l18_er (x : St) (_ : Unit) : St := ⟨[(2, .int .i64 (4 : Int))], [(0, blkS x 0)], 1600⟩
noncomputable def ref09_Check_l18_f (p : ((Sq SPlace) × (Sq SRoad) × (Sq SFan) × (Sq SDoor)) × (Int)) : Option ((Unit) ⊕ (Unit)) := fixO (fun v : Int => ref09_Check_l18_step p.1.1 p.1.2.1 p.1.2.2.1 p.1.2.2.2 v) p.2
noncomputable def ref09_Check_l18_c : St → Option LRes := loopM ref09_Check_l18_s ref09_Check_l18_f false (.exit 2) ref09_Check_l18_el .ret ref09_Check_l18_er
noncomputable def ref09_Check_l18 (v18_0 : (Sq SPlace)) (v18_1 : (Sq SRoad)) (v18_2 : (Sq SFan)) (v18_3 : (Sq SDoor)) (i_18_4 : Int) : Option ((Unit) ⊕ (Unit)) := gOfS ref09_Check_l18_s ref09_Check_l18_f (ref09_Check_l18_s ((v18_0, v18_1, v18_2, v18_3), i_18_4))
theorem ref09_Check_l18_eq (v18_0 : (Sq SPlace)) (v18_1 : (Sq SRoad)) (v18_2 : (Sq SFan)) (v18_3 : (Sq SDoor)) (i_18_4 : Int) : ref09_Check_l18 v18_0 v18_1 v18_2 v18_3 i_18_4 = fixO (fun v : Int => ref09_Check_l18_step v18_0 v18_1 v18_2 v18_3 v) i_18_4 := gOfS_eq ref09_Check_l18_inj ref09_Check_l18_f ((v18_0, v18_1, v18_2, v18_3), i_18_4)
noncomputable def ref09_Check_t (a : SAir) : DT (Int) :=
  .bind (ref01_Check a.Mine) fun z1782 =>
  .ite (z1782 != (0 : Int)) (
    .leaf z1782) (
    .ite (decide (((a.Fans.n : Nat) : Int) > (8 : Int))) (
      .leaf (2 : Int)) (
      .sum (ref09_Check_l7 a.Mine.Places a.Mine.Roads a.Fans a.Doors (0 : Int)) (fun _ =>
        .bind (ref08_Check a.Doors) fun z1785 =>
        .ite (z1785 != (0 : Int)) (
          .leaf z1785) (
          .sum (ref09_Check_l18 a.Mine.Places a.Mine.Roads a.Fans a.Doors (0 : Int)) (fun _ =>
            .leaf (0 : Int)) (fun _ =>
            .leaf (4 : Int)))) (fun y1788 =>
        .leaf y1788)))
def ref09_Check_av (r : Int) : AV := .int .i64 r
def ref09_Check_outs (_ : List Blk) (_ : Int) : List Blk := []
noncomputable def c_ref09_Check : List AV → List Blk → Option Ans := told ref09_Check_enc (fun p => (ref09_Check_t p).get) ref09_Check_av ref09_Check_outs true (fun _ _ _ => ⟨rfl, fun b hb => by cases hb⟩)
noncomputable def ref09_Check_env : Env := { envS (fun f => match f with
  | 38 => c_ref01_Check
  | 39 => c_ref07_Check
  | 40 => c_ref08_Check
  | _ => fun _ _ => none) (fun r => match r with | 7 => some ([1, 4], [1, 2]) | 18 => some ([1, 7], [2]) | _ => none) with loops := fun r => match r with | 7 => some ref09_Check_l7_c | 18 => some ref09_Check_l18_c | _ => none, gc := fun r => match r with | 7 => some [0] | 18 => some [0] | _ => none, mm := some 0 }
theorem ref09_Check_env_ok : ∀ f, Tells Try.prog f (ref09_Check_env.fs f) := by
  intro f
  by_cases h0 : f = 38
  · subst h0; exact ref01_Check_tells
  by_cases h1 : f = 39
  · subst h1; exact ref07_Check_tells
  by_cases h2 : f = 40
  · subst h2; exact ref08_Check_tells
  have : ref09_Check_env.fs f = fun _ _ => none := by
    unfold ref09_Check_env envS
    dsimp only
    split
    · exact absurd rfl h0
    · exact absurd rfl h1
    · exact absurd rfl h2
    · rfl
  rw [this]
  exact Tells.none_ f
noncomputable def ref09_Check_e : Env := { ref09_Check_env with nt := 69 }
noncomputable def ref09_Check_l7_b : Code := loopOf 7 Try.f18
theorem ref09_Check_l7_round {R : Type} (fx : (Sq SPlace) × (Sq SRoad) × (Sq SFan) × (Sq SDoor)) (v : Int) (N : Nat) (K : AX → St → Option R) : aloop (fun s j => aexec ref09_Check_e ref09_Check_l7_b s j) (headOf ref09_Check_e ref09_Check_l7_b 1024) (exitOf ref09_Check_e ref09_Check_l7_b 1024) (N + 1) (ref09_Check_l7_s (fx, v)) K = (ref09_Check_l7_step fx.1 fx.2.1 fx.2.2.1 fx.2.2.2 v).run (LR.elim
    (fun v' => aloop (fun s j => aexec ref09_Check_e ref09_Check_l7_b s j) (headOf ref09_Check_e ref09_Check_l7_b 1024) (exitOf ref09_Check_e ref09_Check_l7_b 1024) N (ref09_Check_l7_s (fx, v')) K)
    (fun a => K (.exit 0) (ref09_Check_l7_el (ref09_Check_l7_s (fx, v)) a))
    (fun a => K .ret (ref09_Check_l7_er (ref09_Check_l7_s (fx, v)) a))) := by kernel_rfl
theorem ref09_Check_l7_tells : LoopTells ref09_Check_e ref09_Check_l7_b ref09_Check_l7_c :=
  loopM_tells (s := ref09_Check_l7_s) (stl := ref09_Check_l7_el) (str := ref09_Check_l7_er) (step := fun (fx : (Sq SPlace) × (Sq SRoad) × (Sq SFan) × (Sq SDoor)) (v : Int) => ref09_Check_l7_step fx.1 fx.2.1 fx.2.2.1 fx.2.2.2 v) (n := 1024) (fun _ => rfl) (fun _ _ _ _ => rfl) (fun _ _ _ _ => rfl) ref09_Check_l7_round
noncomputable def ref09_Check_l18_b : Code := loopOf 18 Try.f18
theorem ref09_Check_l18_round {R : Type} (fx : (Sq SPlace) × (Sq SRoad) × (Sq SFan) × (Sq SDoor)) (v : Int) (N : Nat) (K : AX → St → Option R) : aloop (fun s j => aexec ref09_Check_e ref09_Check_l18_b s j) (headOf ref09_Check_e ref09_Check_l18_b 1600) (exitOf ref09_Check_e ref09_Check_l18_b 1600) (N + 1) (ref09_Check_l18_s (fx, v)) K = (ref09_Check_l18_step fx.1 fx.2.1 fx.2.2.1 fx.2.2.2 v).run (LR.elim
    (fun v' => aloop (fun s j => aexec ref09_Check_e ref09_Check_l18_b s j) (headOf ref09_Check_e ref09_Check_l18_b 1600) (exitOf ref09_Check_e ref09_Check_l18_b 1600) N (ref09_Check_l18_s (fx, v')) K)
    (fun a => K (.exit 2) (ref09_Check_l18_el (ref09_Check_l18_s (fx, v)) a))
    (fun a => K .ret (ref09_Check_l18_er (ref09_Check_l18_s (fx, v)) a))) := by kernel_rfl
theorem ref09_Check_l18_tells : LoopTells ref09_Check_e ref09_Check_l18_b ref09_Check_l18_c :=
  loopM_tells (s := ref09_Check_l18_s) (stl := ref09_Check_l18_el) (str := ref09_Check_l18_er) (step := fun (fx : (Sq SPlace) × (Sq SRoad) × (Sq SFan) × (Sq SDoor)) (v : Int) => ref09_Check_l18_step fx.1 fx.2.1 fx.2.2.1 fx.2.2.2 v) (n := 1600) (fun _ => rfl) (fun _ _ _ _ => rfl) (fun _ _ _ _ => rfl) ref09_Check_l18_round
theorem ref09_Check_run (p : SAir) : arun ref09_Check_env Try.f18 (ref09_Check_enc p).1 (ref09_Check_enc p).2 = (ref09_Check_t p).run fun r => some (ref09_Check_av r, ref09_Check_outs (ref09_Check_enc p).2 r) := by kernel_rfl
theorem ref09_Check_loops : ∀ c, Try.f18.body = some c → LoopsOK { ref09_Check_env with nt := Try.f18.ntmps } c := by
  intro c hc
  refine loops_of c fun c' hc' f hf => ?_
  have hb : loopsOf c = [ref09_Check_l7_b, ref09_Check_l18_b] := by
    have : Try.f18.body.map loopsOf = some [ref09_Check_l7_b, ref09_Check_l18_b] := by kernel_rfl
    rw [hc] at this
    injection this
  rw [hb] at hc'
  clear hb
  rcases List.mem_cons.1 hc' with rfl | hc'
  ·
    have h6 : firstReg ref09_Check_l7_b = 7 := by kernel_rfl
    rw [h6] at hf
    obtain rfl := Option.some.inj hf
    exact ref09_Check_l7_tells
  obtain rfl := List.mem_singleton.1 hc'
  have h6 : firstReg ref09_Check_l18_b = 18 := by kernel_rfl
  rw [h6] at hf
  obtain rfl := Option.some.inj hf
  exact ref09_Check_l18_tells
attribute [local irreducible] arun in
theorem ref09_Check_tells : Tells Try.prog 18 c_ref09_Check :=
  told_tells (E := ref09_Check_env) (enc := ref09_Check_enc) (av := ref09_Check_av) (outs := ref09_Check_outs) (t := fun p : SAir => ref09_Check_t p) (by kernel_rfl) ref09_Check_env_ok Try.func18 ref09_Check_loops ref09_Check_run
noncomputable def ref09_Check (a : SAir) : Option (Int) := gOfA ref09_Check_enc (fun p => (ref09_Check_t p).get) (ref09_Check_encC a).1 (ref09_Check_encC a).2
theorem ref09_Check_eq (a : SAir) : ref09_Check a = (ref09_Check_t a).get := congrFun (gOfA_eq ref09_Check_inj (fun p => (ref09_Check_t p).get)) a

/-! ### minecontrol/branch.belongs -/
def branch_belongs_encC (a : SAir) (s : SSetting) : List AV × List Blk := ([.agg [.slc 2 a.Mine.Places.n (fun k2715 => (SPlace.enc (a.Mine.Places.f k2715))), .slc 10 a.Mine.Roads.n (fun k2716 => (SRoad.enc (a.Mine.Roads.f k2716))), .slc 4 a.Fans.n (fun k2717 => (SFan.enc (a.Fans.f k2717))), .slc 3 a.Doors.n (fun k2718 => (SDoor.enc (a.Doors.f k2718)))], .agg [.slc 1 s.Fans.n (fun k2719 => [.int .i64 (s.Fans.f k2719)]), .slc 1 s.Doors.n (fun k2720 => [.int .i64 (s.Doors.f k2720)])]], [])
def branch_belongs_enc (p : SAir × SSetting) : List AV × List Blk := branch_belongs_encC p.1 p.2
theorem branch_belongs_inj (p q : SAir × SSetting) (h : branch_belongs_enc p = branch_belongs_enc q) : p = q :=
  (Prod.ext (SAir.ext2 (SMine.ext2 (Sq.av_inj SPlace.inj (a := p.1.Mine.Places) (b := q.1.Mine.Places) (congrArg (fun x : List AV × List Blk => argC x.1 0 0) h)) (Sq.av_inj SRoad.inj (a := p.1.Mine.Roads) (b := q.1.Mine.Roads) (congrArg (fun x : List AV × List Blk => argC x.1 0 1) h))) (Sq.av_inj SFan.inj (a := p.1.Fans) (b := q.1.Fans) (congrArg (fun x : List AV × List Blk => argC x.1 0 2) h)) (Sq.av_inj SDoor.inj (a := p.1.Doors) (b := q.1.Doors) (congrArg (fun x : List AV × List Blk => argC x.1 0 3) h))) (SSetting.ext2 (Sq.av_inj intE_i64 (a := p.2.Fans) (b := q.2.Fans) (congrArg (fun x : List AV × List Blk => argC x.1 1 0) h)) (Sq.av_inj intE_i64 (a := p.2.Doors) (b := q.2.Doors) (congrArg (fun x : List AV × List Blk => argC x.1 1 1) h))))
def branch_belongs_l4_s (p : ((Sq Int) × (Sq SPlace) × (Sq SRoad) × (Sq SFan) × (Sq SDoor) × (Sq Int)) × (Int)) : St := ⟨[(2, .ptr 0 0), (3, .ptr 64 0), (26, .slc 1 p.1.1.n (fun k2721 => [.int .i64 (p.1.1.f k2721)])), (27, .int .i64 ((p.1.1.n : Nat) : Int)), (28, .int .i64 p.2)], [(0, .var [.slc 2 p.1.2.1.n (fun k2722 => (SPlace.enc (p.1.2.1.f k2722))), .slc 10 p.1.2.2.1.n (fun k2723 => (SRoad.enc (p.1.2.2.1.f k2723))), .slc 4 p.1.2.2.2.1.n (fun k2724 => (SFan.enc (p.1.2.2.2.1.f k2724))), .slc 3 p.1.2.2.2.2.1.n (fun k2725 => (SDoor.enc (p.1.2.2.2.2.1.f k2725)))]), (64, .var [.slc 1 p.1.1.n (fun k2726 => [.int .i64 (p.1.1.f k2726)]), .slc 1 p.1.2.2.2.2.2.n (fun k2727 => [.int .i64 (p.1.2.2.2.2.2.f k2727)])])], 1536⟩
theorem branch_belongs_l4_inj (p q : ((Sq Int) × (Sq SPlace) × (Sq SRoad) × (Sq SFan) × (Sq SDoor) × (Sq Int)) × (Int)) (h : branch_belongs_l4_s p = branch_belongs_l4_s q) : p = q :=
  Prod.ext (Prod.ext (Sq.av_inj intE_i64 (a := p.1.1) (b := q.1.1) (congrArg (fun x : St => aget x.tm 26) h)) (Prod.ext (Sq.av_inj SPlace.inj (a := p.1.2.1) (b := q.1.2.1) (congrArg (fun x : St => cellS x 0 0) h)) (Prod.ext (Sq.av_inj SRoad.inj (a := p.1.2.2.1) (b := q.1.2.2.1) (congrArg (fun x : St => cellS x 0 1) h)) (Prod.ext (Sq.av_inj SFan.inj (a := p.1.2.2.2.1) (b := q.1.2.2.2.1) (congrArg (fun x : St => cellS x 0 2) h)) (Prod.ext (Sq.av_inj SDoor.inj (a := p.1.2.2.2.2.1) (b := q.1.2.2.2.2.1) (congrArg (fun x : St => cellS x 0 3) h)) (Sq.av_inj intE_i64 (a := p.1.2.2.2.2.2) (b := q.1.2.2.2.2.2) (congrArg (fun x : St => cellS x 64 1) h))))))) (show p.2 = q.2 from congrArg intA (congrArg (fun x : St => aget x.tm 28) h))
noncomputable def branch_belongs_l4_step (v4_0 : (Sq Int)) (_v4_2 : (Sq SPlace)) (_v4_3 : (Sq SRoad)) (_v4_4 : (Sq SFan)) (_v4_5 : (Sq SDoor)) (_v4_6 : (Sq Int)) (v4_7 : Int) : DT (LR (Int) (Unit) (Unit)) :=
  .ite (decide (v4_7 < ((v4_0.n : Nat) : Int))) (
    .ite (decide ((0 : Int) ≤ v4_7 ∧ v4_7 < ((v4_0.n : Nat) : Int))) (
      .bind (branch_within (v4_0.f (Int.toNat v4_7)) (-1 : Int) (2 : Int)) fun z1804 =>
      .ite (!z1804) (
        .leaf (.r ())) (
        .leaf (.next (wr (v4_7 + (1 : Int)))))) (
      .fail)) (
    .leaf (.l ()))
def branch_belongs_l4_el (x : St) (_ : Unit) : St := ⟨[(2, .ptr 0 0), (3, .ptr 64 0), (4, .undef)], [(0, blkS x 0), (64, blkS x 64)], 1536⟩
def branch_belongs_l4_er (x : St) (_ : Unit) : St := ⟨[(2, .ptr 0 0), (3, .ptr 64 0), (4, .bool false)], [(0, blkS x 0), (64, blkS x 64)], 1536⟩
noncomputable def branch_belongs_l4_f (p : ((Sq Int) × (Sq SPlace) × (Sq SRoad) × (Sq SFan) × (Sq SDoor) × (Sq Int)) × (Int)) : Option ((Unit) ⊕ (Unit)) := fixO (fun v : Int => branch_belongs_l4_step p.1.1 p.1.2.1 p.1.2.2.1 p.1.2.2.2.1 p.1.2.2.2.2.1 p.1.2.2.2.2.2 v) p.2
noncomputable def branch_belongs_l4_c : St → Option LRes := loopM branch_belongs_l4_s branch_belongs_l4_f false (.exit 0) branch_belongs_l4_el .ret branch_belongs_l4_er
noncomputable def branch_belongs_l4 (v4_0 : (Sq Int)) (v4_2 : (Sq SPlace)) (v4_3 : (Sq SRoad)) (v4_4 : (Sq SFan)) (v4_5 : (Sq SDoor)) (v4_6 : (Sq Int)) (v4_7 : Int) : Option ((Unit) ⊕ (Unit)) := gOfS branch_belongs_l4_s branch_belongs_l4_f (branch_belongs_l4_s ((v4_0, v4_2, v4_3, v4_4, v4_5, v4_6), v4_7))
theorem branch_belongs_l4_eq (v4_0 : (Sq Int)) (v4_2 : (Sq SPlace)) (v4_3 : (Sq SRoad)) (v4_4 : (Sq SFan)) (v4_5 : (Sq SDoor)) (v4_6 : (Sq Int)) (v4_7 : Int) : branch_belongs_l4 v4_0 v4_2 v4_3 v4_4 v4_5 v4_6 v4_7 = fixO (fun v : Int => branch_belongs_l4_step v4_0 v4_2 v4_3 v4_4 v4_5 v4_6 v) v4_7 := gOfS_eq branch_belongs_l4_inj branch_belongs_l4_f ((v4_0, v4_2, v4_3, v4_4, v4_5, v4_6), v4_7)
def branch_belongs_l10_s (p : ((Sq Int) × (Sq SPlace) × (Sq SRoad) × (Sq SFan) × (Sq SDoor)) × (Int)) : St := ⟨[(2, .ptr 0 0), (37, .slc 1 p.1.1.n (fun k2728 => [.int .i64 (p.1.1.f k2728)])), (38, .int .i64 ((p.1.1.n : Nat) : Int)), (39, .int .i64 p.2)], [(0, .var [.slc 2 p.1.2.1.n (fun k2729 => (SPlace.enc (p.1.2.1.f k2729))), .slc 10 p.1.2.2.1.n (fun k2730 => (SRoad.enc (p.1.2.2.1.f k2730))), .slc 4 p.1.2.2.2.1.n (fun k2731 => (SFan.enc (p.1.2.2.2.1.f k2731))), .slc 3 p.1.2.2.2.2.n (fun k2732 => (SDoor.enc (p.1.2.2.2.2.f k2732)))])], 1792⟩
theorem branch_belongs_l10_inj (p q : ((Sq Int) × (Sq SPlace) × (Sq SRoad) × (Sq SFan) × (Sq SDoor)) × (Int)) (h : branch_belongs_l10_s p = branch_belongs_l10_s q) : p = q :=
  Prod.ext (Prod.ext (Sq.av_inj intE_i64 (a := p.1.1) (b := q.1.1) (congrArg (fun x : St => aget x.tm 37) h)) (Prod.ext (Sq.av_inj SPlace.inj (a := p.1.2.1) (b := q.1.2.1) (congrArg (fun x : St => cellS x 0 0) h)) (Prod.ext (Sq.av_inj SRoad.inj (a := p.1.2.2.1) (b := q.1.2.2.1) (congrArg (fun x : St => cellS x 0 1) h)) (Prod.ext (Sq.av_inj SFan.inj (a := p.1.2.2.2.1) (b := q.1.2.2.2.1) (congrArg (fun x : St => cellS x 0 2) h)) (Sq.av_inj SDoor.inj (a := p.1.2.2.2.2) (b := q.1.2.2.2.2) (congrArg (fun x : St => cellS x 0 3) h)))))) (show p.2 = q.2 from congrArg intA (congrArg (fun x : St => aget x.tm 39) h))
noncomputable def branch_belongs_l10_step (v10_0 : (Sq Int)) (_v10_2 : (Sq SPlace)) (_v10_3 : (Sq SRoad)) (_v10_4 : (Sq SFan)) (v10_5 : (Sq SDoor)) (v10_6 : Int) : DT (LR (Int) (Unit) (Unit)) :=
  .ite (decide (v10_6 < ((v10_0.n : Nat) : Int))) (
    .ite (decide ((0 : Int) ≤ v10_6 ∧ v10_6 < ((v10_0.n : Nat) : Int))) (
      .ite (decide ((0 : Int) ≤ v10_6 ∧ v10_6 < ((v10_5.n : Nat) : Int))) (
        .bind (branch_within (v10_0.f (Int.toNat v10_6)) (-1 : Int) (wr ((((v10_5.f (Int.toNat v10_6)).Rests.n : Nat) : Int) - (1 : Int)))) fun z1806 =>
        .ite (!z1806) (
          .leaf (.r ())) (
          .leaf (.next (wr (v10_6 + (1 : Int)))))) (
        .fail)) (
      .fail)) (
    .leaf (.l ()))
def branch_belongs_l10_el (x : St) (_ : Unit) : St := ⟨[(4, .undef)], [(0, blkS x 0)], 1792⟩
def branch_belongs_l10_er (x : St) (_ : Unit) : St := ⟨[(4, .bool false)], [(0, blkS x 0)], 1792⟩
noncomputable def branch_belongs_l10_f (p : ((Sq Int) × (Sq SPlace) × (Sq SRoad) × (Sq SFan) × (Sq SDoor)) × (Int)) : Option ((Unit) ⊕ (Unit)) := fixO (fun v : Int => branch_belongs_l10_step p.1.1 p.1.2.1 p.1.2.2.1 p.1.2.2.2.1 p.1.2.2.2.2 v) p.2
noncomputable def branch_belongs_l10_c : St → Option LRes := loopM branch_belongs_l10_s branch_belongs_l10_f false (.exit 2) branch_belongs_l10_el .ret branch_belongs_l10_er
noncomputable def branch_belongs_l10 (v10_0 : (Sq Int)) (v10_2 : (Sq SPlace)) (v10_3 : (Sq SRoad)) (v10_4 : (Sq SFan)) (v10_5 : (Sq SDoor)) (v10_6 : Int) : Option ((Unit) ⊕ (Unit)) := gOfS branch_belongs_l10_s branch_belongs_l10_f (branch_belongs_l10_s ((v10_0, v10_2, v10_3, v10_4, v10_5), v10_6))
theorem branch_belongs_l10_eq (v10_0 : (Sq Int)) (v10_2 : (Sq SPlace)) (v10_3 : (Sq SRoad)) (v10_4 : (Sq SFan)) (v10_5 : (Sq SDoor)) (v10_6 : Int) : branch_belongs_l10 v10_0 v10_2 v10_3 v10_4 v10_5 v10_6 = fixO (fun v : Int => branch_belongs_l10_step v10_0 v10_2 v10_3 v10_4 v10_5 v) v10_6 := gOfS_eq branch_belongs_l10_inj branch_belongs_l10_f ((v10_0, v10_2, v10_3, v10_4, v10_5), v10_6)
noncomputable def branch_belongs_t (a : SAir) (s : SSetting) : DT (Bool) :=
  .ite (((s.Fans.n : Nat) : Int) != ((a.Fans.n : Nat) : Int)) (
    .leaf false) (
    .ite (((s.Doors.n : Nat) : Int) != ((a.Doors.n : Nat) : Int)) (
      .leaf false) (
      .sum (branch_belongs_l4 s.Fans a.Mine.Places a.Mine.Roads a.Fans a.Doors s.Doors (0 : Int)) (fun _ =>
        .sum (branch_belongs_l10 s.Doors a.Mine.Places a.Mine.Roads a.Fans a.Doors (0 : Int)) (fun _ =>
          .leaf true) (fun _ =>
          .leaf false)) (fun _ =>
        .leaf false)))
def branch_belongs_av (r : Bool) : AV := .bool r
def branch_belongs_outs (_ : List Blk) (_ : Bool) : List Blk := []
noncomputable def c_branch_belongs : List AV → List Blk → Option Ans := told branch_belongs_enc (fun p => (branch_belongs_t p.1 p.2).get) branch_belongs_av branch_belongs_outs true (fun _ _ _ => ⟨rfl, fun b hb => by cases hb⟩)
noncomputable def branch_belongs_env : Env := { envS (fun f => match f with
  | 43 => c_branch_within
  | _ => fun _ _ => none) (fun r => match r with | 4 => some ([2, 3, 26, 27, 28], [2, 3, 4]) | 10 => some ([2, 37, 38, 39], [4]) | _ => none) with loops := fun r => match r with | 4 => some branch_belongs_l4_c | 10 => some branch_belongs_l10_c | _ => none, gc := fun r => match r with | 4 => some [0, 64] | 10 => some [0] | _ => none, mm := some 0 }
theorem branch_belongs_env_ok : ∀ f, Tells Try.prog f (branch_belongs_env.fs f) := by
  intro f
  by_cases h0 : f = 43
  · subst h0; exact branch_within_tells
  have : branch_belongs_env.fs f = fun _ _ => none := by
    unfold branch_belongs_env envS
    dsimp only
    split
    · exact absurd rfl h0
    · rfl
  rw [this]
  exact Tells.none_ f
noncomputable def branch_belongs_e : Env := { branch_belongs_env with nt := 56 }
noncomputable def branch_belongs_l4_b : Code := loopOf 4 Try.f41
theorem branch_belongs_l4_round {R : Type} (fx : (Sq Int) × (Sq SPlace) × (Sq SRoad) × (Sq SFan) × (Sq SDoor) × (Sq Int)) (v : Int) (N : Nat) (K : AX → St → Option R) : aloop (fun s j => aexec branch_belongs_e branch_belongs_l4_b s j) (headOf branch_belongs_e branch_belongs_l4_b 1536) (exitOf branch_belongs_e branch_belongs_l4_b 1536) (N + 1) (branch_belongs_l4_s (fx, v)) K = (branch_belongs_l4_step fx.1 fx.2.1 fx.2.2.1 fx.2.2.2.1 fx.2.2.2.2.1 fx.2.2.2.2.2 v).run (LR.elim
    (fun v' => aloop (fun s j => aexec branch_belongs_e branch_belongs_l4_b s j) (headOf branch_belongs_e branch_belongs_l4_b 1536) (exitOf branch_belongs_e branch_belongs_l4_b 1536) N (branch_belongs_l4_s (fx, v')) K)
    (fun a => K (.exit 0) (branch_belongs_l4_el (branch_belongs_l4_s (fx, v)) a))
    (fun a => K .ret (branch_belongs_l4_er (branch_belongs_l4_s (fx, v)) a))) := by kernel_rfl
theorem branch_belongs_l4_tells : LoopTells branch_belongs_e branch_belongs_l4_b branch_belongs_l4_c :=
  loopM_tells (s := branch_belongs_l4_s) (stl := branch_belongs_l4_el) (str := branch_belongs_l4_er) (step := fun (fx : (Sq Int) × (Sq SPlace) × (Sq SRoad) × (Sq SFan) × (Sq SDoor) × (Sq Int)) (v : Int) => branch_belongs_l4_step fx.1 fx.2.1 fx.2.2.1 fx.2.2.2.1 fx.2.2.2.2.1 fx.2.2.2.2.2 v) (n := 1536) (fun _ => rfl) (fun _ _ _ _ => rfl) (fun _ _ _ _ => rfl) branch_belongs_l4_round
noncomputable def branch_belongs_l10_b : Code := loopOf 10 Try.f41
theorem branch_belongs_l10_round {R : Type} (fx : (Sq Int) × (Sq SPlace) × (Sq SRoad) × (Sq SFan) × (Sq SDoor)) (v : Int) (N : Nat) (K : AX → St → Option R) : aloop (fun s j => aexec branch_belongs_e branch_belongs_l10_b s j) (headOf branch_belongs_e branch_belongs_l10_b 1792) (exitOf branch_belongs_e branch_belongs_l10_b 1792) (N + 1) (branch_belongs_l10_s (fx, v)) K = (branch_belongs_l10_step fx.1 fx.2.1 fx.2.2.1 fx.2.2.2.1 fx.2.2.2.2 v).run (LR.elim
    (fun v' => aloop (fun s j => aexec branch_belongs_e branch_belongs_l10_b s j) (headOf branch_belongs_e branch_belongs_l10_b 1792) (exitOf branch_belongs_e branch_belongs_l10_b 1792) N (branch_belongs_l10_s (fx, v')) K)
    (fun a => K (.exit 2) (branch_belongs_l10_el (branch_belongs_l10_s (fx, v)) a))
    (fun a => K .ret (branch_belongs_l10_er (branch_belongs_l10_s (fx, v)) a))) := by kernel_rfl
theorem branch_belongs_l10_tells : LoopTells branch_belongs_e branch_belongs_l10_b branch_belongs_l10_c :=
  loopM_tells (s := branch_belongs_l10_s) (stl := branch_belongs_l10_el) (str := branch_belongs_l10_er) (step := fun (fx : (Sq Int) × (Sq SPlace) × (Sq SRoad) × (Sq SFan) × (Sq SDoor)) (v : Int) => branch_belongs_l10_step fx.1 fx.2.1 fx.2.2.1 fx.2.2.2.1 fx.2.2.2.2 v) (n := 1792) (fun _ => rfl) (fun _ _ _ _ => rfl) (fun _ _ _ _ => rfl) branch_belongs_l10_round
theorem branch_belongs_run (p : SAir × SSetting) : arun branch_belongs_env Try.f41 (branch_belongs_enc p).1 (branch_belongs_enc p).2 = (branch_belongs_t p.1 p.2).run fun r => some (branch_belongs_av r, branch_belongs_outs (branch_belongs_enc p).2 r) := by kernel_rfl
theorem branch_belongs_loops : ∀ c, Try.f41.body = some c → LoopsOK { branch_belongs_env with nt := Try.f41.ntmps } c := by
  intro c hc
  refine loops_of c fun c' hc' f hf => ?_
  have hb : loopsOf c = [branch_belongs_l4_b, branch_belongs_l10_b] := by
    have : Try.f41.body.map loopsOf = some [branch_belongs_l4_b, branch_belongs_l10_b] := by kernel_rfl
    rw [hc] at this
    injection this
  rw [hb] at hc'
  clear hb
  rcases List.mem_cons.1 hc' with rfl | hc'
  ·
    have h6 : firstReg branch_belongs_l4_b = 4 := by kernel_rfl
    rw [h6] at hf
    obtain rfl := Option.some.inj hf
    exact branch_belongs_l4_tells
  obtain rfl := List.mem_singleton.1 hc'
  have h6 : firstReg branch_belongs_l10_b = 10 := by kernel_rfl
  rw [h6] at hf
  obtain rfl := Option.some.inj hf
  exact branch_belongs_l10_tells
attribute [local irreducible] arun in
theorem branch_belongs_tells : Tells Try.prog 41 c_branch_belongs :=
  told_tells (E := branch_belongs_env) (enc := branch_belongs_enc) (av := branch_belongs_av) (outs := branch_belongs_outs) (t := fun p : SAir × SSetting => branch_belongs_t p.1 p.2) (by kernel_rfl) branch_belongs_env_ok Try.func41 branch_belongs_loops branch_belongs_run
noncomputable def branch_belongs (a : SAir) (s : SSetting) : Option (Bool) := gOfA branch_belongs_enc (fun p => (branch_belongs_t p.1 p.2).get) (branch_belongs_encC a s).1 (branch_belongs_encC a s).2
theorem branch_belongs_eq (a : SAir) (s : SSetting) : branch_belongs a s = (branch_belongs_t a s).get := congrFun (gOfA_eq branch_belongs_inj (fun p => (branch_belongs_t p.1 p.2).get)) (a, s)

/-! ### minecontrol/branch.Right -/
def branch_Right_encC (a : SAir) (s : SSetting) : List AV × List Blk := ([.agg [.slc 2 a.Mine.Places.n (fun k2733 => (SPlace.enc (a.Mine.Places.f k2733))), .slc 10 a.Mine.Roads.n (fun k2734 => (SRoad.enc (a.Mine.Roads.f k2734))), .slc 4 a.Fans.n (fun k2735 => (SFan.enc (a.Fans.f k2735))), .slc 3 a.Doors.n (fun k2736 => (SDoor.enc (a.Doors.f k2736)))], .agg [.slc 1 s.Fans.n (fun k2737 => [.int .i64 (s.Fans.f k2737)]), .slc 1 s.Doors.n (fun k2738 => [.int .i64 (s.Doors.f k2738)])]], [])
def branch_Right_enc (p : SAir × SSetting) : List AV × List Blk := branch_Right_encC p.1 p.2
theorem branch_Right_inj (p q : SAir × SSetting) (h : branch_Right_enc p = branch_Right_enc q) : p = q :=
  (Prod.ext (SAir.ext2 (SMine.ext2 (Sq.av_inj SPlace.inj (a := p.1.Mine.Places) (b := q.1.Mine.Places) (congrArg (fun x : List AV × List Blk => argC x.1 0 0) h)) (Sq.av_inj SRoad.inj (a := p.1.Mine.Roads) (b := q.1.Mine.Roads) (congrArg (fun x : List AV × List Blk => argC x.1 0 1) h))) (Sq.av_inj SFan.inj (a := p.1.Fans) (b := q.1.Fans) (congrArg (fun x : List AV × List Blk => argC x.1 0 2) h)) (Sq.av_inj SDoor.inj (a := p.1.Doors) (b := q.1.Doors) (congrArg (fun x : List AV × List Blk => argC x.1 0 3) h))) (SSetting.ext2 (Sq.av_inj intE_i64 (a := p.2.Fans) (b := q.2.Fans) (congrArg (fun x : List AV × List Blk => argC x.1 1 0) h)) (Sq.av_inj intE_i64 (a := p.2.Doors) (b := q.2.Doors) (congrArg (fun x : List AV × List Blk => argC x.1 1 1) h))))
noncomputable def branch_Right_t (a : SAir) (s : SSetting) : DT (Bool) :=
  .bind (branch_Check a) fun z1795 =>
  .ite (z1795 == (0 : Int)) (
    .bind (branch_belongs a s) fun z1810 =>
    .leaf z1810) (
    .leaf false)
def branch_Right_av (r : Bool) : AV := .bool r
def branch_Right_outs (_ : List Blk) (_ : Bool) : List Blk := []
noncomputable def c_branch_Right : List AV → List Blk → Option Ans := told branch_Right_enc (fun p => (branch_Right_t p.1 p.2).get) branch_Right_av branch_Right_outs true (fun _ _ _ => ⟨rfl, fun b hb => by cases hb⟩)
noncomputable def branch_Right_env : Env := { envS (fun f => match f with
  | 17 => c_branch_Check
  | 41 => c_branch_belongs
  | _ => fun _ _ => none) with mm := some 0 }
theorem branch_Right_env_ok : ∀ f, Tells Try.prog f (branch_Right_env.fs f) := by
  intro f
  by_cases h0 : f = 17
  · subst h0; exact branch_Check_tells
  by_cases h1 : f = 41
  · subst h1; exact branch_belongs_tells
  have : branch_Right_env.fs f = fun _ _ => none := by
    unfold branch_Right_env envS
    dsimp only
    split
    · exact absurd rfl h0
    · exact absurd rfl h1
    · rfl
  rw [this]
  exact Tells.none_ f
theorem branch_Right_run (p : SAir × SSetting) : arun branch_Right_env Try.f19 (branch_Right_enc p).1 (branch_Right_enc p).2 = (branch_Right_t p.1 p.2).run fun r => some (branch_Right_av r, branch_Right_outs (branch_Right_enc p).2 r) := by kernel_rfl
attribute [local irreducible] arun in
theorem branch_Right_tells : Tells Try.prog 19 c_branch_Right :=
  told_tells (E := branch_Right_env) (enc := branch_Right_enc) (av := branch_Right_av) (outs := branch_Right_outs) (t := fun p : SAir × SSetting => branch_Right_t p.1 p.2) (by kernel_rfl) branch_Right_env_ok Try.func19 (fun c _ => loops_none (E := { branch_Right_env with nt := Try.f19.ntmps }) (fun _ => rfl) c) branch_Right_run
noncomputable def branch_Right (a : SAir) (s : SSetting) : Option (Bool) := gOfA branch_Right_enc (fun p => (branch_Right_t p.1 p.2).get) (branch_Right_encC a s).1 (branch_Right_encC a s).2
theorem branch_Right_eq (a : SAir) (s : SSetting) : branch_Right a s = (branch_Right_t a s).get := congrFun (gOfA_eq branch_Right_inj (fun p => (branch_Right_t p.1 p.2).get)) (a, s)

/-! ### minecontrol/minecontrolref09.Right -/
def ref09_Right_encC (a : SAir) (s : SSetting) : List AV × List Blk := ([.agg [.slc 2 a.Mine.Places.n (fun k2739 => (SPlace.enc (a.Mine.Places.f k2739))), .slc 10 a.Mine.Roads.n (fun k2740 => (SRoad.enc (a.Mine.Roads.f k2740))), .slc 4 a.Fans.n (fun k2741 => (SFan.enc (a.Fans.f k2741))), .slc 3 a.Doors.n (fun k2742 => (SDoor.enc (a.Doors.f k2742)))], .agg [.slc 1 s.Fans.n (fun k2743 => [.int .i64 (s.Fans.f k2743)]), .slc 1 s.Doors.n (fun k2744 => [.int .i64 (s.Doors.f k2744)])]], [])
def ref09_Right_enc (p : SAir × SSetting) : List AV × List Blk := ref09_Right_encC p.1 p.2
theorem ref09_Right_inj (p q : SAir × SSetting) (h : ref09_Right_enc p = ref09_Right_enc q) : p = q :=
  (Prod.ext (SAir.ext2 (SMine.ext2 (Sq.av_inj SPlace.inj (a := p.1.Mine.Places) (b := q.1.Mine.Places) (congrArg (fun x : List AV × List Blk => argC x.1 0 0) h)) (Sq.av_inj SRoad.inj (a := p.1.Mine.Roads) (b := q.1.Mine.Roads) (congrArg (fun x : List AV × List Blk => argC x.1 0 1) h))) (Sq.av_inj SFan.inj (a := p.1.Fans) (b := q.1.Fans) (congrArg (fun x : List AV × List Blk => argC x.1 0 2) h)) (Sq.av_inj SDoor.inj (a := p.1.Doors) (b := q.1.Doors) (congrArg (fun x : List AV × List Blk => argC x.1 0 3) h))) (SSetting.ext2 (Sq.av_inj intE_i64 (a := p.2.Fans) (b := q.2.Fans) (congrArg (fun x : List AV × List Blk => argC x.1 1 0) h)) (Sq.av_inj intE_i64 (a := p.2.Doors) (b := q.2.Doors) (congrArg (fun x : List AV × List Blk => argC x.1 1 1) h))))
def ref09_Right_l4_s (p : ((Sq SPlace) × (Sq SRoad) × (Sq SFan) × (Sq SDoor) × (Sq Int) × (Sq Int)) × (Int)) : St := ⟨[(2, .ptr 0 0), (3, .ptr 64 0), (5, .int .i64 p.2)], [(0, .var [.slc 2 p.1.1.n (fun k2745 => (SPlace.enc (p.1.1.f k2745))), .slc 10 p.1.2.1.n (fun k2746 => (SRoad.enc (p.1.2.1.f k2746))), .slc 4 p.1.2.2.1.n (fun k2747 => (SFan.enc (p.1.2.2.1.f k2747))), .slc 3 p.1.2.2.2.1.n (fun k2748 => (SDoor.enc (p.1.2.2.2.1.f k2748)))]), (64, .var [.slc 1 p.1.2.2.2.2.1.n (fun k2749 => [.int .i64 (p.1.2.2.2.2.1.f k2749)]), .slc 1 p.1.2.2.2.2.2.n (fun k2750 => [.int .i64 (p.1.2.2.2.2.2.f k2750)])])], 1664⟩
theorem ref09_Right_l4_inj (p q : ((Sq SPlace) × (Sq SRoad) × (Sq SFan) × (Sq SDoor) × (Sq Int) × (Sq Int)) × (Int)) (h : ref09_Right_l4_s p = ref09_Right_l4_s q) : p = q :=
  Prod.ext (Prod.ext (Sq.av_inj SPlace.inj (a := p.1.1) (b := q.1.1) (congrArg (fun x : St => cellS x 0 0) h)) (Prod.ext (Sq.av_inj SRoad.inj (a := p.1.2.1) (b := q.1.2.1) (congrArg (fun x : St => cellS x 0 1) h)) (Prod.ext (Sq.av_inj SFan.inj (a := p.1.2.2.1) (b := q.1.2.2.1) (congrArg (fun x : St => cellS x 0 2) h)) (Prod.ext (Sq.av_inj SDoor.inj (a := p.1.2.2.2.1) (b := q.1.2.2.2.1) (congrArg (fun x : St => cellS x 0 3) h)) (Prod.ext (Sq.av_inj intE_i64 (a := p.1.2.2.2.2.1) (b := q.1.2.2.2.2.1) (congrArg (fun x : St => cellS x 64 0) h)) (Sq.av_inj intE_i64 (a := p.1.2.2.2.2.2) (b := q.1.2.2.2.2.2) (congrArg (fun x : St => cellS x 64 1) h))))))) (show p.2 = q.2 from congrArg intA (congrArg (fun x : St => aget x.tm 5) h))
noncomputable def ref09_Right_l4_step (_v4_0 : (Sq SPlace)) (_v4_1 : (Sq SRoad)) (_v4_2 : (Sq SFan)) (_v4_3 : (Sq SDoor)) (v4_4 : (Sq Int)) (_v4_5 : (Sq Int)) (i_4_6 : Int) : DT (LR (Int) (Unit) (Unit)) :=
  .ite (decide (i_4_6 < ((v4_4.n : Nat) : Int))) (
    .ite (decide ((0 : Int) ≤ i_4_6 ∧ i_4_6 < ((v4_4.n : Nat) : Int))) (
      .ite (decide ((v4_4.f (Int.toNat i_4_6)) < (-1 : Int))) (
        .leaf (.r ())) (
        .ite (decide ((0 : Int) ≤ i_4_6 ∧ i_4_6 < ((v4_4.n : Nat) : Int))) (
          .ite (decide ((v4_4.f (Int.toNat i_4_6)) > (2 : Int))) (
            .leaf (.r ())) (
            .leaf (.next (wr (i_4_6 + (1 : Int)))))) (
          .fail))) (
      .fail)) (
    .leaf (.l ()))
def ref09_Right_l4_el (x : St) (_ : Unit) : St := ⟨[(2, .ptr 0 0), (3, .ptr 64 0), (4, .undef)], [(0, blkS x 0), (64, blkS x 64)], 1664⟩
def ref09_Right_l4_er (x : St) (_ : Unit) : St := ⟨[(2, .ptr 0 0), (3, .ptr 64 0), (4, .bool false)], [(0, blkS x 0), (64, blkS x 64)], 1664⟩
noncomputable def ref09_Right_l4_f (p : ((Sq SPlace) × (Sq SRoad) × (Sq SFan) × (Sq SDoor) × (Sq Int) × (Sq Int)) × (Int)) : Option ((Unit) ⊕ (Unit)) := fixO (fun v : Int => ref09_Right_l4_step p.1.1 p.1.2.1 p.1.2.2.1 p.1.2.2.2.1 p.1.2.2.2.2.1 p.1.2.2.2.2.2 v) p.2
noncomputable def ref09_Right_l4_c : St → Option LRes := loopM ref09_Right_l4_s ref09_Right_l4_f false (.exit 0) ref09_Right_l4_el .ret ref09_Right_l4_er
noncomputable def ref09_Right_l4 (v4_0 : (Sq SPlace)) (v4_1 : (Sq SRoad)) (v4_2 : (Sq SFan)) (v4_3 : (Sq SDoor)) (v4_4 : (Sq Int)) (v4_5 : (Sq Int)) (i_4_6 : Int) : Option ((Unit) ⊕ (Unit)) := gOfS ref09_Right_l4_s ref09_Right_l4_f (ref09_Right_l4_s ((v4_0, v4_1, v4_2, v4_3, v4_4, v4_5), i_4_6))
theorem ref09_Right_l4_eq (v4_0 : (Sq SPlace)) (v4_1 : (Sq SRoad)) (v4_2 : (Sq SFan)) (v4_3 : (Sq SDoor)) (v4_4 : (Sq Int)) (v4_5 : (Sq Int)) (i_4_6 : Int) : ref09_Right_l4 v4_0 v4_1 v4_2 v4_3 v4_4 v4_5 i_4_6 = fixO (fun v : Int => ref09_Right_l4_step v4_0 v4_1 v4_2 v4_3 v4_4 v4_5 v) i_4_6 := gOfS_eq ref09_Right_l4_inj ref09_Right_l4_f ((v4_0, v4_1, v4_2, v4_3, v4_4, v4_5), i_4_6)
def ref09_Right_l9_s (p : ((Sq SPlace) × (Sq SRoad) × (Sq SFan) × (Sq SDoor) × (Sq Int) × (Sq Int)) × (Int)) : St := ⟨[(2, .ptr 0 0), (3, .ptr 64 0), (6, .int .i64 p.2)], [(0, .var [.slc 2 p.1.1.n (fun k2751 => (SPlace.enc (p.1.1.f k2751))), .slc 10 p.1.2.1.n (fun k2752 => (SRoad.enc (p.1.2.1.f k2752))), .slc 4 p.1.2.2.1.n (fun k2753 => (SFan.enc (p.1.2.2.1.f k2753))), .slc 3 p.1.2.2.2.1.n (fun k2754 => (SDoor.enc (p.1.2.2.2.1.f k2754)))]), (64, .var [.slc 1 p.1.2.2.2.2.1.n (fun k2755 => [.int .i64 (p.1.2.2.2.2.1.f k2755)]), .slc 1 p.1.2.2.2.2.2.n (fun k2756 => [.int .i64 (p.1.2.2.2.2.2.f k2756)])])], 1728⟩
theorem ref09_Right_l9_inj (p q : ((Sq SPlace) × (Sq SRoad) × (Sq SFan) × (Sq SDoor) × (Sq Int) × (Sq Int)) × (Int)) (h : ref09_Right_l9_s p = ref09_Right_l9_s q) : p = q :=
  Prod.ext (Prod.ext (Sq.av_inj SPlace.inj (a := p.1.1) (b := q.1.1) (congrArg (fun x : St => cellS x 0 0) h)) (Prod.ext (Sq.av_inj SRoad.inj (a := p.1.2.1) (b := q.1.2.1) (congrArg (fun x : St => cellS x 0 1) h)) (Prod.ext (Sq.av_inj SFan.inj (a := p.1.2.2.1) (b := q.1.2.2.1) (congrArg (fun x : St => cellS x 0 2) h)) (Prod.ext (Sq.av_inj SDoor.inj (a := p.1.2.2.2.1) (b := q.1.2.2.2.1) (congrArg (fun x : St => cellS x 0 3) h)) (Prod.ext (Sq.av_inj intE_i64 (a := p.1.2.2.2.2.1) (b := q.1.2.2.2.2.1) (congrArg (fun x : St => cellS x 64 0) h)) (Sq.av_inj intE_i64 (a := p.1.2.2.2.2.2) (b := q.1.2.2.2.2.2) (congrArg (fun x : St => cellS x 64 1) h))))))) (show p.2 = q.2 from congrArg intA (congrArg (fun x : St => aget x.tm 6) h))
noncomputable def ref09_Right_l9_step (_v9_0 : (Sq SPlace)) (_v9_1 : (Sq SRoad)) (_v9_2 : (Sq SFan)) (v9_3 : (Sq SDoor)) (_v9_4 : (Sq Int)) (v9_5 : (Sq Int)) (i_9_6 : Int) : DT (LR (Int) (Unit) (Unit)) :=
  .ite (decide (i_9_6 < ((v9_5.n : Nat) : Int))) (
    .ite (decide ((0 : Int) ≤ i_9_6 ∧ i_9_6 < ((v9_5.n : Nat) : Int))) (
      .ite (decide ((v9_5.f (Int.toNat i_9_6)) < (-1 : Int))) (
        .leaf (.r ())) (
        .ite (decide ((0 : Int) ≤ i_9_6 ∧ i_9_6 < ((v9_5.n : Nat) : Int))) (
          .ite (decide ((0 : Int) ≤ i_9_6 ∧ i_9_6 < ((v9_3.n : Nat) : Int))) (
            .ite (decide ((v9_5.f (Int.toNat i_9_6)) ≥ (((v9_3.f (Int.toNat i_9_6)).Rests.n : Nat) : Int))) (
              .leaf (.r ())) (
              .leaf (.next (wr (i_9_6 + (1 : Int)))))) (
            .fail)) (
          .fail))) (
      .fail)) (
    .leaf (.l ()))
def ref09_Right_l9_el (x : St) (_ : Unit) : St := ⟨[(4, .undef)], [(0, blkS x 0), (64, blkS x 64)], 1728⟩
def ref09_Right_l9_er (x : St) (_ : Unit) : St := ⟨[(4, .bool false)], [(0, blkS x 0), (64, blkS x 64)], 1728⟩
noncomputable def ref09_Right_l9_f (p : ((Sq SPlace) × (Sq SRoad) × (Sq SFan) × (Sq SDoor) × (Sq Int) × (Sq Int)) × (Int)) : Option ((Unit) ⊕ (Unit)) := fixO (fun v : Int => ref09_Right_l9_step p.1.1 p.1.2.1 p.1.2.2.1 p.1.2.2.2.1 p.1.2.2.2.2.1 p.1.2.2.2.2.2 v) p.2
noncomputable def ref09_Right_l9_c : St → Option LRes := loopM ref09_Right_l9_s ref09_Right_l9_f false (.exit 2) ref09_Right_l9_el .ret ref09_Right_l9_er
noncomputable def ref09_Right_l9 (v9_0 : (Sq SPlace)) (v9_1 : (Sq SRoad)) (v9_2 : (Sq SFan)) (v9_3 : (Sq SDoor)) (v9_4 : (Sq Int)) (v9_5 : (Sq Int)) (i_9_6 : Int) : Option ((Unit) ⊕ (Unit)) := gOfS ref09_Right_l9_s ref09_Right_l9_f (ref09_Right_l9_s ((v9_0, v9_1, v9_2, v9_3, v9_4, v9_5), i_9_6))
theorem ref09_Right_l9_eq (v9_0 : (Sq SPlace)) (v9_1 : (Sq SRoad)) (v9_2 : (Sq SFan)) (v9_3 : (Sq SDoor)) (v9_4 : (Sq Int)) (v9_5 : (Sq Int)) (i_9_6 : Int) : ref09_Right_l9 v9_0 v9_1 v9_2 v9_3 v9_4 v9_5 i_9_6 = fixO (fun v : Int => ref09_Right_l9_step v9_0 v9_1 v9_2 v9_3 v9_4 v9_5 v) i_9_6 := gOfS_eq ref09_Right_l9_inj ref09_Right_l9_f ((v9_0, v9_1, v9_2, v9_3, v9_4, v9_5), i_9_6)
noncomputable def ref09_Right_t (a : SAir) (s : SSetting) : DT (Bool) :=
  .bind (ref09_Check a) fun z1821 =>
  .ite (z1821 != (0 : Int)) (
    .leaf false) (
    .ite (((s.Fans.n : Nat) : Int) != ((a.Fans.n : Nat) : Int)) (
      .leaf false) (
      .ite (((s.Doors.n : Nat) : Int) != ((a.Doors.n : Nat) : Int)) (
        .leaf false) (
        .sum (ref09_Right_l4 a.Mine.Places a.Mine.Roads a.Fans a.Doors s.Fans s.Doors (0 : Int)) (fun _ =>
          .sum (ref09_Right_l9 a.Mine.Places a.Mine.Roads a.Fans a.Doors s.Fans s.Doors (0 : Int)) (fun _ =>
            .leaf true) (fun _ =>
            .leaf false)) (fun _ =>
          .leaf false))))
def ref09_Right_av (r : Bool) : AV := .bool r
def ref09_Right_outs (_ : List Blk) (_ : Bool) : List Blk := []
noncomputable def c_ref09_Right : List AV → List Blk → Option Ans := told ref09_Right_enc (fun p => (ref09_Right_t p.1 p.2).get) ref09_Right_av ref09_Right_outs true (fun _ _ _ => ⟨rfl, fun b hb => by cases hb⟩)
noncomputable def ref09_Right_env : Env := { envS (fun f => match f with
  | 18 => c_ref09_Check
  | _ => fun _ _ => none) (fun r => match r with | 4 => some ([2, 3, 5], [2, 3, 4]) | 9 => some ([2, 3, 6], [4]) | _ => none) with loops := fun r => match r with | 4 => some ref09_Right_l4_c | 9 => some ref09_Right_l9_c | _ => none, gc := fun r => match r with | 4 => some [0, 64] | 9 => some [0, 64] | _ => none, mm := some 0 }
theorem ref09_Right_env_ok : ∀ f, Tells Try.prog f (ref09_Right_env.fs f) := by
  intro f
  by_cases h0 : f = 18
  · subst h0; exact ref09_Check_tells
  have : ref09_Right_env.fs f = fun _ _ => none := by
    unfold ref09_Right_env envS
    dsimp only
    split
    · exact absurd rfl h0
    · rfl
  rw [this]
  exact Tells.none_ f
noncomputable def ref09_Right_e : Env := { ref09_Right_env with nt := 77 }
noncomputable def ref09_Right_l4_b : Code := loopOf 4 Try.f20
theorem ref09_Right_l4_round {R : Type} (fx : (Sq SPlace) × (Sq SRoad) × (Sq SFan) × (Sq SDoor) × (Sq Int) × (Sq Int)) (v : Int) (N : Nat) (K : AX → St → Option R) : aloop (fun s j => aexec ref09_Right_e ref09_Right_l4_b s j) (headOf ref09_Right_e ref09_Right_l4_b 1664) (exitOf ref09_Right_e ref09_Right_l4_b 1664) (N + 1) (ref09_Right_l4_s (fx, v)) K = (ref09_Right_l4_step fx.1 fx.2.1 fx.2.2.1 fx.2.2.2.1 fx.2.2.2.2.1 fx.2.2.2.2.2 v).run (LR.elim
    (fun v' => aloop (fun s j => aexec ref09_Right_e ref09_Right_l4_b s j) (headOf ref09_Right_e ref09_Right_l4_b 1664) (exitOf ref09_Right_e ref09_Right_l4_b 1664) N (ref09_Right_l4_s (fx, v')) K)
    (fun a => K (.exit 0) (ref09_Right_l4_el (ref09_Right_l4_s (fx, v)) a))
    (fun a => K .ret (ref09_Right_l4_er (ref09_Right_l4_s (fx, v)) a))) := by kernel_rfl
theorem ref09_Right_l4_tells : LoopTells ref09_Right_e ref09_Right_l4_b ref09_Right_l4_c :=
  loopM_tells (s := ref09_Right_l4_s) (stl := ref09_Right_l4_el) (str := ref09_Right_l4_er) (step := fun (fx : (Sq SPlace) × (Sq SRoad) × (Sq SFan) × (Sq SDoor) × (Sq Int) × (Sq Int)) (v : Int) => ref09_Right_l4_step fx.1 fx.2.1 fx.2.2.1 fx.2.2.2.1 fx.2.2.2.2.1 fx.2.2.2.2.2 v) (n := 1664) (fun _ => rfl) (fun _ _ _ _ => rfl) (fun _ _ _ _ => rfl) ref09_Right_l4_round
noncomputable def ref09_Right_l9_b : Code := loopOf 9 Try.f20
theorem ref09_Right_l9_round {R : Type} (fx : (Sq SPlace) × (Sq SRoad) × (Sq SFan) × (Sq SDoor) × (Sq Int) × (Sq Int)) (v : Int) (N : Nat) (K : AX → St → Option R) : aloop (fun s j => aexec ref09_Right_e ref09_Right_l9_b s j) (headOf ref09_Right_e ref09_Right_l9_b 1728) (exitOf ref09_Right_e ref09_Right_l9_b 1728) (N + 1) (ref09_Right_l9_s (fx, v)) K = (ref09_Right_l9_step fx.1 fx.2.1 fx.2.2.1 fx.2.2.2.1 fx.2.2.2.2.1 fx.2.2.2.2.2 v).run (LR.elim
    (fun v' => aloop (fun s j => aexec ref09_Right_e ref09_Right_l9_b s j) (headOf ref09_Right_e ref09_Right_l9_b 1728) (exitOf ref09_Right_e ref09_Right_l9_b 1728) N (ref09_Right_l9_s (fx, v')) K)
    (fun a => K (.exit 2) (ref09_Right_l9_el (ref09_Right_l9_s (fx, v)) a))
    (fun a => K .ret (ref09_Right_l9_er (ref09_Right_l9_s (fx, v)) a))) := by kernel_rfl
theorem ref09_Right_l9_tells : LoopTells ref09_Right_e ref09_Right_l9_b ref09_Right_l9_c :=
  loopM_tells (s := ref09_Right_l9_s) (stl := ref09_Right_l9_el) (str := ref09_Right_l9_er) (step := fun (fx : (Sq SPlace) × (Sq SRoad) × (Sq SFan) × (Sq SDoor) × (Sq Int) × (Sq Int)) (v : Int) => ref09_Right_l9_step fx.1 fx.2.1 fx.2.2.1 fx.2.2.2.1 fx.2.2.2.2.1 fx.2.2.2.2.2 v) (n := 1728) (fun _ => rfl) (fun _ _ _ _ => rfl) (fun _ _ _ _ => rfl) ref09_Right_l9_round
theorem ref09_Right_run (p : SAir × SSetting) : arun ref09_Right_env Try.f20 (ref09_Right_enc p).1 (ref09_Right_enc p).2 = (ref09_Right_t p.1 p.2).run fun r => some (ref09_Right_av r, ref09_Right_outs (ref09_Right_enc p).2 r) := by kernel_rfl
theorem ref09_Right_loops : ∀ c, Try.f20.body = some c → LoopsOK { ref09_Right_env with nt := Try.f20.ntmps } c := by
  intro c hc
  refine loops_of c fun c' hc' f hf => ?_
  have hb : loopsOf c = [ref09_Right_l4_b, ref09_Right_l9_b] := by
    have : Try.f20.body.map loopsOf = some [ref09_Right_l4_b, ref09_Right_l9_b] := by kernel_rfl
    rw [hc] at this
    injection this
  rw [hb] at hc'
  clear hb
  rcases List.mem_cons.1 hc' with rfl | hc'
  ·
    have h6 : firstReg ref09_Right_l4_b = 4 := by kernel_rfl
    rw [h6] at hf
    obtain rfl := Option.some.inj hf
    exact ref09_Right_l4_tells
  obtain rfl := List.mem_singleton.1 hc'
  have h6 : firstReg ref09_Right_l9_b = 9 := by kernel_rfl
  rw [h6] at hf
  obtain rfl := Option.some.inj hf
  exact ref09_Right_l9_tells
attribute [local irreducible] arun in
theorem ref09_Right_tells : Tells Try.prog 20 c_ref09_Right :=
  told_tells (E := ref09_Right_env) (enc := ref09_Right_enc) (av := ref09_Right_av) (outs := ref09_Right_outs) (t := fun p : SAir × SSetting => ref09_Right_t p.1 p.2) (by kernel_rfl) ref09_Right_env_ok Try.func20 ref09_Right_loops ref09_Right_run
noncomputable def ref09_Right (a : SAir) (s : SSetting) : Option (Bool) := gOfA ref09_Right_enc (fun p => (ref09_Right_t p.1 p.2).get) (ref09_Right_encC a s).1 (ref09_Right_encC a s).2
theorem ref09_Right_eq (a : SAir) (s : SSetting) : ref09_Right a s = (ref09_Right_t a s).get := congrFun (gOfA_eq ref09_Right_inj (fun p => (ref09_Right_t p.1 p.2).get)) (a, s)
end Go.Proofs.Ytbmbhgkjpdpcjaa.Ab
