/- Mirrors of code, stage 9. -/
import Derived.Test.YtbmbhgkjpdpcjaaYb
namespace Go.Proofs.Ytbmbhgkjpdpcjaa.Ab
open Go



/-! ### minecontrol/door.Rest -/
def door_Rest_encC (d : SDoor) (state : Int) : List AV × List Blk := ([.agg [.int .i64 d.Road, .int .i64 d.Other, .slc 1 d.Rests.n (fun k2768 => [.int .i64 (d.Rests.f k2768)])], .int .i64 state], [])
def door_Rest_enc (p : SDoor × Int) : List AV × List Blk := door_Rest_encC p.1 p.2
theorem door_Rest_inj (p q : SDoor × Int) (h : door_Rest_enc p = door_Rest_enc q) : p = q :=
  (Prod.ext (SDoor.ext2 (show p.1.Road = q.1.Road from congrArg intA (congrArg (fun x : List AV × List Blk => argC x.1 0 0) h)) (show p.1.Other = q.1.Other from congrArg intA (congrArg (fun x : List AV × List Blk => argC x.1 0 1) h)) (Sq.av_inj intE_i64 (a := p.1.Rests) (b := q.1.Rests) (congrArg (fun x : List AV × List Blk => argC x.1 0 2) h))) (show p.2 = q.2 from congrArg intA (congrArg (fun x : List AV × List Blk => x.1.getD 1 .undef) h)))
noncomputable def door_Rest_t (d : SDoor) (state : Int) : DT (SSpan) :=
  .bind (door_has ((d.Rests.n : Nat) : Int) state) fun z1982 =>
  .ite z1982 (
    .ite (decide ((0 : Int) ≤ state ∧ state < ((d.Rests.n : Nat) : Int))) (
      .ite (decide ((0 : Int) ≤ state ∧ state < ((d.Rests.n : Nat) : Int))) (
        .leaf (SSpan.mk (d.Rests.f (Int.toNat state)) (d.Rests.f (Int.toNat state)))) (
        .fail)) (
      .fail)) (
    .ite (state == (-1 : Int)) (
      .ite (decide (((d.Rests.n : Nat) : Int) > (0 : Int))) (
        .bind (slices_Min d.Rests) fun z1984 =>
        .bind (slices_Max d.Rests) fun z1986 =>
        .leaf (SSpan.mk z1984 z1986)) (
        .leaf (SSpan.mk (0 : Int) (0 : Int)))) (
      .leaf (SSpan.mk (0 : Int) (0 : Int))))
def door_Rest_av (r : SSpan) : AV := .agg [.int .i64 r.Low, .int .i64 r.High]
def door_Rest_outs (_ : List Blk) (_ : SSpan) : List Blk := []
noncomputable def c_door_Rest : List AV → List Blk → Option Ans := told door_Rest_enc (fun p => (door_Rest_t p.1 p.2).get) door_Rest_av door_Rest_outs true (fun _ _ _ => ⟨rfl, fun b hb => by cases hb⟩)
noncomputable def door_Rest_env : Env := { envS (fun f => match f with
  | 83 => c_door_has
  | 84 => c_slices_Min
  | 85 => c_slices_Max
  | _ => fun _ _ => none) with mm := some 0 }
theorem door_Rest_env_ok : ∀ f, Tells Try.prog f (door_Rest_env.fs f) := by
  intro f
  by_cases h0 : f = 83
  · subst h0; exact door_has_tells
  by_cases h1 : f = 84
  · subst h1; exact slices_Min_tells
  by_cases h2 : f = 85
  · subst h2; exact slices_Max_tells
  have : door_Rest_env.fs f = fun _ _ => none := by
    unfold door_Rest_env envS
    dsimp only
    split
    · exact absurd rfl h0
    · exact absurd rfl h1
    · exact absurd rfl h2
    · rfl
  rw [this]
  exact Tells.none_ f
theorem door_Rest_run (p : SDoor × Int) : arun door_Rest_env Try.f76 (door_Rest_enc p).1 (door_Rest_enc p).2 = (door_Rest_t p.1 p.2).run fun r => some (door_Rest_av r, door_Rest_outs (door_Rest_enc p).2 r) := by kernel_rfl
attribute [local irreducible] arun in
theorem door_Rest_tells : Tells Try.prog 76 c_door_Rest :=
  told_tells (E := door_Rest_env) (enc := door_Rest_enc) (av := door_Rest_av) (outs := door_Rest_outs) (t := fun p : SDoor × Int => door_Rest_t p.1 p.2) (by kernel_rfl) door_Rest_env_ok Try.func76 (fun c _ => loops_none (E := { door_Rest_env with nt := Try.f76.ntmps }) (fun _ => rfl) c) door_Rest_run
noncomputable def door_Rest (d : SDoor) (state : Int) : Option (SSpan) := gOfA door_Rest_enc (fun p => (door_Rest_t p.1 p.2).get) (door_Rest_encC d state).1 (door_Rest_encC d state).2
theorem door_Rest_eq (d : SDoor) (state : Int) : door_Rest d state = (door_Rest_t d state).get := congrFun (gOfA_eq door_Rest_inj (fun p => (door_Rest_t p.1 p.2).get)) (d, state)

/-! ### minecontrol/branch.plus -/
def branch_plus_encC (s : SSpan) (t : SSpan) : List AV × List Blk := ([.agg [.int .i64 s.Low, .int .i64 s.High], .agg [.int .i64 t.Low, .int .i64 t.High]], [])
def branch_plus_enc (p : SSpan × SSpan) : List AV × List Blk := branch_plus_encC p.1 p.2
theorem branch_plus_inj (p q : SSpan × SSpan) (h : branch_plus_enc p = branch_plus_enc q) : p = q :=
  (Prod.ext (SSpan.ext2 (show p.1.Low = q.1.Low from congrArg intA (congrArg (fun x : List AV × List Blk => argC x.1 0 0) h)) (show p.1.High = q.1.High from congrArg intA (congrArg (fun x : List AV × List Blk => argC x.1 0 1) h))) (SSpan.ext2 (show p.2.Low = q.2.Low from congrArg intA (congrArg (fun x : List AV × List Blk => argC x.1 1 0) h)) (show p.2.High = q.2.High from congrArg intA (congrArg (fun x : List AV × List Blk => argC x.1 1 1) h))))
noncomputable def branch_plus_t (s : SSpan) (t : SSpan) : DT (SSpan) :=
  .leaf (SSpan.mk (wr (s.Low + t.Low)) (wr (s.High + t.High)))
def branch_plus_av (r : SSpan) : AV := .agg [.int .i64 r.Low, .int .i64 r.High]
def branch_plus_outs (_ : List Blk) (_ : SSpan) : List Blk := []
noncomputable def c_branch_plus : List AV → List Blk → Option Ans := told branch_plus_enc (fun p => (branch_plus_t p.1 p.2).get) branch_plus_av branch_plus_outs true (fun _ _ _ => ⟨rfl, fun b hb => by cases hb⟩)
noncomputable def branch_plus_env : Env := { envS (fun _ _ _ => none) with mm := some 0 }
theorem branch_plus_env_ok : ∀ f, Tells Try.prog f (branch_plus_env.fs f) := fun f => Tells.none_ f

theorem branch_plus_run (p : SSpan × SSpan) : arun branch_plus_env Try.f75 (branch_plus_enc p).1 (branch_plus_enc p).2 = (branch_plus_t p.1 p.2).run fun r => some (branch_plus_av r, branch_plus_outs (branch_plus_enc p).2 r) := by kernel_rfl
attribute [local irreducible] arun in
theorem branch_plus_tells : Tells Try.prog 75 c_branch_plus :=
  told_tells (E := branch_plus_env) (enc := branch_plus_enc) (av := branch_plus_av) (outs := branch_plus_outs) (t := fun p : SSpan × SSpan => branch_plus_t p.1 p.2) (by kernel_rfl) branch_plus_env_ok Try.func75 (fun c _ => loops_none (E := { branch_plus_env with nt := Try.f75.ntmps }) (fun _ => rfl) c) branch_plus_run
noncomputable def branch_plus (s : SSpan) (t : SSpan) : Option (SSpan) := gOfA branch_plus_enc (fun p => (branch_plus_t p.1 p.2).get) (branch_plus_encC s t).1 (branch_plus_encC s t).2
theorem branch_plus_eq (s : SSpan) (t : SSpan) : branch_plus s t = (branch_plus_t s t).get := congrFun (gOfA_eq branch_plus_inj (fun p => (branch_plus_t p.1 p.2).get)) (s, t)

/-! ### minecontrol/branch.airwayOf -/
def branch_airwayOf_encC (a : SAir) (s : SSetting) (road : Int) : List AV × List Blk := ([.agg [.slc 2 a.Mine.Places.n (fun k2769 => (SPlace.enc (a.Mine.Places.f k2769))), .slc 10 a.Mine.Roads.n (fun k2770 => (SRoad.enc (a.Mine.Roads.f k2770))), .slc 4 a.Fans.n (fun k2771 => (SFan.enc (a.Fans.f k2771))), .slc 3 a.Doors.n (fun k2772 => (SDoor.enc (a.Doors.f k2772)))], .agg [.slc 1 s.Fans.n (fun k2773 => [.int .i64 (s.Fans.f k2773)]), .slc 1 s.Doors.n (fun k2774 => [.int .i64 (s.Doors.f k2774)])], .int .i64 road], [])
def branch_airwayOf_enc (p : SAir × SSetting × Int) : List AV × List Blk := branch_airwayOf_encC p.1 p.2.1 p.2.2
theorem branch_airwayOf_inj (p q : SAir × SSetting × Int) (h : branch_airwayOf_enc p = branch_airwayOf_enc q) : p = q :=
  (Prod.ext (SAir.ext2 (SMine.ext2 (Sq.av_inj SPlace.inj (a := p.1.Mine.Places) (b := q.1.Mine.Places) (congrArg (fun x : List AV × List Blk => argC x.1 0 0) h)) (Sq.av_inj SRoad.inj (a := p.1.Mine.Roads) (b := q.1.Mine.Roads) (congrArg (fun x : List AV × List Blk => argC x.1 0 1) h))) (Sq.av_inj SFan.inj (a := p.1.Fans) (b := q.1.Fans) (congrArg (fun x : List AV × List Blk => argC x.1 0 2) h)) (Sq.av_inj SDoor.inj (a := p.1.Doors) (b := q.1.Doors) (congrArg (fun x : List AV × List Blk => argC x.1 0 3) h))) (Prod.ext (SSetting.ext2 (Sq.av_inj intE_i64 (a := p.2.1.Fans) (b := q.2.1.Fans) (congrArg (fun x : List AV × List Blk => argC x.1 1 0) h)) (Sq.av_inj intE_i64 (a := p.2.1.Doors) (b := q.2.1.Doors) (congrArg (fun x : List AV × List Blk => argC x.1 1 1) h))) (show p.2.2 = q.2.2 from congrArg intA (congrArg (fun x : List AV × List Blk => x.1.getD 2 .undef) h))))
def branch_airwayOf_l3_s (p : (Int × (Sq SDoor) × (Sq SPlace) × (Sq SRoad) × (Sq SFan) × (Sq Int) × (Sq Int) × Int × Int × Int × Int × Bool × Bool × Int × Int) × (Int × Int × Int)) : St := ⟨[(2, .int .i64 p.1.1), (3, .ptr 0 0), (4, .ptr 64 0), (6, .ptr 128 0), (7, .ptr 640 0), (20, .slc 3 p.1.2.1.n (fun k2775 => (SDoor.enc (p.1.2.1.f k2775)))), (21, .int .i64 ((p.1.2.1.n : Nat) : Int)), (22, .int .i64 p.2.2.2)], [(0, .var [.slc 2 p.1.2.2.1.n (fun k2776 => (SPlace.enc (p.1.2.2.1.f k2776))), .slc 10 p.1.2.2.2.1.n (fun k2777 => (SRoad.enc (p.1.2.2.2.1.f k2777))), .slc 4 p.1.2.2.2.2.1.n (fun k2778 => (SFan.enc (p.1.2.2.2.2.1.f k2778))), .slc 3 p.1.2.1.n (fun k2779 => (SDoor.enc (p.1.2.1.f k2779)))]), (64, .var [.slc 1 p.1.2.2.2.2.2.1.n (fun k2780 => [.int .i64 (p.1.2.2.2.2.2.1.f k2780)]), .slc 1 p.1.2.2.2.2.2.2.1.n (fun k2781 => [.int .i64 (p.1.2.2.2.2.2.2.1.f k2781)])]), (128, .var [.int .i64 (0 : Int), .int .i64 (0 : Int), .int .i64 (0 : Int), .int .i64 (0 : Int), .bool false, .bool false, .int .i64 (0 : Int), .int .i64 (0 : Int), .int .i64 (0 : Int), .int .i64 (0 : Int), .own 129 0]), (129, .nilrow 0), (576, .nilrow 0), (640, .var [.int .i64 p.1.2.2.2.2.2.2.2.1, .int .i64 p.1.2.2.2.2.2.2.2.2.1, .int .i64 p.1.2.2.2.2.2.2.2.2.2.1, .int .i64 p.1.2.2.2.2.2.2.2.2.2.2.1, .bool p.1.2.2.2.2.2.2.2.2.2.2.2.1, .bool p.1.2.2.2.2.2.2.2.2.2.2.2.2.1, .int .i64 p.2.1, .int .i64 p.2.2.1, .int .i64 p.1.2.2.2.2.2.2.2.2.2.2.2.2.2.1, .int .i64 p.1.2.2.2.2.2.2.2.2.2.2.2.2.2.2, .own 576 0])], 1024⟩
theorem branch_airwayOf_l3_inj (p q : (Int × (Sq SDoor) × (Sq SPlace) × (Sq SRoad) × (Sq SFan) × (Sq Int) × (Sq Int) × Int × Int × Int × Int × Bool × Bool × Int × Int) × (Int × Int × Int)) (h : branch_airwayOf_l3_s p = branch_airwayOf_l3_s q) : p = q :=
  Prod.ext (Prod.ext (show p.1.1 = q.1.1 from congrArg intA (congrArg (fun x : St => aget x.tm 2) h)) (Prod.ext (Sq.av_inj SDoor.inj (a := p.1.2.1) (b := q.1.2.1) (congrArg (fun x : St => aget x.tm 20) h)) (Prod.ext (Sq.av_inj SPlace.inj (a := p.1.2.2.1) (b := q.1.2.2.1) (congrArg (fun x : St => cellS x 0 0) h)) (Prod.ext (Sq.av_inj SRoad.inj (a := p.1.2.2.2.1) (b := q.1.2.2.2.1) (congrArg (fun x : St => cellS x 0 1) h)) (Prod.ext (Sq.av_inj SFan.inj (a := p.1.2.2.2.2.1) (b := q.1.2.2.2.2.1) (congrArg (fun x : St => cellS x 0 2) h)) (Prod.ext (Sq.av_inj intE_i64 (a := p.1.2.2.2.2.2.1) (b := q.1.2.2.2.2.2.1) (congrArg (fun x : St => cellS x 64 0) h)) (Prod.ext (Sq.av_inj intE_i64 (a := p.1.2.2.2.2.2.2.1) (b := q.1.2.2.2.2.2.2.1) (congrArg (fun x : St => cellS x 64 1) h)) (Prod.ext (show p.1.2.2.2.2.2.2.2.1 = q.1.2.2.2.2.2.2.2.1 from congrArg intA (congrArg (fun x : St => cellS x 640 0) h)) (Prod.ext (show p.1.2.2.2.2.2.2.2.2.1 = q.1.2.2.2.2.2.2.2.2.1 from congrArg intA (congrArg (fun x : St => cellS x 640 1) h)) (Prod.ext (show p.1.2.2.2.2.2.2.2.2.2.1 = q.1.2.2.2.2.2.2.2.2.2.1 from congrArg intA (congrArg (fun x : St => cellS x 640 2) h)) (Prod.ext (show p.1.2.2.2.2.2.2.2.2.2.2.1 = q.1.2.2.2.2.2.2.2.2.2.2.1 from congrArg intA (congrArg (fun x : St => cellS x 640 3) h)) (Prod.ext (show p.1.2.2.2.2.2.2.2.2.2.2.2.1 = q.1.2.2.2.2.2.2.2.2.2.2.2.1 from congrArg boolA (congrArg (fun x : St => cellS x 640 4) h)) (Prod.ext (show p.1.2.2.2.2.2.2.2.2.2.2.2.2.1 = q.1.2.2.2.2.2.2.2.2.2.2.2.2.1 from congrArg boolA (congrArg (fun x : St => cellS x 640 5) h)) (Prod.ext (show p.1.2.2.2.2.2.2.2.2.2.2.2.2.2.1 = q.1.2.2.2.2.2.2.2.2.2.2.2.2.2.1 from congrArg intA (congrArg (fun x : St => cellS x 640 8) h)) (show p.1.2.2.2.2.2.2.2.2.2.2.2.2.2.2 = q.1.2.2.2.2.2.2.2.2.2.2.2.2.2.2 from congrArg intA (congrArg (fun x : St => cellS x 640 9) h)))))))))))))))) (Prod.ext (show p.2.1 = q.2.1 from congrArg intA (congrArg (fun x : St => cellS x 640 6) h)) (Prod.ext (show p.2.2.1 = q.2.2.1 from congrArg intA (congrArg (fun x : St => cellS x 640 7) h)) (show p.2.2.2 = q.2.2.2 from congrArg intA (congrArg (fun x : St => aget x.tm 22) h))))
noncomputable def branch_airwayOf_l3_step (road_3_0 : Int) (v3_1 : (Sq SDoor)) (_v3_3 : (Sq SPlace)) (_v3_4 : (Sq SRoad)) (_v3_5 : (Sq SFan)) (_v3_6 : (Sq Int)) (v3_7 : (Sq Int)) (_v3_8 : Int) (_v3_9 : Int) (_v3_10 : Int) (_v3_11 : Int) (_v3_12 : Bool) (_v3_13 : Bool) (_v3_16 : Int) (_v3_17 : Int) (v3_14 : Int) (v3_15 : Int) (v3_18 : Int) : DT (LR (Int × Int × Int) (Int × Int) (Unit)) :=
  .ite (decide (v3_18 < ((v3_1.n : Nat) : Int))) (
    .ite (decide ((0 : Int) ≤ v3_18 ∧ v3_18 < ((v3_1.n : Nat) : Int))) (
      .ite ((v3_1.f (Int.toNat v3_18)).Road == road_3_0) (
        .ite (decide ((0 : Int) ≤ v3_18 ∧ v3_18 < ((v3_7.n : Nat) : Int))) (
          .bind (door_Rest (v3_1.f (Int.toNat v3_18)) (v3_7.f (Int.toNat v3_18))) fun z2014 =>
          .bind (branch_plus (SSpan.mk v3_14 v3_15) z2014) fun z2015 =>
          .leaf (.next (z2015.Low, z2015.High, (wr (v3_18 + (1 : Int)))))) (
          .fail)) (
        .leaf (.next (v3_14, v3_15, (wr (v3_18 + (1 : Int))))))) (
      .fail)) (
    .leaf (.l (v3_14, v3_15)))
def branch_airwayOf_l3_el (x : St) (a : Int × Int) : St := ⟨[(2, aget x.tm 2), (3, .ptr 0 0), (4, .ptr 64 0), (6, .ptr 128 0), (7, .ptr 640 0)], [(0, blkS x 0), (64, blkS x 64), (128, .var [.int .i64 (0 : Int), .int .i64 (0 : Int), .int .i64 (0 : Int), .int .i64 (0 : Int), .bool false, .bool false, .int .i64 (0 : Int), .int .i64 (0 : Int), .int .i64 (0 : Int), .int .i64 (0 : Int), .own 129 0]), (129, .nilrow 0), (576, .nilrow 0), (640, .var [cellS x 640 0, cellS x 640 1, cellS x 640 2, cellS x 640 3, cellS x 640 4, cellS x 640 5, .int .i64 a.1, .int .i64 a.2, cellS x 640 8, cellS x 640 9, .own 576 0])], 1024⟩
def branch_airwayOf_l3_er (_ : St) (_ : Unit) : St := ⟨[], [], 0⟩
noncomputable def branch_airwayOf_l3_f (p : (Int × (Sq SDoor) × (Sq SPlace) × (Sq SRoad) × (Sq SFan) × (Sq Int) × (Sq Int) × Int × Int × Int × Int × Bool × Bool × Int × Int) × (Int × Int × Int)) : Option ((Int × Int) ⊕ (Unit)) := fixO (fun v : Int × Int × Int => branch_airwayOf_l3_step p.1.1 p.1.2.1 p.1.2.2.1 p.1.2.2.2.1 p.1.2.2.2.2.1 p.1.2.2.2.2.2.1 p.1.2.2.2.2.2.2.1 p.1.2.2.2.2.2.2.2.1 p.1.2.2.2.2.2.2.2.2.1 p.1.2.2.2.2.2.2.2.2.2.1 p.1.2.2.2.2.2.2.2.2.2.2.1 p.1.2.2.2.2.2.2.2.2.2.2.2.1 p.1.2.2.2.2.2.2.2.2.2.2.2.2.1 p.1.2.2.2.2.2.2.2.2.2.2.2.2.2.1 p.1.2.2.2.2.2.2.2.2.2.2.2.2.2.2 v.1 v.2.1 v.2.2) p.2
noncomputable def branch_airwayOf_l3_c : St → Option LRes := loopM branch_airwayOf_l3_s branch_airwayOf_l3_f true (.exit 0) branch_airwayOf_l3_el .ret branch_airwayOf_l3_er
noncomputable def branch_airwayOf_l3 (road_3_0 : Int) (v3_1 : (Sq SDoor)) (v3_3 : (Sq SPlace)) (v3_4 : (Sq SRoad)) (v3_5 : (Sq SFan)) (v3_6 : (Sq Int)) (v3_7 : (Sq Int)) (v3_8 : Int) (v3_9 : Int) (v3_10 : Int) (v3_11 : Int) (v3_12 : Bool) (v3_13 : Bool) (v3_16 : Int) (v3_17 : Int) (v3_14 : Int) (v3_15 : Int) (v3_18 : Int) : Option ((Int × Int) ⊕ (Unit)) := gOfS branch_airwayOf_l3_s branch_airwayOf_l3_f (branch_airwayOf_l3_s ((road_3_0, v3_1, v3_3, v3_4, v3_5, v3_6, v3_7, v3_8, v3_9, v3_10, v3_11, v3_12, v3_13, v3_16, v3_17), (v3_14, v3_15, v3_18)))
theorem branch_airwayOf_l3_eq (road_3_0 : Int) (v3_1 : (Sq SDoor)) (v3_3 : (Sq SPlace)) (v3_4 : (Sq SRoad)) (v3_5 : (Sq SFan)) (v3_6 : (Sq Int)) (v3_7 : (Sq Int)) (v3_8 : Int) (v3_9 : Int) (v3_10 : Int) (v3_11 : Int) (v3_12 : Bool) (v3_13 : Bool) (v3_16 : Int) (v3_17 : Int) (v3_14 : Int) (v3_15 : Int) (v3_18 : Int) : branch_airwayOf_l3 road_3_0 v3_1 v3_3 v3_4 v3_5 v3_6 v3_7 v3_8 v3_9 v3_10 v3_11 v3_12 v3_13 v3_16 v3_17 v3_14 v3_15 v3_18 = fixO (fun v : Int × Int × Int => branch_airwayOf_l3_step road_3_0 v3_1 v3_3 v3_4 v3_5 v3_6 v3_7 v3_8 v3_9 v3_10 v3_11 v3_12 v3_13 v3_16 v3_17 v.1 v.2.1 v.2.2) (v3_14, v3_15, v3_18) := gOfS_eq branch_airwayOf_l3_inj branch_airwayOf_l3_f ((road_3_0, v3_1, v3_3, v3_4, v3_5, v3_6, v3_7, v3_8, v3_9, v3_10, v3_11, v3_12, v3_13, v3_16, v3_17), (v3_14, v3_15, v3_18))
def branch_airwayOf_l9_s (p : (Int × (Sq SFan) × (Sq Int) × (Sq Int) × Int × Int × Int × Int × Bool × Bool × Int × Int × Int × Int) × ((Sq Sblower) × Int)) : St := ⟨[(2, .int .i64 p.1.1), (4, .ptr 64 0), (6, .ptr 128 0), (7, .ptr 640 0), (46, .slc 4 p.1.2.1.n (fun k2782 => (SFan.enc (p.1.2.1.f k2782)))), (47, .int .i64 ((p.1.2.1.n : Nat) : Int)), (48, .int .i64 p.2.2)], [(64, .var [.slc 1 p.1.2.2.1.n (fun k2783 => [.int .i64 (p.1.2.2.1.f k2783)]), .slc 1 p.1.2.2.2.1.n (fun k2784 => [.int .i64 (p.1.2.2.2.1.f k2784)])]), (128, .var [.int .i64 (0 : Int), .int .i64 (0 : Int), .int .i64 (0 : Int), .int .i64 (0 : Int), .bool false, .bool false, .int .i64 (0 : Int), .int .i64 (0 : Int), .int .i64 (0 : Int), .int .i64 (0 : Int), .own 129 0]), (129, .nilrow 0), (576, .row 0 5 p.2.1.n 106 (fun k2785 => (Sblower.enc (p.2.1.f k2785)))), (640, .var [.int .i64 p.1.2.2.2.2.1, .int .i64 p.1.2.2.2.2.2.1, .int .i64 p.1.2.2.2.2.2.2.1, .int .i64 p.1.2.2.2.2.2.2.2.1, .bool p.1.2.2.2.2.2.2.2.2.1, .bool p.1.2.2.2.2.2.2.2.2.2.1, .int .i64 p.1.2.2.2.2.2.2.2.2.2.2.1, .int .i64 p.1.2.2.2.2.2.2.2.2.2.2.2.1, .int .i64 p.1.2.2.2.2.2.2.2.2.2.2.2.2.1, .int .i64 p.1.2.2.2.2.2.2.2.2.2.2.2.2.2, .own 576 0])], 1280⟩
theorem branch_airwayOf_l9_inj (p q : (Int × (Sq SFan) × (Sq Int) × (Sq Int) × Int × Int × Int × Int × Bool × Bool × Int × Int × Int × Int) × ((Sq Sblower) × Int)) (h : branch_airwayOf_l9_s p = branch_airwayOf_l9_s q) : p = q :=
  Prod.ext (Prod.ext (show p.1.1 = q.1.1 from congrArg intA (congrArg (fun x : St => aget x.tm 2) h)) (Prod.ext (Sq.av_inj SFan.inj (a := p.1.2.1) (b := q.1.2.1) (congrArg (fun x : St => aget x.tm 46) h)) (Prod.ext (Sq.av_inj intE_i64 (a := p.1.2.2.1) (b := q.1.2.2.1) (congrArg (fun x : St => cellS x 64 0) h)) (Prod.ext (Sq.av_inj intE_i64 (a := p.1.2.2.2.1) (b := q.1.2.2.2.1) (congrArg (fun x : St => cellS x 64 1) h)) (Prod.ext (show p.1.2.2.2.2.1 = q.1.2.2.2.2.1 from congrArg intA (congrArg (fun x : St => cellS x 640 0) h)) (Prod.ext (show p.1.2.2.2.2.2.1 = q.1.2.2.2.2.2.1 from congrArg intA (congrArg (fun x : St => cellS x 640 1) h)) (Prod.ext (show p.1.2.2.2.2.2.2.1 = q.1.2.2.2.2.2.2.1 from congrArg intA (congrArg (fun x : St => cellS x 640 2) h)) (Prod.ext (show p.1.2.2.2.2.2.2.2.1 = q.1.2.2.2.2.2.2.2.1 from congrArg intA (congrArg (fun x : St => cellS x 640 3) h)) (Prod.ext (show p.1.2.2.2.2.2.2.2.2.1 = q.1.2.2.2.2.2.2.2.2.1 from congrArg boolA (congrArg (fun x : St => cellS x 640 4) h)) (Prod.ext (show p.1.2.2.2.2.2.2.2.2.2.1 = q.1.2.2.2.2.2.2.2.2.2.1 from congrArg boolA (congrArg (fun x : St => cellS x 640 5) h)) (Prod.ext (show p.1.2.2.2.2.2.2.2.2.2.2.1 = q.1.2.2.2.2.2.2.2.2.2.2.1 from congrArg intA (congrArg (fun x : St => cellS x 640 6) h)) (Prod.ext (show p.1.2.2.2.2.2.2.2.2.2.2.2.1 = q.1.2.2.2.2.2.2.2.2.2.2.2.1 from congrArg intA (congrArg (fun x : St => cellS x 640 7) h)) (Prod.ext (show p.1.2.2.2.2.2.2.2.2.2.2.2.2.1 = q.1.2.2.2.2.2.2.2.2.2.2.2.2.1 from congrArg intA (congrArg (fun x : St => cellS x 640 8) h)) (show p.1.2.2.2.2.2.2.2.2.2.2.2.2.2 = q.1.2.2.2.2.2.2.2.2.2.2.2.2.2 from congrArg intA (congrArg (fun x : St => cellS x 640 9) h))))))))))))))) (Prod.ext (Sq.row_inj Sblower.inj (a := p.2.1) (b := q.2.1) (congrArg (fun x : St => blkS x 576) h)) (show p.2.2 = q.2.2 from congrArg intA (congrArg (fun x : St => aget x.tm 48) h)))
noncomputable def branch_airwayOf_l9_step (road_9_0 : Int) (v9_1 : (Sq SFan)) (v9_3 : (Sq Int)) (_v9_4 : (Sq Int)) (_v9_6 : Int) (_v9_7 : Int) (_v9_8 : Int) (_v9_9 : Int) (_v9_10 : Bool) (_v9_11 : Bool) (_v9_12 : Int) (_v9_13 : Int) (_v9_14 : Int) (_v9_15 : Int) (v9_5 : (Sq Sblower)) (v9_16 : Int) : DT (LR ((Sq Sblower) × Int) ((Sq Sblower)) (Unit)) :=
  .ite (decide (v9_16 < ((v9_1.n : Nat) : Int))) (
    .ite (decide ((0 : Int) ≤ v9_16 ∧ v9_16 < ((v9_1.n : Nat) : Int))) (
      .ite ((v9_1.f (Int.toNat v9_16)).Road == road_9_0) (
        .ite (decide ((0 : Int) ≤ v9_16 ∧ v9_16 < ((v9_3.n : Nat) : Int))) (
          .ite (decide ((v9_5.n + 1) * 48 ≤ 140737488355328 ∧ (v9_5.n + 1) ≤ 1099511627776)) (
            .leaf (.next ((Sq.mk (v9_5.n + 1) (fun k2017 => (Sblower.mk (SFan.mk (cond (Nat.blt k2017 v9_5.n) (v9_5.f k2017).Fan.Road (v9_1.f (Int.toNat v9_16)).Road) (cond (Nat.blt k2017 v9_5.n) (v9_5.f k2017).Fan.Back (v9_1.f (Int.toNat v9_16)).Back) (cond (Nat.blt k2017 v9_5.n) (v9_5.f k2017).Fan.Auxiliary (v9_1.f (Int.toNat v9_16)).Auxiliary) (Sq.mk (cond (Nat.blt k2017 v9_5.n) (v9_5.f k2017).Fan.Curve.n (v9_1.f (Int.toNat v9_16)).Curve.n) (fun k2018 => (SPoint.mk (cond (Nat.blt k2017 v9_5.n) ((v9_5.f k2017).Fan.Curve.f k2018).Flow ((v9_1.f (Int.toNat v9_16)).Curve.f k2018).Flow) (cond (Nat.blt k2017 v9_5.n) ((v9_5.f k2017).Fan.Curve.f k2018).Pressure ((v9_1.f (Int.toNat v9_16)).Curve.f k2018).Pressure))))) (cond (Nat.blt k2017 v9_5.n) (v9_5.f k2017).state_ (v9_3.f (Int.toNat v9_16)))))), (wr (v9_16 + (1 : Int)))))) (
            .fail)) (
          .fail)) (
        .leaf (.next (v9_5, (wr (v9_16 + (1 : Int))))))) (
      .fail)) (
    .leaf (.l v9_5))
def branch_airwayOf_l9_el (x : St) (a : (Sq Sblower)) : St := ⟨[(6, .ptr 128 0), (7, .ptr 640 0)], [(64, blkS x 64), (128, .var [.int .i64 (0 : Int), .int .i64 (0 : Int), .int .i64 (0 : Int), .int .i64 (0 : Int), .bool false, .bool false, .int .i64 (0 : Int), .int .i64 (0 : Int), .int .i64 (0 : Int), .int .i64 (0 : Int), .own 129 0]), (129, .nilrow 0), (576, .row 0 5 a.n 106 (fun k2786 => (Sblower.enc (a.f k2786)))), (640, blkS x 640)], 1280⟩
def branch_airwayOf_l9_er (_ : St) (_ : Unit) : St := ⟨[], [], 0⟩
noncomputable def branch_airwayOf_l9_f (p : (Int × (Sq SFan) × (Sq Int) × (Sq Int) × Int × Int × Int × Int × Bool × Bool × Int × Int × Int × Int) × ((Sq Sblower) × Int)) : Option (((Sq Sblower)) ⊕ (Unit)) := fixO (fun v : (Sq Sblower) × Int => branch_airwayOf_l9_step p.1.1 p.1.2.1 p.1.2.2.1 p.1.2.2.2.1 p.1.2.2.2.2.1 p.1.2.2.2.2.2.1 p.1.2.2.2.2.2.2.1 p.1.2.2.2.2.2.2.2.1 p.1.2.2.2.2.2.2.2.2.1 p.1.2.2.2.2.2.2.2.2.2.1 p.1.2.2.2.2.2.2.2.2.2.2.1 p.1.2.2.2.2.2.2.2.2.2.2.2.1 p.1.2.2.2.2.2.2.2.2.2.2.2.2.1 p.1.2.2.2.2.2.2.2.2.2.2.2.2.2 v.1 v.2) p.2
noncomputable def branch_airwayOf_l9_c : St → Option LRes := loopM branch_airwayOf_l9_s branch_airwayOf_l9_f true (.exit 2) branch_airwayOf_l9_el .ret branch_airwayOf_l9_er
noncomputable def branch_airwayOf_l9 (road_9_0 : Int) (v9_1 : (Sq SFan)) (v9_3 : (Sq Int)) (v9_4 : (Sq Int)) (v9_6 : Int) (v9_7 : Int) (v9_8 : Int) (v9_9 : Int) (v9_10 : Bool) (v9_11 : Bool) (v9_12 : Int) (v9_13 : Int) (v9_14 : Int) (v9_15 : Int) (v9_5 : (Sq Sblower)) (v9_16 : Int) : Option (((Sq Sblower)) ⊕ (Unit)) := gOfS branch_airwayOf_l9_s branch_airwayOf_l9_f (branch_airwayOf_l9_s ((road_9_0, v9_1, v9_3, v9_4, v9_6, v9_7, v9_8, v9_9, v9_10, v9_11, v9_12, v9_13, v9_14, v9_15), (v9_5, v9_16)))
theorem branch_airwayOf_l9_eq (road_9_0 : Int) (v9_1 : (Sq SFan)) (v9_3 : (Sq Int)) (v9_4 : (Sq Int)) (v9_6 : Int) (v9_7 : Int) (v9_8 : Int) (v9_9 : Int) (v9_10 : Bool) (v9_11 : Bool) (v9_12 : Int) (v9_13 : Int) (v9_14 : Int) (v9_15 : Int) (v9_5 : (Sq Sblower)) (v9_16 : Int) : branch_airwayOf_l9 road_9_0 v9_1 v9_3 v9_4 v9_6 v9_7 v9_8 v9_9 v9_10 v9_11 v9_12 v9_13 v9_14 v9_15 v9_5 v9_16 = fixO (fun v : (Sq Sblower) × Int => branch_airwayOf_l9_step road_9_0 v9_1 v9_3 v9_4 v9_6 v9_7 v9_8 v9_9 v9_10 v9_11 v9_12 v9_13 v9_14 v9_15 v.1 v.2) (v9_5, v9_16) := gOfS_eq branch_airwayOf_l9_inj branch_airwayOf_l9_f ((road_9_0, v9_1, v9_3, v9_4, v9_6, v9_7, v9_8, v9_9, v9_10, v9_11, v9_12, v9_13, v9_14, v9_15), (v9_5, v9_16))
noncomputable def branch_airwayOf_t (a : SAir) (s : SSetting) (road : Int) : DT (Sairway) :=
  .ite (decide ((0 : Int) ≤ road ∧ road < ((a.Mine.Roads.n : Nat) : Int))) (
    .sum (branch_airwayOf_l3 road a.Doors a.Mine.Places a.Mine.Roads a.Fans s.Fans s.Doors (a.Mine.Roads.f (Int.toNat road)).From (a.Mine.Roads.f (Int.toNat road)).To (a.Mine.Roads.f (Int.toNat road)).Length (a.Mine.Roads.f (Int.toNat road)).Area (a.Mine.Roads.f (Int.toNat road)).Walk (a.Mine.Roads.f (Int.toNat road)).Closed (a.Mine.Roads.f (Int.toNat road)).Lift.Low (a.Mine.Roads.f (Int.toNat road)).Lift.High (a.Mine.Roads.f (Int.toNat road)).Rest.Low (a.Mine.Roads.f (Int.toNat road)).Rest.High (0 : Int)) (fun y2016 =>
      .sum (branch_airwayOf_l9 road a.Fans s.Fans s.Doors (a.Mine.Roads.f (Int.toNat road)).From (a.Mine.Roads.f (Int.toNat road)).To (a.Mine.Roads.f (Int.toNat road)).Length (a.Mine.Roads.f (Int.toNat road)).Area (a.Mine.Roads.f (Int.toNat road)).Walk (a.Mine.Roads.f (Int.toNat road)).Closed y2016.1 y2016.2 (a.Mine.Roads.f (Int.toNat road)).Lift.Low (a.Mine.Roads.f (Int.toNat road)).Lift.High (Sq.mk 0 (fun _ => (Sblower.mk (SFan.mk (0 : Int) false false (Sq.mk 0 (fun _ => (SPoint.mk (0 : Int) (0 : Int))))) (0 : Int)))) (0 : Int)) (fun y2019 =>
        .leaf (Sairway.mk (SRoad.mk (a.Mine.Roads.f (Int.toNat road)).From (a.Mine.Roads.f (Int.toNat road)).To (a.Mine.Roads.f (Int.toNat road)).Length (a.Mine.Roads.f (Int.toNat road)).Area (a.Mine.Roads.f (Int.toNat road)).Walk (a.Mine.Roads.f (Int.toNat road)).Closed (SSpan.mk y2016.1 y2016.2) (a.Mine.Roads.f (Int.toNat road)).Lift) y2019)) (fun _ =>
        .fail)) (fun _ =>
      .fail)) (
    .fail)
def branch_airwayOf_av (r : Sairway) : AV := .agg [.int .i64 r.Road.From, .int .i64 r.Road.To, .int .i64 r.Road.Length, .int .i64 r.Road.Area, .bool r.Road.Walk, .bool r.Road.Closed, .int .i64 r.Road.Rest.Low, .int .i64 r.Road.Rest.High, .int .i64 r.Road.Lift.Low, .int .i64 r.Road.Lift.High, .own 0 0]
def branch_airwayOf_outs (_ : List Blk) (r : Sairway) : List Blk := [.row 0 5 r.blowers_.n 106 (fun k2787 => (Sblower.enc (r.blowers_.f k2787)))]
noncomputable def c_branch_airwayOf : List AV → List Blk → Option Ans := told branch_airwayOf_enc (fun p => (branch_airwayOf_t p.1 p.2.1 p.2.2).get) branch_airwayOf_av branch_airwayOf_outs false (fun h => by cases h)
noncomputable def branch_airwayOf_env : Env := { envS (fun f => match f with
  | 76 => c_door_Rest
  | 75 => c_branch_plus
  | _ => fun _ _ => none) (fun r => match r with | 3 => some ([2, 3, 4, 6, 7, 20, 21, 22], [2, 3, 4, 6, 7]) | 9 => some ([2, 4, 6, 7, 46, 47, 48], [6, 7]) | _ => none) with loops := fun r => match r with | 3 => some branch_airwayOf_l3_c | 9 => some branch_airwayOf_l9_c | _ => none, pre := fun r => match r with | 1000009 => [.asrow 576 106 5 (fun _ => (Sblower.enc (Sblower.mk (SFan.mk (0 : Int) false false (Sq.mk 0 (fun _ => (SPoint.mk (0 : Int) (0 : Int))))) (0 : Int))))] | _ => [], gc := fun r => match r with | 3 => some [0, 64, 128, 129, 576, 640] | 9 => some [64, 128, 129, 576, 640] | _ => none, mm := some 0 }
theorem branch_airwayOf_env_ok : ∀ f, Tells Try.prog f (branch_airwayOf_env.fs f) := by
  intro f
  by_cases h0 : f = 76
  · subst h0; exact door_Rest_tells
  by_cases h1 : f = 75
  · subst h1; exact branch_plus_tells
  have : branch_airwayOf_env.fs f = fun _ _ => none := by
    unfold branch_airwayOf_env envS
    dsimp only
    split
    · exact absurd rfl h0
    · exact absurd rfl h1
    · rfl
  rw [this]
  exact Tells.none_ f
noncomputable def branch_airwayOf_e : Env := { branch_airwayOf_env with nt := 71 }
noncomputable def branch_airwayOf_l3_b : Code := loopOf 3 Try.f64
theorem branch_airwayOf_l3_round {R : Type} (fx : Int × (Sq SDoor) × (Sq SPlace) × (Sq SRoad) × (Sq SFan) × (Sq Int) × (Sq Int) × Int × Int × Int × Int × Bool × Bool × Int × Int) (v : Int × Int × Int) (N : Nat) (K : AX → St → Option R) : aloop (fun s j => aexec branch_airwayOf_e branch_airwayOf_l3_b s j) (headOf branch_airwayOf_e branch_airwayOf_l3_b 1024) (exitOf branch_airwayOf_e branch_airwayOf_l3_b 1024) (N + 1) (branch_airwayOf_l3_s (fx, v)) K = (branch_airwayOf_l3_step fx.1 fx.2.1 fx.2.2.1 fx.2.2.2.1 fx.2.2.2.2.1 fx.2.2.2.2.2.1 fx.2.2.2.2.2.2.1 fx.2.2.2.2.2.2.2.1 fx.2.2.2.2.2.2.2.2.1 fx.2.2.2.2.2.2.2.2.2.1 fx.2.2.2.2.2.2.2.2.2.2.1 fx.2.2.2.2.2.2.2.2.2.2.2.1 fx.2.2.2.2.2.2.2.2.2.2.2.2.1 fx.2.2.2.2.2.2.2.2.2.2.2.2.2.1 fx.2.2.2.2.2.2.2.2.2.2.2.2.2.2 v.1 v.2.1 v.2.2).run (LR.elim
    (fun v' => aloop (fun s j => aexec branch_airwayOf_e branch_airwayOf_l3_b s j) (headOf branch_airwayOf_e branch_airwayOf_l3_b 1024) (exitOf branch_airwayOf_e branch_airwayOf_l3_b 1024) N (branch_airwayOf_l3_s (fx, v')) K)
    (fun a => K (.exit 0) (branch_airwayOf_l3_el (branch_airwayOf_l3_s (fx, v)) a))
    (fun a => K .ret (branch_airwayOf_l3_er (branch_airwayOf_l3_s (fx, v)) a))) := by kernel_rfl
theorem branch_airwayOf_l3_tells : LoopTells branch_airwayOf_e branch_airwayOf_l3_b branch_airwayOf_l3_c :=
  loopM_tells (s := branch_airwayOf_l3_s) (stl := branch_airwayOf_l3_el) (str := branch_airwayOf_l3_er) (step := fun (fx : Int × (Sq SDoor) × (Sq SPlace) × (Sq SRoad) × (Sq SFan) × (Sq Int) × (Sq Int) × Int × Int × Int × Int × Bool × Bool × Int × Int) (v : Int × Int × Int) => branch_airwayOf_l3_step fx.1 fx.2.1 fx.2.2.1 fx.2.2.2.1 fx.2.2.2.2.1 fx.2.2.2.2.2.1 fx.2.2.2.2.2.2.1 fx.2.2.2.2.2.2.2.1 fx.2.2.2.2.2.2.2.2.1 fx.2.2.2.2.2.2.2.2.2.1 fx.2.2.2.2.2.2.2.2.2.2.1 fx.2.2.2.2.2.2.2.2.2.2.2.1 fx.2.2.2.2.2.2.2.2.2.2.2.2.1 fx.2.2.2.2.2.2.2.2.2.2.2.2.2.1 fx.2.2.2.2.2.2.2.2.2.2.2.2.2.2 v.1 v.2.1 v.2.2) (n := 1024) (fun _ => rfl) (fun _ _ _ _ => rfl) (fun _ _ _ _ => rfl) branch_airwayOf_l3_round
noncomputable def branch_airwayOf_l9_b : Code := loopOf 9 Try.f64
theorem branch_airwayOf_l9_round {R : Type} (fx : Int × (Sq SFan) × (Sq Int) × (Sq Int) × Int × Int × Int × Int × Bool × Bool × Int × Int × Int × Int) (v : (Sq Sblower) × Int) (N : Nat) (K : AX → St → Option R) : aloop (fun s j => aexec branch_airwayOf_e branch_airwayOf_l9_b s j) (headOf branch_airwayOf_e branch_airwayOf_l9_b 1280) (exitOf branch_airwayOf_e branch_airwayOf_l9_b 1280) (N + 1) (branch_airwayOf_l9_s (fx, v)) K = (branch_airwayOf_l9_step fx.1 fx.2.1 fx.2.2.1 fx.2.2.2.1 fx.2.2.2.2.1 fx.2.2.2.2.2.1 fx.2.2.2.2.2.2.1 fx.2.2.2.2.2.2.2.1 fx.2.2.2.2.2.2.2.2.1 fx.2.2.2.2.2.2.2.2.2.1 fx.2.2.2.2.2.2.2.2.2.2.1 fx.2.2.2.2.2.2.2.2.2.2.2.1 fx.2.2.2.2.2.2.2.2.2.2.2.2.1 fx.2.2.2.2.2.2.2.2.2.2.2.2.2 v.1 v.2).run (LR.elim
    (fun v' => aloop (fun s j => aexec branch_airwayOf_e branch_airwayOf_l9_b s j) (headOf branch_airwayOf_e branch_airwayOf_l9_b 1280) (exitOf branch_airwayOf_e branch_airwayOf_l9_b 1280) N (branch_airwayOf_l9_s (fx, v')) K)
    (fun a => K (.exit 2) (branch_airwayOf_l9_el (branch_airwayOf_l9_s (fx, v)) a))
    (fun a => K .ret (branch_airwayOf_l9_er (branch_airwayOf_l9_s (fx, v)) a))) := by kernel_rfl
theorem branch_airwayOf_l9_tells : LoopTells branch_airwayOf_e branch_airwayOf_l9_b branch_airwayOf_l9_c :=
  loopM_tells (s := branch_airwayOf_l9_s) (stl := branch_airwayOf_l9_el) (str := branch_airwayOf_l9_er) (step := fun (fx : Int × (Sq SFan) × (Sq Int) × (Sq Int) × Int × Int × Int × Int × Bool × Bool × Int × Int × Int × Int) (v : (Sq Sblower) × Int) => branch_airwayOf_l9_step fx.1 fx.2.1 fx.2.2.1 fx.2.2.2.1 fx.2.2.2.2.1 fx.2.2.2.2.2.1 fx.2.2.2.2.2.2.1 fx.2.2.2.2.2.2.2.1 fx.2.2.2.2.2.2.2.2.1 fx.2.2.2.2.2.2.2.2.2.1 fx.2.2.2.2.2.2.2.2.2.2.1 fx.2.2.2.2.2.2.2.2.2.2.2.1 fx.2.2.2.2.2.2.2.2.2.2.2.2.1 fx.2.2.2.2.2.2.2.2.2.2.2.2.2 v.1 v.2) (n := 1280) (fun _ => rfl) (fun _ _ _ _ => rfl) (fun _ _ _ _ => rfl) branch_airwayOf_l9_round
theorem branch_airwayOf_run (p : SAir × SSetting × Int) : arun branch_airwayOf_env Try.f64 (branch_airwayOf_enc p).1 (branch_airwayOf_enc p).2 = (branch_airwayOf_t p.1 p.2.1 p.2.2).run fun r => some (branch_airwayOf_av r, branch_airwayOf_outs (branch_airwayOf_enc p).2 r) := by kernel_rfl
theorem branch_airwayOf_loops : ∀ c, Try.f64.body = some c → LoopsOK { branch_airwayOf_env with nt := Try.f64.ntmps } c := by
  intro c hc
  refine loops_of c fun c' hc' f hf => ?_
  have hb : loopsOf c = [branch_airwayOf_l3_b, branch_airwayOf_l9_b] := by
    have : Try.f64.body.map loopsOf = some [branch_airwayOf_l3_b, branch_airwayOf_l9_b] := by kernel_rfl
    rw [hc] at this
    injection this
  rw [hb] at hc'
  clear hb
  rcases List.mem_cons.1 hc' with rfl | hc'
  ·
    have h6 : firstReg branch_airwayOf_l3_b = 3 := by kernel_rfl
    rw [h6] at hf
    obtain rfl := Option.some.inj hf
    exact branch_airwayOf_l3_tells
  obtain rfl := List.mem_singleton.1 hc'
  have h6 : firstReg branch_airwayOf_l9_b = 9 := by kernel_rfl
  rw [h6] at hf
  obtain rfl := Option.some.inj hf
  exact branch_airwayOf_l9_tells
attribute [local irreducible] arun in
theorem branch_airwayOf_tells : Tells Try.prog 64 c_branch_airwayOf :=
  told_tells (E := branch_airwayOf_env) (enc := branch_airwayOf_enc) (av := branch_airwayOf_av) (outs := branch_airwayOf_outs) (t := fun p : SAir × SSetting × Int => branch_airwayOf_t p.1 p.2.1 p.2.2) (by kernel_rfl) branch_airwayOf_env_ok Try.func64 branch_airwayOf_loops branch_airwayOf_run
noncomputable def branch_airwayOf (a : SAir) (s : SSetting) (road : Int) : Option (Sairway) := gOfA branch_airwayOf_enc (fun p => (branch_airwayOf_t p.1 p.2.1 p.2.2).get) (branch_airwayOf_encC a s road).1 (branch_airwayOf_encC a s road).2
theorem branch_airwayOf_eq (a : SAir) (s : SSetting) (road : Int) : branch_airwayOf a s road = (branch_airwayOf_t a s road).get := congrFun (gOfA_eq branch_airwayOf_inj (fun p => (branch_airwayOf_t p.1 p.2.1 p.2.2).get)) (a, s, road)

/-! ### minecontrol/branch.open -/
def branch_open_encC (a : SAir) (s : SSetting) (road : Int) : List AV × List Blk := ([.agg [.slc 2 a.Mine.Places.n (fun k2788 => (SPlace.enc (a.Mine.Places.f k2788))), .slc 10 a.Mine.Roads.n (fun k2789 => (SRoad.enc (a.Mine.Roads.f k2789))), .slc 4 a.Fans.n (fun k2790 => (SFan.enc (a.Fans.f k2790))), .slc 3 a.Doors.n (fun k2791 => (SDoor.enc (a.Doors.f k2791)))], .agg [.slc 1 s.Fans.n (fun k2792 => [.int .i64 (s.Fans.f k2792)]), .slc 1 s.Doors.n (fun k2793 => [.int .i64 (s.Doors.f k2793)])], .int .i64 road], [])
def branch_open_enc (p : SAir × SSetting × Int) : List AV × List Blk := branch_open_encC p.1 p.2.1 p.2.2
theorem branch_open_inj (p q : SAir × SSetting × Int) (h : branch_open_enc p = branch_open_enc q) : p = q :=
  (Prod.ext (SAir.ext2 (SMine.ext2 (Sq.av_inj SPlace.inj (a := p.1.Mine.Places) (b := q.1.Mine.Places) (congrArg (fun x : List AV × List Blk => argC x.1 0 0) h)) (Sq.av_inj SRoad.inj (a := p.1.Mine.Roads) (b := q.1.Mine.Roads) (congrArg (fun x : List AV × List Blk => argC x.1 0 1) h))) (Sq.av_inj SFan.inj (a := p.1.Fans) (b := q.1.Fans) (congrArg (fun x : List AV × List Blk => argC x.1 0 2) h)) (Sq.av_inj SDoor.inj (a := p.1.Doors) (b := q.1.Doors) (congrArg (fun x : List AV × List Blk => argC x.1 0 3) h))) (Prod.ext (SSetting.ext2 (Sq.av_inj intE_i64 (a := p.2.1.Fans) (b := q.2.1.Fans) (congrArg (fun x : List AV × List Blk => argC x.1 1 0) h)) (Sq.av_inj intE_i64 (a := p.2.1.Doors) (b := q.2.1.Doors) (congrArg (fun x : List AV × List Blk => argC x.1 1 1) h))) (show p.2.2 = q.2.2 from congrArg intA (congrArg (fun x : List AV × List Blk => x.1.getD 2 .undef) h))))
noncomputable def branch_open_t (a : SAir) (s : SSetting) (road : Int) : DT (Sairway × Bool) :=
  .bind (branch_Right a s) fun z2021 =>
  .ite (!z2021) (
    .leaf ((Sairway.mk (SRoad.mk (0 : Int) (0 : Int) (0 : Int) (0 : Int) false false (SSpan.mk (0 : Int) (0 : Int)) (SSpan.mk (0 : Int) (0 : Int))) (Sq.mk 0 (fun _ => (Sblower.mk (SFan.mk (0 : Int) false false (Sq.mk 0 (fun _ => (SPoint.mk (0 : Int) (0 : Int))))) (0 : Int))))), false)) (
    .bind (branch_hasRoad a road) fun z2022 =>
    .ite (!z2022) (
      .leaf ((Sairway.mk (SRoad.mk (0 : Int) (0 : Int) (0 : Int) (0 : Int) false false (SSpan.mk (0 : Int) (0 : Int)) (SSpan.mk (0 : Int) (0 : Int))) (Sq.mk 0 (fun _ => (Sblower.mk (SFan.mk (0 : Int) false false (Sq.mk 0 (fun _ => (SPoint.mk (0 : Int) (0 : Int))))) (0 : Int))))), false)) (
      .ite (decide ((0 : Int) ≤ road ∧ road < ((a.Mine.Roads.n : Nat) : Int))) (
        .ite (a.Mine.Roads.f (Int.toNat road)).Closed (
          .leaf ((Sairway.mk (SRoad.mk (0 : Int) (0 : Int) (0 : Int) (0 : Int) false false (SSpan.mk (0 : Int) (0 : Int)) (SSpan.mk (0 : Int) (0 : Int))) (Sq.mk 0 (fun _ => (Sblower.mk (SFan.mk (0 : Int) false false (Sq.mk 0 (fun _ => (SPoint.mk (0 : Int) (0 : Int))))) (0 : Int))))), false)) (
          .bind (branch_airwayOf a s road) fun z2023 =>
          .leaf (z2023, true))) (
        .fail)))
def branch_open_av (r : Sairway × Bool) : AV := .tup [.agg [.int .i64 r.1.Road.From, .int .i64 r.1.Road.To, .int .i64 r.1.Road.Length, .int .i64 r.1.Road.Area, .bool r.1.Road.Walk, .bool r.1.Road.Closed, .int .i64 r.1.Road.Rest.Low, .int .i64 r.1.Road.Rest.High, .int .i64 r.1.Road.Lift.Low, .int .i64 r.1.Road.Lift.High, .own 0 0], .bool r.2]
def branch_open_outs (_ : List Blk) (r : Sairway × Bool) : List Blk := [.row 0 5 r.1.blowers_.n 106 (fun k2794 => (Sblower.enc (r.1.blowers_.f k2794)))]
noncomputable def c_branch_open : List AV → List Blk → Option Ans := told branch_open_enc (fun p => (branch_open_t p.1 p.2.1 p.2.2).get) branch_open_av branch_open_outs false (fun h => by cases h)
noncomputable def branch_open_env : Env := { envS (fun f => match f with
  | 19 => c_branch_Right
  | 61 => c_branch_hasRoad
  | 64 => c_branch_airwayOf
  | _ => fun _ _ => none) with pre := fun r => match r with | 2000000 => [.asrow 1472 106 5 (fun _ => (Sblower.enc (Sblower.mk (SFan.mk (0 : Int) false false (Sq.mk 0 (fun _ => (SPoint.mk (0 : Int) (0 : Int))))) (0 : Int))))] | _ => [], mm := some 0 }
theorem branch_open_env_ok : ∀ f, Tells Try.prog f (branch_open_env.fs f) := by
  intro f
  by_cases h0 : f = 19
  · subst h0; exact branch_Right_tells
  by_cases h1 : f = 61
  · subst h1; exact branch_hasRoad_tells
  by_cases h2 : f = 64
  · subst h2; exact branch_airwayOf_tells
  have : branch_open_env.fs f = fun _ _ => none := by
    unfold branch_open_env envS
    dsimp only
    split
    · exact absurd rfl h0
    · exact absurd rfl h1
    · exact absurd rfl h2
    · rfl
  rw [this]
  exact Tells.none_ f
theorem branch_open_run (p : SAir × SSetting × Int) : arun branch_open_env Try.f42 (branch_open_enc p).1 (branch_open_enc p).2 = (branch_open_t p.1 p.2.1 p.2.2).run fun r => some (branch_open_av r, branch_open_outs (branch_open_enc p).2 r) := by kernel_rfl
attribute [local irreducible] arun in
theorem branch_open_tells : Tells Try.prog 42 c_branch_open :=
  told_tells (E := branch_open_env) (enc := branch_open_enc) (av := branch_open_av) (outs := branch_open_outs) (t := fun p : SAir × SSetting × Int => branch_open_t p.1 p.2.1 p.2.2) (by kernel_rfl) branch_open_env_ok Try.func42 (fun c _ => loops_none (E := { branch_open_env with nt := Try.f42.ntmps }) (fun _ => rfl) c) branch_open_run
noncomputable def branch_open (a : SAir) (s : SSetting) (road : Int) : Option (Sairway × Bool) := gOfA branch_open_enc (fun p => (branch_open_t p.1 p.2.1 p.2.2).get) (branch_open_encC a s road).1 (branch_open_encC a s road).2
theorem branch_open_eq (a : SAir) (s : SSetting) (road : Int) : branch_open a s road = (branch_open_t a s road).get := congrFun (gOfA_eq branch_open_inj (fun p => (branch_open_t p.1 p.2.1 p.2.2).get)) (a, s, road)

/-! ### minecontrol/branch.times -/
def branch_times_encC (s : SSpan) (n : Int) : List AV × List Blk := ([.agg [.int .i64 s.Low, .int .i64 s.High], .int .i64 n], [])
def branch_times_enc (p : SSpan × Int) : List AV × List Blk := branch_times_encC p.1 p.2
theorem branch_times_inj (p q : SSpan × Int) (h : branch_times_enc p = branch_times_enc q) : p = q :=
  (Prod.ext (SSpan.ext2 (show p.1.Low = q.1.Low from congrArg intA (congrArg (fun x : List AV × List Blk => argC x.1 0 0) h)) (show p.1.High = q.1.High from congrArg intA (congrArg (fun x : List AV × List Blk => argC x.1 0 1) h))) (show p.2 = q.2 from congrArg intA (congrArg (fun x : List AV × List Blk => x.1.getD 1 .undef) h)))
noncomputable def branch_times_t (s : SSpan) (n : Int) : DT (SSpan) :=
  .leaf (SSpan.mk (if (wr (s.High * n)) < (wr (s.Low * n)) then (wr (s.High * n)) else (wr (s.Low * n))) (if (wr (s.Low * n)) < (wr (s.High * n)) then (wr (s.High * n)) else (wr (s.Low * n))))
def branch_times_av (r : SSpan) : AV := .agg [.int .i64 r.Low, .int .i64 r.High]
def branch_times_outs (_ : List Blk) (_ : SSpan) : List Blk := []
noncomputable def c_branch_times : List AV → List Blk → Option Ans := told branch_times_enc (fun p => (branch_times_t p.1 p.2).get) branch_times_av branch_times_outs true (fun _ _ _ => ⟨rfl, fun b hb => by cases hb⟩)
noncomputable def branch_times_env : Env := { envS (fun _ _ _ => none) with mm := some 0 }
theorem branch_times_env_ok : ∀ f, Tells Try.prog f (branch_times_env.fs f) := fun f => Tells.none_ f

theorem branch_times_run (p : SSpan × Int) : arun branch_times_env Try.f66 (branch_times_enc p).1 (branch_times_enc p).2 = (branch_times_t p.1 p.2).run fun r => some (branch_times_av r, branch_times_outs (branch_times_enc p).2 r) := by kernel_rfl
attribute [local irreducible] arun in
theorem branch_times_tells : Tells Try.prog 66 c_branch_times :=
  told_tells (E := branch_times_env) (enc := branch_times_enc) (av := branch_times_av) (outs := branch_times_outs) (t := fun p : SSpan × Int => branch_times_t p.1 p.2) (by kernel_rfl) branch_times_env_ok Try.func66 (fun c _ => loops_none (E := { branch_times_env with nt := Try.f66.ntmps }) (fun _ => rfl) c) branch_times_run
noncomputable def branch_times (s : SSpan) (n : Int) : Option (SSpan) := gOfA branch_times_enc (fun p => (branch_times_t p.1 p.2).get) (branch_times_encC s n).1 (branch_times_encC s n).2
theorem branch_times_eq (s : SSpan) (n : Int) : branch_times s n = (branch_times_t s n).get := congrFun (gOfA_eq branch_times_inj (fun p => (branch_times_t p.1 p.2).get)) (s, n)

/-! ### minecontrol/branch.less -/
def branch_less_encC (s : SSpan) (t : SSpan) : List AV × List Blk := ([.agg [.int .i64 s.Low, .int .i64 s.High], .agg [.int .i64 t.Low, .int .i64 t.High]], [])
def branch_less_enc (p : SSpan × SSpan) : List AV × List Blk := branch_less_encC p.1 p.2
theorem branch_less_inj (p q : SSpan × SSpan) (h : branch_less_enc p = branch_less_enc q) : p = q :=
  (Prod.ext (SSpan.ext2 (show p.1.Low = q.1.Low from congrArg intA (congrArg (fun x : List AV × List Blk => argC x.1 0 0) h)) (show p.1.High = q.1.High from congrArg intA (congrArg (fun x : List AV × List Blk => argC x.1 0 1) h))) (SSpan.ext2 (show p.2.Low = q.2.Low from congrArg intA (congrArg (fun x : List AV × List Blk => argC x.1 1 0) h)) (show p.2.High = q.2.High from congrArg intA (congrArg (fun x : List AV × List Blk => argC x.1 1 1) h))))
noncomputable def branch_less_t (s : SSpan) (t : SSpan) : DT (SSpan) :=
  .leaf (SSpan.mk (wr (s.Low - t.High)) (wr (s.High - t.Low)))
def branch_less_av (r : SSpan) : AV := .agg [.int .i64 r.Low, .int .i64 r.High]
def branch_less_outs (_ : List Blk) (_ : SSpan) : List Blk := []
noncomputable def c_branch_less : List AV → List Blk → Option Ans := told branch_less_enc (fun p => (branch_less_t p.1 p.2).get) branch_less_av branch_less_outs true (fun _ _ _ => ⟨rfl, fun b hb => by cases hb⟩)
noncomputable def branch_less_env : Env := { envS (fun _ _ _ => none) with mm := some 0 }
theorem branch_less_env_ok : ∀ f, Tells Try.prog f (branch_less_env.fs f) := fun f => Tells.none_ f

theorem branch_less_run (p : SSpan × SSpan) : arun branch_less_env Try.f65 (branch_less_enc p).1 (branch_less_enc p).2 = (branch_less_t p.1 p.2).run fun r => some (branch_less_av r, branch_less_outs (branch_less_enc p).2 r) := by kernel_rfl
attribute [local irreducible] arun in
theorem branch_less_tells : Tells Try.prog 65 c_branch_less :=
  told_tells (E := branch_less_env) (enc := branch_less_enc) (av := branch_less_av) (outs := branch_less_outs) (t := fun p : SSpan × SSpan => branch_less_t p.1 p.2) (by kernel_rfl) branch_less_env_ok Try.func65 (fun c _ => loops_none (E := { branch_less_env with nt := Try.f65.ntmps }) (fun _ => rfl) c) branch_less_run
noncomputable def branch_less (s : SSpan) (t : SSpan) : Option (SSpan) := gOfA branch_less_enc (fun p => (branch_less_t p.1 p.2).get) (branch_less_encC s t).1 (branch_less_encC s t).2
theorem branch_less_eq (s : SSpan) (t : SSpan) : branch_less s t = (branch_less_t s t).get := congrFun (gOfA_eq branch_less_inj (fun p => (branch_less_t p.1 p.2).get)) (s, t)

/-! ### minecontrol/fan.pressure$1 -/
def fan_pressure_1_encC (p : SPoint) (x : Int) : List AV × List Blk := ([.agg [.int .i64 p.Flow, .int .i64 p.Pressure], .ptr 0 0], [.var [.int .i64 x]])
def fan_pressure_1_enc (p : SPoint × Int) : List AV × List Blk := fan_pressure_1_encC p.1 p.2
theorem fan_pressure_1_inj (p q : SPoint × Int) (h : fan_pressure_1_enc p = fan_pressure_1_enc q) : p = q :=
  (Prod.ext (SPoint.ext2 (show p.1.Flow = q.1.Flow from congrArg intA (congrArg (fun x : List AV × List Blk => argC x.1 0 0) h)) (show p.1.Pressure = q.1.Pressure from congrArg intA (congrArg (fun x : List AV × List Blk => argC x.1 0 1) h))) (show p.2 = q.2 from congrArg intA (congrArg (fun x : List AV × List Blk => cellB x.2 0 0) h)))
noncomputable def fan_pressure_1_t (p : SPoint) (x : Int) : DT (Bool) :=
  .leaf (decide (p.Flow ≥ x))
def fan_pressure_1_av (r : Bool) : AV := .bool r
def fan_pressure_1_outs (ins : List Blk) (_ : Bool) : List Blk := [ins.getD 0 (.dead 0)]
noncomputable def c_fan_pressure_1 : List AV → List Blk → Option Ans := told fan_pressure_1_enc (fun p => (fan_pressure_1_t p.1 p.2).get) fan_pressure_1_av fan_pressure_1_outs false (fun h => by cases h)
noncomputable def fan_pressure_1_env : Env := { envS (fun _ _ _ => none) with mm := some 1 }
theorem fan_pressure_1_env_ok : ∀ f, Tells Try.prog f (fan_pressure_1_env.fs f) := fun f => Tells.none_ f

theorem fan_pressure_1_run (p : SPoint × Int) : arun fan_pressure_1_env Try.f91 (fan_pressure_1_enc p).1 (fan_pressure_1_enc p).2 = (fan_pressure_1_t p.1 p.2).run fun r => some (fan_pressure_1_av r, fan_pressure_1_outs (fan_pressure_1_enc p).2 r) := by kernel_rfl
attribute [local irreducible] arun in
theorem fan_pressure_1_tells : Tells Try.prog 91 c_fan_pressure_1 :=
  told_tells (E := fan_pressure_1_env) (enc := fan_pressure_1_enc) (av := fan_pressure_1_av) (outs := fan_pressure_1_outs) (t := fun p : SPoint × Int => fan_pressure_1_t p.1 p.2) (by kernel_rfl) fan_pressure_1_env_ok Try.func91 (fun c _ => loops_none (E := { fan_pressure_1_env with nt := Try.f91.ntmps }) (fun _ => rfl) c) fan_pressure_1_run
noncomputable def fan_pressure_1 (p : SPoint) (x : Int) : Option (Bool) := gOfA fan_pressure_1_enc (fun p => (fan_pressure_1_t p.1 p.2).get) (fan_pressure_1_encC p x).1 (fan_pressure_1_encC p x).2
theorem fan_pressure_1_eq (p : SPoint) (x : Int) : fan_pressure_1 p x = (fan_pressure_1_t p x).get := congrFun (gOfA_eq fan_pressure_1_inj (fun p => (fan_pressure_1_t p.1 p.2).get)) (p, x)

/-! ### slices.IndexFunc[[]minecontrol/api.Point,minecontrol/api.Point] -/
def slices_IndexFunc_v2_encC (s : (Sq SPoint)) (y0 : Int) : List AV × List Blk := ([.slc 2 s.n (fun k2795 => (SPoint.enc (s.f k2795))), .fn 91 [.ptr 0 0]], [.var [.int .i64 y0]])
def slices_IndexFunc_v2_enc (p : (Sq SPoint) × Int) : List AV × List Blk := slices_IndexFunc_v2_encC p.1 p.2
theorem slices_IndexFunc_v2_inj (p q : (Sq SPoint) × Int) (h : slices_IndexFunc_v2_enc p = slices_IndexFunc_v2_enc q) : p = q :=
  (Prod.ext (Sq.av_inj SPoint.inj (a := p.1) (b := q.1) (congrArg (fun x : List AV × List Blk => x.1.getD 0 .undef) h)) (show p.2 = q.2 from congrArg intA (congrArg (fun x : List AV × List Blk => cellB x.2 0 0) h)))
def slices_IndexFunc_v2_l2_s (p : ((Sq SPoint) × Int) × (Int)) : St := ⟨[(0, .slc 2 p.1.1.n (fun k2796 => (SPoint.enc (p.1.1.f k2796)))), (1, .fn 91 [.ptr 0 0]), (7, .int .i64 ((p.1.1.n : Nat) : Int)), (8, .int .i64 p.2)], [(0, .var [.int .i64 p.1.2])], 257⟩
theorem slices_IndexFunc_v2_l2_inj (p q : ((Sq SPoint) × Int) × (Int)) (h : slices_IndexFunc_v2_l2_s p = slices_IndexFunc_v2_l2_s q) : p = q :=
  Prod.ext (Prod.ext (Sq.av_inj SPoint.inj (a := p.1.1) (b := q.1.1) (congrArg (fun x : St => aget x.tm 0) h)) (show p.1.2 = q.1.2 from congrArg intA (congrArg (fun x : St => cellS x 0 0) h))) (show p.2 = q.2 from congrArg intA (congrArg (fun x : St => aget x.tm 8) h))
noncomputable def slices_IndexFunc_v2_l2_step (s_2_0 : (Sq SPoint)) (v2_2 : Int) (v2_3 : Int) : DT (LR (Int) (Unit) (Int)) :=
  .ite (decide (v2_3 < ((s_2_0.n : Nat) : Int))) (
    .ite (decide ((0 : Int) ≤ v2_3 ∧ v2_3 < ((s_2_0.n : Nat) : Int))) (
      .bind (fan_pressure_1 (s_2_0.f (Int.toNat v2_3)) v2_2) fun z2032 =>
      .ite z2032 (
        .leaf (.r v2_3)) (
        .leaf (.next (wr (v2_3 + (1 : Int)))))) (
      .fail)) (
    .leaf (.l ()))
def slices_IndexFunc_v2_l2_el (x : St) (_ : Unit) : St := ⟨[(4, .undef)], [(0, blkS x 0)], 257⟩
def slices_IndexFunc_v2_l2_er (x : St) (a : Int) : St := ⟨[(4, .int .i64 a)], [(0, blkS x 0)], 257⟩
noncomputable def slices_IndexFunc_v2_l2_f (p : ((Sq SPoint) × Int) × (Int)) : Option ((Unit) ⊕ (Int)) := fixO (fun v : Int => slices_IndexFunc_v2_l2_step p.1.1 p.1.2 v) p.2
noncomputable def slices_IndexFunc_v2_l2_c : St → Option LRes := loopM slices_IndexFunc_v2_l2_s slices_IndexFunc_v2_l2_f false (.exit 0) slices_IndexFunc_v2_l2_el .ret slices_IndexFunc_v2_l2_er
noncomputable def slices_IndexFunc_v2_l2 (s_2_0 : (Sq SPoint)) (v2_2 : Int) (v2_3 : Int) : Option ((Unit) ⊕ (Int)) := gOfS slices_IndexFunc_v2_l2_s slices_IndexFunc_v2_l2_f (slices_IndexFunc_v2_l2_s ((s_2_0, v2_2), v2_3))
theorem slices_IndexFunc_v2_l2_eq (s_2_0 : (Sq SPoint)) (v2_2 : Int) (v2_3 : Int) : slices_IndexFunc_v2_l2 s_2_0 v2_2 v2_3 = fixO (fun v : Int => slices_IndexFunc_v2_l2_step s_2_0 v2_2 v) v2_3 := gOfS_eq slices_IndexFunc_v2_l2_inj slices_IndexFunc_v2_l2_f ((s_2_0, v2_2), v2_3)
noncomputable def slices_IndexFunc_v2_t (s : (Sq SPoint)) (y0 : Int) : DT (Int) :=
  .sum (slices_IndexFunc_v2_l2 s y0 (0 : Int)) (fun _ =>
    .leaf (-1 : Int)) (fun y2034 =>
    .leaf y2034)
def slices_IndexFunc_v2_av (r : Int) : AV := .int .i64 r
def slices_IndexFunc_v2_outs (ins : List Blk) (_ : Int) : List Blk := [ins.getD 0 (.dead 0)]
noncomputable def c_slices_IndexFunc_v2 : List AV → List Blk → Option Ans := told slices_IndexFunc_v2_enc (fun p => (slices_IndexFunc_v2_t p.1 p.2).get) slices_IndexFunc_v2_av slices_IndexFunc_v2_outs false (fun h => by cases h)
noncomputable def slices_IndexFunc_v2_env : Env := { envS (fun f => match f with
  | 91 => c_fan_pressure_1
  | _ => fun _ _ => none) (fun r => match r with | 2 => some ([0, 1, 7, 8], [4]) | _ => none) with loops := fun r => match r with | 2 => some slices_IndexFunc_v2_l2_c | _ => none, gc := fun r => match r with | 2 => some [0] | _ => none, mm := some 1 }
theorem slices_IndexFunc_v2_env_ok : ∀ f, Tells Try.prog f (slices_IndexFunc_v2_env.fs f) := by
  intro f
  by_cases h0 : f = 91
  · subst h0; exact fan_pressure_1_tells
  have : slices_IndexFunc_v2_env.fs f = fun _ _ => none := by
    unfold slices_IndexFunc_v2_env envS
    dsimp only
    split
    · exact absurd rfl h0
    · rfl
  rw [this]
  exact Tells.none_ f
noncomputable def slices_IndexFunc_v2_e : Env := { slices_IndexFunc_v2_env with nt := 19 }
noncomputable def slices_IndexFunc_v2_l2_b : Code := loopOf 2 Try.f90
theorem slices_IndexFunc_v2_l2_round {R : Type} (fx : (Sq SPoint) × Int) (v : Int) (N : Nat) (K : AX → St → Option R) : aloop (fun s j => aexec slices_IndexFunc_v2_e slices_IndexFunc_v2_l2_b s j) (headOf slices_IndexFunc_v2_e slices_IndexFunc_v2_l2_b 257) (exitOf slices_IndexFunc_v2_e slices_IndexFunc_v2_l2_b 257) (N + 1) (slices_IndexFunc_v2_l2_s (fx, v)) K = (slices_IndexFunc_v2_l2_step fx.1 fx.2 v).run (LR.elim
    (fun v' => aloop (fun s j => aexec slices_IndexFunc_v2_e slices_IndexFunc_v2_l2_b s j) (headOf slices_IndexFunc_v2_e slices_IndexFunc_v2_l2_b 257) (exitOf slices_IndexFunc_v2_e slices_IndexFunc_v2_l2_b 257) N (slices_IndexFunc_v2_l2_s (fx, v')) K)
    (fun a => K (.exit 0) (slices_IndexFunc_v2_l2_el (slices_IndexFunc_v2_l2_s (fx, v)) a))
    (fun a => K .ret (slices_IndexFunc_v2_l2_er (slices_IndexFunc_v2_l2_s (fx, v)) a))) := by kernel_rfl
theorem slices_IndexFunc_v2_l2_tells : LoopTells slices_IndexFunc_v2_e slices_IndexFunc_v2_l2_b slices_IndexFunc_v2_l2_c :=
  loopM_tells (s := slices_IndexFunc_v2_l2_s) (stl := slices_IndexFunc_v2_l2_el) (str := slices_IndexFunc_v2_l2_er) (step := fun (fx : (Sq SPoint) × Int) (v : Int) => slices_IndexFunc_v2_l2_step fx.1 fx.2 v) (n := 257) (fun _ => rfl) (fun _ _ _ _ => rfl) (fun _ _ _ _ => rfl) slices_IndexFunc_v2_l2_round
theorem slices_IndexFunc_v2_run (p : (Sq SPoint) × Int) : arun slices_IndexFunc_v2_env Try.f90 (slices_IndexFunc_v2_enc p).1 (slices_IndexFunc_v2_enc p).2 = (slices_IndexFunc_v2_t p.1 p.2).run fun r => some (slices_IndexFunc_v2_av r, slices_IndexFunc_v2_outs (slices_IndexFunc_v2_enc p).2 r) := by kernel_rfl
theorem slices_IndexFunc_v2_loops : ∀ c, Try.f90.body = some c → LoopsOK { slices_IndexFunc_v2_env with nt := Try.f90.ntmps } c := by
  intro c hc
  refine loops_of c fun c' hc' f hf => ?_
  have hb : loopsOf c = [slices_IndexFunc_v2_l2_b] := by
    have : Try.f90.body.map loopsOf = some [slices_IndexFunc_v2_l2_b] := by kernel_rfl
    rw [hc] at this
    injection this
  rw [hb] at hc'
  clear hb
  obtain rfl := List.mem_singleton.1 hc'
  have h6 : firstReg slices_IndexFunc_v2_l2_b = 2 := by kernel_rfl
  rw [h6] at hf
  obtain rfl := Option.some.inj hf
  exact slices_IndexFunc_v2_l2_tells
attribute [local irreducible] arun in
theorem slices_IndexFunc_v2_tells : Tells Try.prog 90 c_slices_IndexFunc_v2 :=
  told_tells (E := slices_IndexFunc_v2_env) (enc := slices_IndexFunc_v2_enc) (av := slices_IndexFunc_v2_av) (outs := slices_IndexFunc_v2_outs) (t := fun p : (Sq SPoint) × Int => slices_IndexFunc_v2_t p.1 p.2) (by kernel_rfl) slices_IndexFunc_v2_env_ok Try.func90 slices_IndexFunc_v2_loops slices_IndexFunc_v2_run
noncomputable def slices_IndexFunc_v2 (s : (Sq SPoint)) (y0 : Int) : Option (Int) := gOfA slices_IndexFunc_v2_enc (fun p => (slices_IndexFunc_v2_t p.1 p.2).get) (slices_IndexFunc_v2_encC s y0).1 (slices_IndexFunc_v2_encC s y0).2
theorem slices_IndexFunc_v2_eq (s : (Sq SPoint)) (y0 : Int) : slices_IndexFunc_v2 s y0 = (slices_IndexFunc_v2_t s y0).get := congrFun (gOfA_eq slices_IndexFunc_v2_inj (fun p => (slices_IndexFunc_v2_t p.1 p.2).get)) (s, y0)

/-! ### minecontrol/fan.exactly -/
def fan_exactly_encC (n : Int) : List AV × List Blk := ([.int .i64 n], [])
def fan_exactly_enc (p : Int) : List AV × List Blk := fan_exactly_encC p
theorem fan_exactly_inj (p q : Int) (h : fan_exactly_enc p = fan_exactly_enc q) : p = q :=
  (show p = q from congrArg intA (congrArg (fun x : List AV × List Blk => x.1.getD 0 .undef) h))
noncomputable def fan_exactly_t (n : Int) : DT (SSpan) :=
  .leaf (SSpan.mk n n)
def fan_exactly_av (r : SSpan) : AV := .agg [.int .i64 r.Low, .int .i64 r.High]
def fan_exactly_outs (_ : List Blk) (_ : SSpan) : List Blk := []
noncomputable def c_fan_exactly : List AV → List Blk → Option Ans := told fan_exactly_enc (fun p => (fan_exactly_t p).get) fan_exactly_av fan_exactly_outs true (fun _ _ _ => ⟨rfl, fun b hb => by cases hb⟩)
noncomputable def fan_exactly_env : Env := { envS (fun _ _ _ => none) with mm := some 0 }
theorem fan_exactly_env_ok : ∀ f, Tells Try.prog f (fan_exactly_env.fs f) := fun f => Tells.none_ f

theorem fan_exactly_run (p : Int) : arun fan_exactly_env Try.f92 (fan_exactly_enc p).1 (fan_exactly_enc p).2 = (fan_exactly_t p).run fun r => some (fan_exactly_av r, fan_exactly_outs (fan_exactly_enc p).2 r) := by kernel_rfl
attribute [local irreducible] arun in
theorem fan_exactly_tells : Tells Try.prog 92 c_fan_exactly :=
  told_tells (E := fan_exactly_env) (enc := fan_exactly_enc) (av := fan_exactly_av) (outs := fan_exactly_outs) (t := fun p : Int => fan_exactly_t p) (by kernel_rfl) fan_exactly_env_ok Try.func92 (fun c _ => loops_none (E := { fan_exactly_env with nt := Try.f92.ntmps }) (fun _ => rfl) c) fan_exactly_run
noncomputable def fan_exactly (n : Int) : Option (SSpan) := gOfA fan_exactly_enc (fun p => (fan_exactly_t p).get) (fan_exactly_encC n).1 (fan_exactly_encC n).2
theorem fan_exactly_eq (n : Int) : fan_exactly n = (fan_exactly_t n).get := congrFun (gOfA_eq fan_exactly_inj (fun p => (fan_exactly_t p).get)) n

/-! ### minecontrol/fan.between -/
def fan_between_encC (from_ : SPoint) (to_ : SPoint) (flow : Int) : List AV × List Blk := ([.agg [.int .i64 from_.Flow, .int .i64 from_.Pressure], .agg [.int .i64 to_.Flow, .int .i64 to_.Pressure], .int .i64 flow], [])
def fan_between_enc (p : SPoint × SPoint × Int) : List AV × List Blk := fan_between_encC p.1 p.2.1 p.2.2
theorem fan_between_inj (p q : SPoint × SPoint × Int) (h : fan_between_enc p = fan_between_enc q) : p = q :=
  (Prod.ext (SPoint.ext2 (show p.1.Flow = q.1.Flow from congrArg intA (congrArg (fun x : List AV × List Blk => argC x.1 0 0) h)) (show p.1.Pressure = q.1.Pressure from congrArg intA (congrArg (fun x : List AV × List Blk => argC x.1 0 1) h))) (Prod.ext (SPoint.ext2 (show p.2.1.Flow = q.2.1.Flow from congrArg intA (congrArg (fun x : List AV × List Blk => argC x.1 1 0) h)) (show p.2.1.Pressure = q.2.1.Pressure from congrArg intA (congrArg (fun x : List AV × List Blk => argC x.1 1 1) h))) (show p.2.2 = q.2.2 from congrArg intA (congrArg (fun x : List AV × List Blk => x.1.getD 2 .undef) h))))
noncomputable def fan_between_t (from_ : SPoint) (to_ : SPoint) (flow : Int) : DT (SSpan) :=
  .ite ((wr (to_.Flow - from_.Flow)) != 0) (
    .bind (fan_exactly (wr (from_.Pressure - (wr (Int.tdiv (wr ((wr (from_.Pressure - to_.Pressure)) * (wr (flow - from_.Flow)))) (wr (to_.Flow - from_.Flow))))))) fun z2038 =>
    .ite ((wr (to_.Flow - from_.Flow)) != 0) (
      .ite (decide ((Int.tmod (wr ((wr (from_.Pressure - to_.Pressure)) * (wr (flow - from_.Flow)))) (wr (to_.Flow - from_.Flow))) > (0 : Int))) (
        .leaf (SSpan.mk (wr (z2038.Low - (1 : Int))) z2038.High)) (
        .leaf z2038)) (
      .fail)) (
    .fail)
def fan_between_av (r : SSpan) : AV := .agg [.int .i64 r.Low, .int .i64 r.High]
def fan_between_outs (_ : List Blk) (_ : SSpan) : List Blk := []
noncomputable def c_fan_between : List AV → List Blk → Option Ans := told fan_between_enc (fun p => (fan_between_t p.1 p.2.1 p.2.2).get) fan_between_av fan_between_outs true (fun _ _ _ => ⟨rfl, fun b hb => by cases hb⟩)
noncomputable def fan_between_env : Env := { envS (fun f => match f with
  | 92 => c_fan_exactly
  | _ => fun _ _ => none) with mm := some 0 }
theorem fan_between_env_ok : ∀ f, Tells Try.prog f (fan_between_env.fs f) := by
  intro f
  by_cases h0 : f = 92
  · subst h0; exact fan_exactly_tells
  have : fan_between_env.fs f = fun _ _ => none := by
    unfold fan_between_env envS
    dsimp only
    split
    · exact absurd rfl h0
    · rfl
  rw [this]
  exact Tells.none_ f
theorem fan_between_run (p : SPoint × SPoint × Int) : arun fan_between_env Try.f93 (fan_between_enc p).1 (fan_between_enc p).2 = (fan_between_t p.1 p.2.1 p.2.2).run fun r => some (fan_between_av r, fan_between_outs (fan_between_enc p).2 r) := by kernel_rfl
attribute [local irreducible] arun in
theorem fan_between_tells : Tells Try.prog 93 c_fan_between :=
  told_tells (E := fan_between_env) (enc := fan_between_enc) (av := fan_between_av) (outs := fan_between_outs) (t := fun p : SPoint × SPoint × Int => fan_between_t p.1 p.2.1 p.2.2) (by kernel_rfl) fan_between_env_ok Try.func93 (fun c _ => loops_none (E := { fan_between_env with nt := Try.f93.ntmps }) (fun _ => rfl) c) fan_between_run
noncomputable def fan_between (from_ : SPoint) (to_ : SPoint) (flow : Int) : Option (SSpan) := gOfA fan_between_enc (fun p => (fan_between_t p.1 p.2.1 p.2.2).get) (fan_between_encC from_ to_ flow).1 (fan_between_encC from_ to_ flow).2
theorem fan_between_eq (from_ : SPoint) (to_ : SPoint) (flow : Int) : fan_between from_ to_ flow = (fan_between_t from_ to_ flow).get := congrFun (gOfA_eq fan_between_inj (fun p => (fan_between_t p.1 p.2.1 p.2.2).get)) (from_, to_, flow)

/-! ### minecontrol/fan.pressure -/
def fan_pressure_encC (curve : (Sq SPoint)) (flow : Int) : List AV × List Blk := ([.slc 2 curve.n (fun k2797 => (SPoint.enc (curve.f k2797))), .int .i64 flow], [])
def fan_pressure_enc (p : (Sq SPoint) × Int) : List AV × List Blk := fan_pressure_encC p.1 p.2
theorem fan_pressure_inj (p q : (Sq SPoint) × Int) (h : fan_pressure_enc p = fan_pressure_enc q) : p = q :=
  (Prod.ext (Sq.av_inj SPoint.inj (a := p.1) (b := q.1) (congrArg (fun x : List AV × List Blk => x.1.getD 0 .undef) h)) (show p.2 = q.2 from congrArg intA (congrArg (fun x : List AV × List Blk => x.1.getD 1 .undef) h)))
noncomputable def fan_pressure_t (curve : (Sq SPoint)) (flow : Int) : DT (SSpan) :=
  .bind (slices_IndexFunc_v2 curve flow) fun z2035 =>
  .ite (z2035 == (0 : Int)) (
    .ite (decide ((0 : Int) ≤ (0 : Int) ∧ (0 : Int) < ((curve.n : Nat) : Int))) (
      .bind (fan_exactly (curve.f 0).Pressure) fun z2036 =>
      .leaf z2036) (
      .fail)) (
    .ite (z2035 == (-1 : Int)) (
      .ite (decide ((0 : Int) ≤ (wr (((curve.n : Nat) : Int) - (1 : Int))) ∧ (wr (((curve.n : Nat) : Int) - (1 : Int))) < ((curve.n : Nat) : Int))) (
        .bind (fan_exactly (curve.f (Int.toNat (wr (((curve.n : Nat) : Int) - (1 : Int))))).Pressure) fun z2037 =>
        .leaf z2037) (
        .fail)) (
      .ite (decide ((0 : Int) ≤ (wr (z2035 - (1 : Int))) ∧ (wr (z2035 - (1 : Int))) < ((curve.n : Nat) : Int))) (
        .ite (decide ((0 : Int) ≤ z2035 ∧ z2035 < ((curve.n : Nat) : Int))) (
          .bind (fan_between (curve.f (Int.toNat (wr (z2035 - (1 : Int))))) (curve.f (Int.toNat z2035)) flow) fun z2039 =>
          .leaf z2039) (
          .fail)) (
        .fail)))
def fan_pressure_av (r : SSpan) : AV := .agg [.int .i64 r.Low, .int .i64 r.High]
def fan_pressure_outs (_ : List Blk) (_ : SSpan) : List Blk := []
noncomputable def c_fan_pressure : List AV → List Blk → Option Ans := told fan_pressure_enc (fun p => (fan_pressure_t p.1 p.2).get) fan_pressure_av fan_pressure_outs true (fun _ _ _ => ⟨rfl, fun b hb => by cases hb⟩)
noncomputable def fan_pressure_env : Env := { envS (fun f => match f with
  | 90 => c_slices_IndexFunc_v2
  | 92 => c_fan_exactly
  | 93 => c_fan_between
  | _ => fun _ _ => none) with mm := some 0 }
theorem fan_pressure_env_ok : ∀ f, Tells Try.prog f (fan_pressure_env.fs f) := by
  intro f
  by_cases h0 : f = 90
  · subst h0; exact slices_IndexFunc_v2_tells
  by_cases h1 : f = 92
  · subst h1; exact fan_exactly_tells
  by_cases h2 : f = 93
  · subst h2; exact fan_between_tells
  have : fan_pressure_env.fs f = fun _ _ => none := by
    unfold fan_pressure_env envS
    dsimp only
    split
    · exact absurd rfl h0
    · exact absurd rfl h1
    · exact absurd rfl h2
    · rfl
  rw [this]
  exact Tells.none_ f
theorem fan_pressure_run (p : (Sq SPoint) × Int) : arun fan_pressure_env Try.f86 (fan_pressure_enc p).1 (fan_pressure_enc p).2 = (fan_pressure_t p.1 p.2).run fun r => some (fan_pressure_av r, fan_pressure_outs (fan_pressure_enc p).2 r) := by kernel_rfl
attribute [local irreducible] arun in
theorem fan_pressure_tells : Tells Try.prog 86 c_fan_pressure :=
  told_tells (E := fan_pressure_env) (enc := fan_pressure_enc) (av := fan_pressure_av) (outs := fan_pressure_outs) (t := fun p : (Sq SPoint) × Int => fan_pressure_t p.1 p.2) (by kernel_rfl) fan_pressure_env_ok Try.func86 (fun c _ => loops_none (E := { fan_pressure_env with nt := Try.f86.ntmps }) (fun _ => rfl) c) fan_pressure_run
noncomputable def fan_pressure (curve : (Sq SPoint)) (flow : Int) : Option (SSpan) := gOfA fan_pressure_enc (fun p => (fan_pressure_t p.1 p.2).get) (fan_pressure_encC curve flow).1 (fan_pressure_encC curve flow).2
theorem fan_pressure_eq (curve : (Sq SPoint)) (flow : Int) : fan_pressure curve flow = (fan_pressure_t curve flow).get := congrFun (gOfA_eq fan_pressure_inj (fun p => (fan_pressure_t p.1 p.2).get)) (curve, flow)

/-! ### minecontrol/fan.blowing -/
def fan_blowing_encC (curve : (Sq SPoint)) (back : Bool) (flow : Int) : List AV × List Blk := ([.slc 2 curve.n (fun k2798 => (SPoint.enc (curve.f k2798))), .bool back, .int .i64 flow], [])
def fan_blowing_enc (p : (Sq SPoint) × Bool × Int) : List AV × List Blk := fan_blowing_encC p.1 p.2.1 p.2.2
theorem fan_blowing_inj (p q : (Sq SPoint) × Bool × Int) (h : fan_blowing_enc p = fan_blowing_enc q) : p = q :=
  (Prod.ext (Sq.av_inj SPoint.inj (a := p.1) (b := q.1) (congrArg (fun x : List AV × List Blk => x.1.getD 0 .undef) h)) (Prod.ext (show p.2.1 = q.2.1 from congrArg boolA (congrArg (fun x : List AV × List Blk => x.1.getD 1 .undef) h)) (show p.2.2 = q.2.2 from congrArg intA (congrArg (fun x : List AV × List Blk => x.1.getD 2 .undef) h))))
noncomputable def fan_blowing_t (curve : (Sq SPoint)) (back : Bool) (flow : Int) : DT (SSpan) :=
  .ite (!back) (
    .bind (fan_pressure curve flow) fun z2040 =>
    .leaf z2040) (
    .bind (fan_pressure curve (wr (0 - flow))) fun z2041 =>
    .leaf (SSpan.mk (wr (0 - z2041.High)) (wr (0 - z2041.Low))))
def fan_blowing_av (r : SSpan) : AV := .agg [.int .i64 r.Low, .int .i64 r.High]
def fan_blowing_outs (_ : List Blk) (_ : SSpan) : List Blk := []
noncomputable def c_fan_blowing : List AV → List Blk → Option Ans := told fan_blowing_enc (fun p => (fan_blowing_t p.1 p.2.1 p.2.2).get) fan_blowing_av fan_blowing_outs true (fun _ _ _ => ⟨rfl, fun b hb => by cases hb⟩)
noncomputable def fan_blowing_env : Env := { envS (fun f => match f with
  | 86 => c_fan_pressure
  | _ => fun _ _ => none) with mm := some 0 }
theorem fan_blowing_env_ok : ∀ f, Tells Try.prog f (fan_blowing_env.fs f) := by
  intro f
  by_cases h0 : f = 86
  · subst h0; exact fan_pressure_tells
  have : fan_blowing_env.fs f = fun _ _ => none := by
    unfold fan_blowing_env envS
    dsimp only
    split
    · exact absurd rfl h0
    · rfl
  rw [this]
  exact Tells.none_ f
theorem fan_blowing_run (p : (Sq SPoint) × Bool × Int) : arun fan_blowing_env Try.f77 (fan_blowing_enc p).1 (fan_blowing_enc p).2 = (fan_blowing_t p.1 p.2.1 p.2.2).run fun r => some (fan_blowing_av r, fan_blowing_outs (fan_blowing_enc p).2 r) := by kernel_rfl
attribute [local irreducible] arun in
theorem fan_blowing_tells : Tells Try.prog 77 c_fan_blowing :=
  told_tells (E := fan_blowing_env) (enc := fan_blowing_enc) (av := fan_blowing_av) (outs := fan_blowing_outs) (t := fun p : (Sq SPoint) × Bool × Int => fan_blowing_t p.1 p.2.1 p.2.2) (by kernel_rfl) fan_blowing_env_ok Try.func77 (fun c _ => loops_none (E := { fan_blowing_env with nt := Try.f77.ntmps }) (fun _ => rfl) c) fan_blowing_run
noncomputable def fan_blowing (curve : (Sq SPoint)) (back : Bool) (flow : Int) : Option (SSpan) := gOfA fan_blowing_enc (fun p => (fan_blowing_t p.1 p.2.1 p.2.2).get) (fan_blowing_encC curve back flow).1 (fan_blowing_encC curve back flow).2
theorem fan_blowing_eq (curve : (Sq SPoint)) (back : Bool) (flow : Int) : fan_blowing curve back flow = (fan_blowing_t curve back flow).get := congrFun (gOfA_eq fan_blowing_inj (fun p => (fan_blowing_t p.1 p.2.1 p.2.2).get)) (curve, back, flow)

/-! ### minecontrol/fan.At -/
def fan_At_encC (f : SFan) (state : Int) (flow : Int) : List AV × List Blk := ([.agg [.int .i64 f.Road, .bool f.Back, .bool f.Auxiliary, .slc 2 f.Curve.n (fun k2799 => (SPoint.enc (f.Curve.f k2799)))], .int .i64 state, .int .i64 flow], [])
def fan_At_enc (p : SFan × Int × Int) : List AV × List Blk := fan_At_encC p.1 p.2.1 p.2.2
theorem fan_At_inj (p q : SFan × Int × Int) (h : fan_At_enc p = fan_At_enc q) : p = q :=
  (Prod.ext (SFan.ext2 (show p.1.Road = q.1.Road from congrArg intA (congrArg (fun x : List AV × List Blk => argC x.1 0 0) h)) (show p.1.Back = q.1.Back from congrArg boolA (congrArg (fun x : List AV × List Blk => argC x.1 0 1) h)) (show p.1.Auxiliary = q.1.Auxiliary from congrArg boolA (congrArg (fun x : List AV × List Blk => argC x.1 0 2) h)) (Sq.av_inj SPoint.inj (a := p.1.Curve) (b := q.1.Curve) (congrArg (fun x : List AV × List Blk => argC x.1 0 3) h))) (Prod.ext (show p.2.1 = q.2.1 from congrArg intA (congrArg (fun x : List AV × List Blk => x.1.getD 1 .undef) h)) (show p.2.2 = q.2.2 from congrArg intA (congrArg (fun x : List AV × List Blk => x.1.getD 2 .undef) h))))
noncomputable def fan_At_t (f : SFan) (state : Int) (flow : Int) : DT (SSpan) :=
  .bind (fan_Check f) fun z2028 =>
  .ite (z2028 != (0 : Int)) (
    .leaf (SSpan.mk (0 : Int) (0 : Int))) (
    .bind (fan_within flow (-1048577 : Int) (1048577 : Int)) fun z2029 =>
    .ite (!z2029) (
      .leaf (SSpan.mk (0 : Int) (0 : Int))) (
      .ite (state == (1 : Int)) (
        .bind (fan_blowing f.Curve f.Back flow) fun z2042 =>
        .leaf z2042) (
        .ite (state == (2 : Int)) (
          .bind (fan_blowing f.Curve (!f.Back) flow) fun z2043 =>
          .leaf z2043) (
          .ite (state == (-1 : Int)) (
            .bind (fan_blowing f.Curve f.Back flow) fun z2044 =>
            .bind (fan_blowing f.Curve (!f.Back) flow) fun z2045 =>
            .leaf (SSpan.mk (if z2045.Low < (if z2044.Low < (0 : Int) then z2044.Low else (0 : Int)) then z2045.Low else (if z2044.Low < (0 : Int) then z2044.Low else (0 : Int))) (if (if (0 : Int) < z2044.High then z2044.High else (0 : Int)) < z2045.High then z2045.High else (if (0 : Int) < z2044.High then z2044.High else (0 : Int))))) (
            .leaf (SSpan.mk (0 : Int) (0 : Int)))))))
def fan_At_av (r : SSpan) : AV := .agg [.int .i64 r.Low, .int .i64 r.High]
def fan_At_outs (_ : List Blk) (_ : SSpan) : List Blk := []
noncomputable def c_fan_At : List AV → List Blk → Option Ans := told fan_At_enc (fun p => (fan_At_t p.1 p.2.1 p.2.2).get) fan_At_av fan_At_outs true (fun _ _ _ => ⟨rfl, fun b hb => by cases hb⟩)
noncomputable def fan_At_env : Env := { envS (fun f => match f with
  | 60 => c_fan_Check
  | 72 => c_fan_within
  | 77 => c_fan_blowing
  | _ => fun _ _ => none) with mm := some 0 }
theorem fan_At_env_ok : ∀ f, Tells Try.prog f (fan_At_env.fs f) := by
  intro f
  by_cases h0 : f = 60
  · subst h0; exact fan_Check_tells
  by_cases h1 : f = 72
  · subst h1; exact fan_within_tells
  by_cases h2 : f = 77
  · subst h2; exact fan_blowing_tells
  have : fan_At_env.fs f = fun _ _ => none := by
    unfold fan_At_env envS
    dsimp only
    split
    · exact absurd rfl h0
    · exact absurd rfl h1
    · exact absurd rfl h2
    · rfl
  rw [this]
  exact Tells.none_ f
theorem fan_At_run (p : SFan × Int × Int) : arun fan_At_env Try.f67 (fan_At_enc p).1 (fan_At_enc p).2 = (fan_At_t p.1 p.2.1 p.2.2).run fun r => some (fan_At_av r, fan_At_outs (fan_At_enc p).2 r) := by kernel_rfl
attribute [local irreducible] arun in
theorem fan_At_tells : Tells Try.prog 67 c_fan_At :=
  told_tells (E := fan_At_env) (enc := fan_At_enc) (av := fan_At_av) (outs := fan_At_outs) (t := fun p : SFan × Int × Int => fan_At_t p.1 p.2.1 p.2.2) (by kernel_rfl) fan_At_env_ok Try.func67 (fun c _ => loops_none (E := { fan_At_env with nt := Try.f67.ntmps }) (fun _ => rfl) c) fan_At_run
noncomputable def fan_At (f : SFan) (state : Int) (flow : Int) : Option (SSpan) := gOfA fan_At_enc (fun p => (fan_At_t p.1 p.2.1 p.2.2).get) (fan_At_encC f state flow).1 (fan_At_encC f state flow).2
theorem fan_At_eq (f : SFan) (state : Int) (flow : Int) : fan_At f state flow = (fan_At_t f state flow).get := congrFun (gOfA_eq fan_At_inj (fun p => (fan_At_t p.1 p.2.1 p.2.2).get)) (f, state, flow)

/-! ### (*minecontrol/branch.airway).drop -/
def branch_airway_drop_encC (w : Sairway) (flow : Int) : List AV × List Blk := ([.ptr 0 0, .int .i64 flow], [.var [.int .i64 w.Road.From, .int .i64 w.Road.To, .int .i64 w.Road.Length, .int .i64 w.Road.Area, .bool w.Road.Walk, .bool w.Road.Closed, .int .i64 w.Road.Rest.Low, .int .i64 w.Road.Rest.High, .int .i64 w.Road.Lift.Low, .int .i64 w.Road.Lift.High, .own 1 0], .row 0 5 w.blowers_.n 106 (fun k2800 => (Sblower.enc (w.blowers_.f k2800)))])
def branch_airway_drop_enc (p : Sairway × Int) : List AV × List Blk := branch_airway_drop_encC p.1 p.2
theorem branch_airway_drop_inj (p q : Sairway × Int) (h : branch_airway_drop_enc p = branch_airway_drop_enc q) : p = q :=
  (Prod.ext (Sairway.ext2 (SRoad.ext2 (show p.1.Road.From = q.1.Road.From from congrArg intA (congrArg (fun x : List AV × List Blk => cellB x.2 0 0) h)) (show p.1.Road.To = q.1.Road.To from congrArg intA (congrArg (fun x : List AV × List Blk => cellB x.2 0 1) h)) (show p.1.Road.Length = q.1.Road.Length from congrArg intA (congrArg (fun x : List AV × List Blk => cellB x.2 0 2) h)) (show p.1.Road.Area = q.1.Road.Area from congrArg intA (congrArg (fun x : List AV × List Blk => cellB x.2 0 3) h)) (show p.1.Road.Walk = q.1.Road.Walk from congrArg boolA (congrArg (fun x : List AV × List Blk => cellB x.2 0 4) h)) (show p.1.Road.Closed = q.1.Road.Closed from congrArg boolA (congrArg (fun x : List AV × List Blk => cellB x.2 0 5) h)) (SSpan.ext2 (show p.1.Road.Rest.Low = q.1.Road.Rest.Low from congrArg intA (congrArg (fun x : List AV × List Blk => cellB x.2 0 6) h)) (show p.1.Road.Rest.High = q.1.Road.Rest.High from congrArg intA (congrArg (fun x : List AV × List Blk => cellB x.2 0 7) h))) (SSpan.ext2 (show p.1.Road.Lift.Low = q.1.Road.Lift.Low from congrArg intA (congrArg (fun x : List AV × List Blk => cellB x.2 0 8) h)) (show p.1.Road.Lift.High = q.1.Road.Lift.High from congrArg intA (congrArg (fun x : List AV × List Blk => cellB x.2 0 9) h)))) (Sq.row_inj Sblower.inj (a := p.1.blowers_) (b := q.1.blowers_) (congrArg (fun x : List AV × List Blk => x.2.getD 1 (.dead 0)) h))) (show p.2 = q.2 from congrArg intA (congrArg (fun x : List AV × List Blk => x.1.getD 1 .undef) h)))
def branch_airway_drop_l4_s (p : (Int × Int × Int × Int × Int × Bool × Bool × Int × Int × Int × Int × (Sq Sblower)) × (Int × Int × Int)) : St := ⟨[(1, .int .i64 p.1.1), (4, .ptr 2 0), (6, .ptr 1346 0), (31, .own 1 0), (32, .int .i64 ((p.1.2.2.2.2.2.2.2.2.2.2.2.n : Nat) : Int)), (33, .int .i64 p.2.2.2)], [(0, .var [.int .i64 p.1.2.1, .int .i64 p.1.2.2.1, .int .i64 p.1.2.2.2.1, .int .i64 p.1.2.2.2.2.1, .bool p.1.2.2.2.2.2.1, .bool p.1.2.2.2.2.2.2.1, .int .i64 p.1.2.2.2.2.2.2.2.1, .int .i64 p.1.2.2.2.2.2.2.2.2.1, .int .i64 p.1.2.2.2.2.2.2.2.2.2.1, .int .i64 p.1.2.2.2.2.2.2.2.2.2.2.1, .own 1 0]), (1, .row 0 5 p.1.2.2.2.2.2.2.2.2.2.2.2.n 106 (fun k2801 => (Sblower.enc (p.1.2.2.2.2.2.2.2.2.2.2.2.f k2801)))), (2, .var [.int .i64 (0 : Int), .int .i64 (0 : Int)]), (1346, .var [.int .i64 p.2.1, .int .i64 p.2.2.1])], 1858⟩
theorem branch_airway_drop_l4_inj (p q : (Int × Int × Int × Int × Int × Bool × Bool × Int × Int × Int × Int × (Sq Sblower)) × (Int × Int × Int)) (h : branch_airway_drop_l4_s p = branch_airway_drop_l4_s q) : p = q :=
  Prod.ext (Prod.ext (show p.1.1 = q.1.1 from congrArg intA (congrArg (fun x : St => aget x.tm 1) h)) (Prod.ext (show p.1.2.1 = q.1.2.1 from congrArg intA (congrArg (fun x : St => cellS x 0 0) h)) (Prod.ext (show p.1.2.2.1 = q.1.2.2.1 from congrArg intA (congrArg (fun x : St => cellS x 0 1) h)) (Prod.ext (show p.1.2.2.2.1 = q.1.2.2.2.1 from congrArg intA (congrArg (fun x : St => cellS x 0 2) h)) (Prod.ext (show p.1.2.2.2.2.1 = q.1.2.2.2.2.1 from congrArg intA (congrArg (fun x : St => cellS x 0 3) h)) (Prod.ext (show p.1.2.2.2.2.2.1 = q.1.2.2.2.2.2.1 from congrArg boolA (congrArg (fun x : St => cellS x 0 4) h)) (Prod.ext (show p.1.2.2.2.2.2.2.1 = q.1.2.2.2.2.2.2.1 from congrArg boolA (congrArg (fun x : St => cellS x 0 5) h)) (Prod.ext (show p.1.2.2.2.2.2.2.2.1 = q.1.2.2.2.2.2.2.2.1 from congrArg intA (congrArg (fun x : St => cellS x 0 6) h)) (Prod.ext (show p.1.2.2.2.2.2.2.2.2.1 = q.1.2.2.2.2.2.2.2.2.1 from congrArg intA (congrArg (fun x : St => cellS x 0 7) h)) (Prod.ext (show p.1.2.2.2.2.2.2.2.2.2.1 = q.1.2.2.2.2.2.2.2.2.2.1 from congrArg intA (congrArg (fun x : St => cellS x 0 8) h)) (Prod.ext (show p.1.2.2.2.2.2.2.2.2.2.2.1 = q.1.2.2.2.2.2.2.2.2.2.2.1 from congrArg intA (congrArg (fun x : St => cellS x 0 9) h)) (Sq.row_inj Sblower.inj (a := p.1.2.2.2.2.2.2.2.2.2.2.2) (b := q.1.2.2.2.2.2.2.2.2.2.2.2) (congrArg (fun x : St => blkS x 1) h))))))))))))) (Prod.ext (show p.2.1 = q.2.1 from congrArg intA (congrArg (fun x : St => cellS x 1346 0) h)) (Prod.ext (show p.2.2.1 = q.2.2.1 from congrArg intA (congrArg (fun x : St => cellS x 1346 1) h)) (show p.2.2.2 = q.2.2.2 from congrArg intA (congrArg (fun x : St => aget x.tm 33) h))))
noncomputable def branch_airway_drop_l4_step (flow_4_0 : Int) (_v4_2 : Int) (_v4_3 : Int) (_v4_4 : Int) (_v4_5 : Int) (_v4_6 : Bool) (_v4_7 : Bool) (_v4_8 : Int) (_v4_9 : Int) (_v4_10 : Int) (_v4_11 : Int) (v4_12 : (Sq Sblower)) (v4_13 : Int) (v4_14 : Int) (v4_15 : Int) : DT (LR (Int × Int × Int) (Int × Int) (Unit)) :=
  .ite (decide (v4_15 < ((v4_12.n : Nat) : Int))) (
    .ite (decide ((0 : Int) ≤ v4_15 ∧ v4_15 < ((v4_12.n : Nat) : Int))) (
      .bind (fan_At (v4_12.f (Int.toNat v4_15)).Fan (v4_12.f (Int.toNat v4_15)).state_ flow_4_0) fun z2062 =>
      .bind (branch_less (SSpan.mk v4_13 v4_14) z2062) fun z2063 =>
      .leaf (.next (z2063.Low, z2063.High, (wr (v4_15 + (1 : Int)))))) (
      .fail)) (
    .leaf (.l (v4_13, v4_14)))
def branch_airway_drop_l4_el (x : St) (a : Int × Int) : St := ⟨[(4, .ptr 2 0), (6, .ptr 1346 0)], [(0, blkS x 0), (1, blkS x 1), (2, .var [.int .i64 (0 : Int), .int .i64 (0 : Int)]), (1346, .var [.int .i64 a.1, .int .i64 a.2])], 1858⟩
def branch_airway_drop_l4_er (_ : St) (_ : Unit) : St := ⟨[], [], 0⟩
noncomputable def branch_airway_drop_l4_f (p : (Int × Int × Int × Int × Int × Bool × Bool × Int × Int × Int × Int × (Sq Sblower)) × (Int × Int × Int)) : Option ((Int × Int) ⊕ (Unit)) := fixO (fun v : Int × Int × Int => branch_airway_drop_l4_step p.1.1 p.1.2.1 p.1.2.2.1 p.1.2.2.2.1 p.1.2.2.2.2.1 p.1.2.2.2.2.2.1 p.1.2.2.2.2.2.2.1 p.1.2.2.2.2.2.2.2.1 p.1.2.2.2.2.2.2.2.2.1 p.1.2.2.2.2.2.2.2.2.2.1 p.1.2.2.2.2.2.2.2.2.2.2.1 p.1.2.2.2.2.2.2.2.2.2.2.2 v.1 v.2.1 v.2.2) p.2
noncomputable def branch_airway_drop_l4_c : St → Option LRes := loopM branch_airway_drop_l4_s branch_airway_drop_l4_f true (.exit 0) branch_airway_drop_l4_el .ret branch_airway_drop_l4_er
noncomputable def branch_airway_drop_l4 (flow_4_0 : Int) (v4_2 : Int) (v4_3 : Int) (v4_4 : Int) (v4_5 : Int) (v4_6 : Bool) (v4_7 : Bool) (v4_8 : Int) (v4_9 : Int) (v4_10 : Int) (v4_11 : Int) (v4_12 : (Sq Sblower)) (v4_13 : Int) (v4_14 : Int) (v4_15 : Int) : Option ((Int × Int) ⊕ (Unit)) := gOfS branch_airway_drop_l4_s branch_airway_drop_l4_f (branch_airway_drop_l4_s ((flow_4_0, v4_2, v4_3, v4_4, v4_5, v4_6, v4_7, v4_8, v4_9, v4_10, v4_11, v4_12), (v4_13, v4_14, v4_15)))
theorem branch_airway_drop_l4_eq (flow_4_0 : Int) (v4_2 : Int) (v4_3 : Int) (v4_4 : Int) (v4_5 : Int) (v4_6 : Bool) (v4_7 : Bool) (v4_8 : Int) (v4_9 : Int) (v4_10 : Int) (v4_11 : Int) (v4_12 : (Sq Sblower)) (v4_13 : Int) (v4_14 : Int) (v4_15 : Int) : branch_airway_drop_l4 flow_4_0 v4_2 v4_3 v4_4 v4_5 v4_6 v4_7 v4_8 v4_9 v4_10 v4_11 v4_12 v4_13 v4_14 v4_15 = fixO (fun v : Int × Int × Int => branch_airway_drop_l4_step flow_4_0 v4_2 v4_3 v4_4 v4_5 v4_6 v4_7 v4_8 v4_9 v4_10 v4_11 v4_12 v.1 v.2.1 v.2.2) (v4_13, v4_14, v4_15) := gOfS_eq branch_airway_drop_l4_inj branch_airway_drop_l4_f ((flow_4_0, v4_2, v4_3, v4_4, v4_5, v4_6, v4_7, v4_8, v4_9, v4_10, v4_11, v4_12), (v4_13, v4_14, v4_15))
noncomputable def branch_airway_drop_t (w : Sairway) (flow : Int) : DT (SSpan) :=
  .bind (branch_times w.Road.Rest (wr (flow * (if flow < (wr (0 - flow)) then (wr (0 - flow)) else flow)))) fun z2060 =>
  .bind (branch_less z2060 w.Road.Lift) fun z2061 =>
  .sum (branch_airway_drop_l4 flow w.Road.From w.Road.To w.Road.Length w.Road.Area w.Road.Walk w.Road.Closed w.Road.Rest.Low w.Road.Rest.High w.Road.Lift.Low w.Road.Lift.High w.blowers_ z2061.Low z2061.High (0 : Int)) (fun y2064 =>
    .leaf (SSpan.mk y2064.1 y2064.2)) (fun _ =>
    .fail)
def branch_airway_drop_av (r : SSpan) : AV := .agg [.int .i64 r.Low, .int .i64 r.High]
def branch_airway_drop_outs (ins : List Blk) (_ : SSpan) : List Blk := [ins.getD 0 (.dead 0), ins.getD 1 (.dead 0)]
noncomputable def c_branch_airway_drop : List AV → List Blk → Option Ans := told branch_airway_drop_enc (fun p => (branch_airway_drop_t p.1 p.2).get) branch_airway_drop_av branch_airway_drop_outs false (fun h => by cases h)
noncomputable def branch_airway_drop_env : Env := { envS (fun f => match f with
  | 66 => c_branch_times
  | 65 => c_branch_less
  | 67 => c_fan_At
  | _ => fun _ _ => none) (fun r => match r with | 4 => some ([1, 4, 6, 31, 32, 33], [4, 6]) | _ => none) with loops := fun r => match r with | 4 => some branch_airway_drop_l4_c | _ => none, gc := fun r => match r with | 4 => some [0, 1, 2, 1346] | _ => none, mm := some 2 }
theorem branch_airway_drop_env_ok : ∀ f, Tells Try.prog f (branch_airway_drop_env.fs f) := by
  intro f
  by_cases h0 : f = 66
  · subst h0; exact branch_times_tells
  by_cases h1 : f = 65
  · subst h1; exact branch_less_tells
  by_cases h2 : f = 67
  · subst h2; exact fan_At_tells
  have : branch_airway_drop_env.fs f = fun _ _ => none := by
    unfold branch_airway_drop_env envS
    dsimp only
    split
    · exact absurd rfl h0
    · exact absurd rfl h1
    · exact absurd rfl h2
    · rfl
  rw [this]
  exact Tells.none_ f
noncomputable def branch_airway_drop_e : Env := { branch_airway_drop_env with nt := 47 }
noncomputable def branch_airway_drop_l4_b : Code := loopOf 4 Try.f44
theorem branch_airway_drop_l4_round {R : Type} (fx : Int × Int × Int × Int × Int × Bool × Bool × Int × Int × Int × Int × (Sq Sblower)) (v : Int × Int × Int) (N : Nat) (K : AX → St → Option R) : aloop (fun s j => aexec branch_airway_drop_e branch_airway_drop_l4_b s j) (headOf branch_airway_drop_e branch_airway_drop_l4_b 1858) (exitOf branch_airway_drop_e branch_airway_drop_l4_b 1858) (N + 1) (branch_airway_drop_l4_s (fx, v)) K = (branch_airway_drop_l4_step fx.1 fx.2.1 fx.2.2.1 fx.2.2.2.1 fx.2.2.2.2.1 fx.2.2.2.2.2.1 fx.2.2.2.2.2.2.1 fx.2.2.2.2.2.2.2.1 fx.2.2.2.2.2.2.2.2.1 fx.2.2.2.2.2.2.2.2.2.1 fx.2.2.2.2.2.2.2.2.2.2.1 fx.2.2.2.2.2.2.2.2.2.2.2 v.1 v.2.1 v.2.2).run (LR.elim
    (fun v' => aloop (fun s j => aexec branch_airway_drop_e branch_airway_drop_l4_b s j) (headOf branch_airway_drop_e branch_airway_drop_l4_b 1858) (exitOf branch_airway_drop_e branch_airway_drop_l4_b 1858) N (branch_airway_drop_l4_s (fx, v')) K)
    (fun a => K (.exit 0) (branch_airway_drop_l4_el (branch_airway_drop_l4_s (fx, v)) a))
    (fun a => K .ret (branch_airway_drop_l4_er (branch_airway_drop_l4_s (fx, v)) a))) := by kernel_rfl
theorem branch_airway_drop_l4_tells : LoopTells branch_airway_drop_e branch_airway_drop_l4_b branch_airway_drop_l4_c :=
  loopM_tells (s := branch_airway_drop_l4_s) (stl := branch_airway_drop_l4_el) (str := branch_airway_drop_l4_er) (step := fun (fx : Int × Int × Int × Int × Int × Bool × Bool × Int × Int × Int × Int × (Sq Sblower)) (v : Int × Int × Int) => branch_airway_drop_l4_step fx.1 fx.2.1 fx.2.2.1 fx.2.2.2.1 fx.2.2.2.2.1 fx.2.2.2.2.2.1 fx.2.2.2.2.2.2.1 fx.2.2.2.2.2.2.2.1 fx.2.2.2.2.2.2.2.2.1 fx.2.2.2.2.2.2.2.2.2.1 fx.2.2.2.2.2.2.2.2.2.2.1 fx.2.2.2.2.2.2.2.2.2.2.2 v.1 v.2.1 v.2.2) (n := 1858) (fun _ => rfl) (fun _ _ _ _ => rfl) (fun _ _ _ _ => rfl) branch_airway_drop_l4_round
theorem branch_airway_drop_run (p : Sairway × Int) : arun branch_airway_drop_env Try.f44 (branch_airway_drop_enc p).1 (branch_airway_drop_enc p).2 = (branch_airway_drop_t p.1 p.2).run fun r => some (branch_airway_drop_av r, branch_airway_drop_outs (branch_airway_drop_enc p).2 r) := by kernel_rfl
theorem branch_airway_drop_loops : ∀ c, Try.f44.body = some c → LoopsOK { branch_airway_drop_env with nt := Try.f44.ntmps } c := by
  intro c hc
  refine loops_of c fun c' hc' f hf => ?_
  have hb : loopsOf c = [branch_airway_drop_l4_b] := by
    have : Try.f44.body.map loopsOf = some [branch_airway_drop_l4_b] := by kernel_rfl
    rw [hc] at this
    injection this
  rw [hb] at hc'
  clear hb
  obtain rfl := List.mem_singleton.1 hc'
  have h6 : firstReg branch_airway_drop_l4_b = 4 := by kernel_rfl
  rw [h6] at hf
  obtain rfl := Option.some.inj hf
  exact branch_airway_drop_l4_tells
attribute [local irreducible] arun in
theorem branch_airway_drop_tells : Tells Try.prog 44 c_branch_airway_drop :=
  told_tells (E := branch_airway_drop_env) (enc := branch_airway_drop_enc) (av := branch_airway_drop_av) (outs := branch_airway_drop_outs) (t := fun p : Sairway × Int => branch_airway_drop_t p.1 p.2) (by kernel_rfl) branch_airway_drop_env_ok Try.func44 branch_airway_drop_loops branch_airway_drop_run
noncomputable def branch_airway_drop (w : Sairway) (flow : Int) : Option (SSpan) := gOfA branch_airway_drop_enc (fun p => (branch_airway_drop_t p.1 p.2).get) (branch_airway_drop_encC w flow).1 (branch_airway_drop_encC w flow).2
theorem branch_airway_drop_eq (w : Sairway) (flow : Int) : branch_airway_drop w flow = (branch_airway_drop_t w flow).get := congrFun (gOfA_eq branch_airway_drop_inj (fun p => (branch_airway_drop_t p.1 p.2).get)) (w, flow)

/-! ### minecontrol/branch.Drop -/
def branch_Drop_encC (a : SAir) (s : SSetting) (road : Int) (flow : Int) : List AV × List Blk := ([.agg [.slc 2 a.Mine.Places.n (fun k2802 => (SPlace.enc (a.Mine.Places.f k2802))), .slc 10 a.Mine.Roads.n (fun k2803 => (SRoad.enc (a.Mine.Roads.f k2803))), .slc 4 a.Fans.n (fun k2804 => (SFan.enc (a.Fans.f k2804))), .slc 3 a.Doors.n (fun k2805 => (SDoor.enc (a.Doors.f k2805)))], .agg [.slc 1 s.Fans.n (fun k2806 => [.int .i64 (s.Fans.f k2806)]), .slc 1 s.Doors.n (fun k2807 => [.int .i64 (s.Doors.f k2807)])], .int .i64 road, .int .i64 flow], [])
def branch_Drop_enc (p : SAir × SSetting × Int × Int) : List AV × List Blk := branch_Drop_encC p.1 p.2.1 p.2.2.1 p.2.2.2
theorem branch_Drop_inj (p q : SAir × SSetting × Int × Int) (h : branch_Drop_enc p = branch_Drop_enc q) : p = q :=
  (Prod.ext (SAir.ext2 (SMine.ext2 (Sq.av_inj SPlace.inj (a := p.1.Mine.Places) (b := q.1.Mine.Places) (congrArg (fun x : List AV × List Blk => argC x.1 0 0) h)) (Sq.av_inj SRoad.inj (a := p.1.Mine.Roads) (b := q.1.Mine.Roads) (congrArg (fun x : List AV × List Blk => argC x.1 0 1) h))) (Sq.av_inj SFan.inj (a := p.1.Fans) (b := q.1.Fans) (congrArg (fun x : List AV × List Blk => argC x.1 0 2) h)) (Sq.av_inj SDoor.inj (a := p.1.Doors) (b := q.1.Doors) (congrArg (fun x : List AV × List Blk => argC x.1 0 3) h))) (Prod.ext (SSetting.ext2 (Sq.av_inj intE_i64 (a := p.2.1.Fans) (b := q.2.1.Fans) (congrArg (fun x : List AV × List Blk => argC x.1 1 0) h)) (Sq.av_inj intE_i64 (a := p.2.1.Doors) (b := q.2.1.Doors) (congrArg (fun x : List AV × List Blk => argC x.1 1 1) h))) (Prod.ext (show p.2.2.1 = q.2.2.1 from congrArg intA (congrArg (fun x : List AV × List Blk => x.1.getD 2 .undef) h)) (show p.2.2.2 = q.2.2.2 from congrArg intA (congrArg (fun x : List AV × List Blk => x.1.getD 3 .undef) h)))))
noncomputable def branch_Drop_t (a : SAir) (s : SSetting) (road : Int) (flow : Int) : DT (SSpan) :=
  .bind (branch_open a s road) fun z2024 =>
  .ite (!z2024.2) (
    .leaf (SSpan.mk (0 : Int) (0 : Int))) (
    .bind (branch_within flow (-1048577 : Int) (1048577 : Int)) fun z2025 =>
    .ite (!z2025) (
      .leaf (SSpan.mk (0 : Int) (0 : Int))) (
      .bind (branch_airway_drop z2024.1 flow) fun z2065 =>
      .leaf z2065))
def branch_Drop_av (r : SSpan) : AV := .agg [.int .i64 r.Low, .int .i64 r.High]
def branch_Drop_outs (_ : List Blk) (_ : SSpan) : List Blk := []
noncomputable def c_branch_Drop : List AV → List Blk → Option Ans := told branch_Drop_enc (fun p => (branch_Drop_t p.1 p.2.1 p.2.2.1 p.2.2.2).get) branch_Drop_av branch_Drop_outs true (fun _ _ _ => ⟨rfl, fun b hb => by cases hb⟩)
noncomputable def branch_Drop_env : Env := { envS (fun f => match f with
  | 42 => c_branch_open
  | 43 => c_branch_within
  | 44 => c_branch_airway_drop
  | _ => fun _ _ => none) with mm := some 0 }
theorem branch_Drop_env_ok : ∀ f, Tells Try.prog f (branch_Drop_env.fs f) := by
  intro f
  by_cases h0 : f = 42
  · subst h0; exact branch_open_tells
  by_cases h1 : f = 43
  · subst h1; exact branch_within_tells
  by_cases h2 : f = 44
  · subst h2; exact branch_airway_drop_tells
  have : branch_Drop_env.fs f = fun _ _ => none := by
    unfold branch_Drop_env envS
    dsimp only
    split
    · exact absurd rfl h0
    · exact absurd rfl h1
    · exact absurd rfl h2
    · rfl
  rw [this]
  exact Tells.none_ f
theorem branch_Drop_run (p : SAir × SSetting × Int × Int) : arun branch_Drop_env Try.f23 (branch_Drop_enc p).1 (branch_Drop_enc p).2 = (branch_Drop_t p.1 p.2.1 p.2.2.1 p.2.2.2).run fun r => some (branch_Drop_av r, branch_Drop_outs (branch_Drop_enc p).2 r) := by kernel_rfl
attribute [local irreducible] arun in
theorem branch_Drop_tells : Tells Try.prog 23 c_branch_Drop :=
  told_tells (E := branch_Drop_env) (enc := branch_Drop_enc) (av := branch_Drop_av) (outs := branch_Drop_outs) (t := fun p : SAir × SSetting × Int × Int => branch_Drop_t p.1 p.2.1 p.2.2.1 p.2.2.2) (by kernel_rfl) branch_Drop_env_ok Try.func23 (fun c _ => loops_none (E := { branch_Drop_env with nt := Try.f23.ntmps }) (fun _ => rfl) c) branch_Drop_run
noncomputable def branch_Drop (a : SAir) (s : SSetting) (road : Int) (flow : Int) : Option (SSpan) := gOfA branch_Drop_enc (fun p => (branch_Drop_t p.1 p.2.1 p.2.2.1 p.2.2.2).get) (branch_Drop_encC a s road flow).1 (branch_Drop_encC a s road flow).2
theorem branch_Drop_eq (a : SAir) (s : SSetting) (road : Int) (flow : Int) : branch_Drop a s road flow = (branch_Drop_t a s road flow).get := congrFun (gOfA_eq branch_Drop_inj (fun p => (branch_Drop_t p.1 p.2.1 p.2.2.1 p.2.2.2).get)) (a, s, road, flow)

/-! ### minecontrol/minecontrolref09.open -/
def ref09_open_encC (a : SAir) (s : SSetting) (road : Int) : List AV × List Blk := ([.agg [.slc 2 a.Mine.Places.n (fun k2808 => (SPlace.enc (a.Mine.Places.f k2808))), .slc 10 a.Mine.Roads.n (fun k2809 => (SRoad.enc (a.Mine.Roads.f k2809))), .slc 4 a.Fans.n (fun k2810 => (SFan.enc (a.Fans.f k2810))), .slc 3 a.Doors.n (fun k2811 => (SDoor.enc (a.Doors.f k2811)))], .agg [.slc 1 s.Fans.n (fun k2812 => [.int .i64 (s.Fans.f k2812)]), .slc 1 s.Doors.n (fun k2813 => [.int .i64 (s.Doors.f k2813)])], .int .i64 road], [])
def ref09_open_enc (p : SAir × SSetting × Int) : List AV × List Blk := ref09_open_encC p.1 p.2.1 p.2.2
theorem ref09_open_inj (p q : SAir × SSetting × Int) (h : ref09_open_enc p = ref09_open_enc q) : p = q :=
  (Prod.ext (SAir.ext2 (SMine.ext2 (Sq.av_inj SPlace.inj (a := p.1.Mine.Places) (b := q.1.Mine.Places) (congrArg (fun x : List AV × List Blk => argC x.1 0 0) h)) (Sq.av_inj SRoad.inj (a := p.1.Mine.Roads) (b := q.1.Mine.Roads) (congrArg (fun x : List AV × List Blk => argC x.1 0 1) h))) (Sq.av_inj SFan.inj (a := p.1.Fans) (b := q.1.Fans) (congrArg (fun x : List AV × List Blk => argC x.1 0 2) h)) (Sq.av_inj SDoor.inj (a := p.1.Doors) (b := q.1.Doors) (congrArg (fun x : List AV × List Blk => argC x.1 0 3) h))) (Prod.ext (SSetting.ext2 (Sq.av_inj intE_i64 (a := p.2.1.Fans) (b := q.2.1.Fans) (congrArg (fun x : List AV × List Blk => argC x.1 1 0) h)) (Sq.av_inj intE_i64 (a := p.2.1.Doors) (b := q.2.1.Doors) (congrArg (fun x : List AV × List Blk => argC x.1 1 1) h))) (show p.2.2 = q.2.2 from congrArg intA (congrArg (fun x : List AV × List Blk => x.1.getD 2 .undef) h))))
noncomputable def ref09_open_t (a : SAir) (s : SSetting) (road : Int) : DT (Bool) :=
  .bind (ref09_Right a s) fun z2067 =>
  .ite z2067 (
    .ite (decide (road ≥ (0 : Int))) (
      .ite (decide (road < ((a.Mine.Roads.n : Nat) : Int))) (
        .ite (decide ((0 : Int) ≤ road ∧ road < ((a.Mine.Roads.n : Nat) : Int))) (
          .leaf (!(a.Mine.Roads.f (Int.toNat road)).Closed)) (
          .fail)) (
        .leaf false)) (
      .leaf false)) (
    .leaf false)
def ref09_open_av (r : Bool) : AV := .bool r
def ref09_open_outs (_ : List Blk) (_ : Bool) : List Blk := []
noncomputable def c_ref09_open : List AV → List Blk → Option Ans := told ref09_open_enc (fun p => (ref09_open_t p.1 p.2.1 p.2.2).get) ref09_open_av ref09_open_outs true (fun _ _ _ => ⟨rfl, fun b hb => by cases hb⟩)
noncomputable def ref09_open_env : Env := { envS (fun f => match f with
  | 20 => c_ref09_Right
  | _ => fun _ _ => none) with mm := some 0 }
theorem ref09_open_env_ok : ∀ f, Tells Try.prog f (ref09_open_env.fs f) := by
  intro f
  by_cases h0 : f = 20
  · subst h0; exact ref09_Right_tells
  have : ref09_open_env.fs f = fun _ _ => none := by
    unfold ref09_open_env envS
    dsimp only
    split
    · exact absurd rfl h0
    · rfl
  rw [this]
  exact Tells.none_ f
theorem ref09_open_run (p : SAir × SSetting × Int) : arun ref09_open_env Try.f45 (ref09_open_enc p).1 (ref09_open_enc p).2 = (ref09_open_t p.1 p.2.1 p.2.2).run fun r => some (ref09_open_av r, ref09_open_outs (ref09_open_enc p).2 r) := by kernel_rfl
attribute [local irreducible] arun in
theorem ref09_open_tells : Tells Try.prog 45 c_ref09_open :=
  told_tells (E := ref09_open_env) (enc := ref09_open_enc) (av := ref09_open_av) (outs := ref09_open_outs) (t := fun p : SAir × SSetting × Int => ref09_open_t p.1 p.2.1 p.2.2) (by kernel_rfl) ref09_open_env_ok Try.func45 (fun c _ => loops_none (E := { ref09_open_env with nt := Try.f45.ntmps }) (fun _ => rfl) c) ref09_open_run
noncomputable def ref09_open (a : SAir) (s : SSetting) (road : Int) : Option (Bool) := gOfA ref09_open_enc (fun p => (ref09_open_t p.1 p.2.1 p.2.2).get) (ref09_open_encC a s road).1 (ref09_open_encC a s road).2
theorem ref09_open_eq (a : SAir) (s : SSetting) (road : Int) : ref09_open a s road = (ref09_open_t a s road).get := congrFun (gOfA_eq ref09_open_inj (fun p => (ref09_open_t p.1 p.2.1 p.2.2).get)) (a, s, road)

/-! ### minecontrol/minecontrolref09.Inner -/
def ref09_Inner_encC (a : SAir) (s : SSetting) (road : Int) (flow : Int) : List AV × List Blk := ([.agg [.slc 2 a.Mine.Places.n (fun k2814 => (SPlace.enc (a.Mine.Places.f k2814))), .slc 10 a.Mine.Roads.n (fun k2815 => (SRoad.enc (a.Mine.Roads.f k2815))), .slc 4 a.Fans.n (fun k2816 => (SFan.enc (a.Fans.f k2816))), .slc 3 a.Doors.n (fun k2817 => (SDoor.enc (a.Doors.f k2817)))], .agg [.slc 1 s.Fans.n (fun k2818 => [.int .i64 (s.Fans.f k2818)]), .slc 1 s.Doors.n (fun k2819 => [.int .i64 (s.Doors.f k2819)])], .int .i64 road, .int .i64 flow], [])
def ref09_Inner_enc (p : SAir × SSetting × Int × Int) : List AV × List Blk := ref09_Inner_encC p.1 p.2.1 p.2.2.1 p.2.2.2
theorem ref09_Inner_inj (p q : SAir × SSetting × Int × Int) (h : ref09_Inner_enc p = ref09_Inner_enc q) : p = q :=
  (Prod.ext (SAir.ext2 (SMine.ext2 (Sq.av_inj SPlace.inj (a := p.1.Mine.Places) (b := q.1.Mine.Places) (congrArg (fun x : List AV × List Blk => argC x.1 0 0) h)) (Sq.av_inj SRoad.inj (a := p.1.Mine.Roads) (b := q.1.Mine.Roads) (congrArg (fun x : List AV × List Blk => argC x.1 0 1) h))) (Sq.av_inj SFan.inj (a := p.1.Fans) (b := q.1.Fans) (congrArg (fun x : List AV × List Blk => argC x.1 0 2) h)) (Sq.av_inj SDoor.inj (a := p.1.Doors) (b := q.1.Doors) (congrArg (fun x : List AV × List Blk => argC x.1 0 3) h))) (Prod.ext (SSetting.ext2 (Sq.av_inj intE_i64 (a := p.2.1.Fans) (b := q.2.1.Fans) (congrArg (fun x : List AV × List Blk => argC x.1 1 0) h)) (Sq.av_inj intE_i64 (a := p.2.1.Doors) (b := q.2.1.Doors) (congrArg (fun x : List AV × List Blk => argC x.1 1 1) h))) (Prod.ext (show p.2.2.1 = q.2.2.1 from congrArg intA (congrArg (fun x : List AV × List Blk => x.1.getD 2 .undef) h)) (show p.2.2.2 = q.2.2.2 from congrArg intA (congrArg (fun x : List AV × List Blk => x.1.getD 3 .undef) h)))))
def ref09_Inner_l4_s (p : (Int × Int × (Sq SPlace) × (Sq SRoad) × (Sq SFan) × (Sq SDoor) × (Sq Int) × (Sq Int) × Int × Int × Int × Int × Bool × Bool × Int × Int × Int × Int) × (Int × Int × Int)) : St := ⟨[(2, .int .i64 p.1.1), (3, .int .i64 p.1.2.1), (4, .ptr 0 0), (5, .ptr 64 0), (8, .ptr 128 0), (9, .ptr 576 0), (10, .ptr 832 0), (11, .int .i64 p.2.1)], [(0, .var [.slc 2 p.1.2.2.1.n (fun k2820 => (SPlace.enc (p.1.2.2.1.f k2820))), .slc 10 p.1.2.2.2.1.n (fun k2821 => (SRoad.enc (p.1.2.2.2.1.f k2821))), .slc 4 p.1.2.2.2.2.1.n (fun k2822 => (SFan.enc (p.1.2.2.2.2.1.f k2822))), .slc 3 p.1.2.2.2.2.2.1.n (fun k2823 => (SDoor.enc (p.1.2.2.2.2.2.1.f k2823)))]), (64, .var [.slc 1 p.1.2.2.2.2.2.2.1.n (fun k2824 => [.int .i64 (p.1.2.2.2.2.2.2.1.f k2824)]), .slc 1 p.1.2.2.2.2.2.2.2.1.n (fun k2825 => [.int .i64 (p.1.2.2.2.2.2.2.2.1.f k2825)])]), (128, .var [.int .i64 (0 : Int), .int .i64 (0 : Int)]), (576, .var [.int .i64 p.1.2.2.2.2.2.2.2.2.1, .int .i64 p.1.2.2.2.2.2.2.2.2.2.1, .int .i64 p.1.2.2.2.2.2.2.2.2.2.2.1, .int .i64 p.1.2.2.2.2.2.2.2.2.2.2.2.1, .bool p.1.2.2.2.2.2.2.2.2.2.2.2.2.1, .bool p.1.2.2.2.2.2.2.2.2.2.2.2.2.2.1, .int .i64 p.1.2.2.2.2.2.2.2.2.2.2.2.2.2.2.1, .int .i64 p.1.2.2.2.2.2.2.2.2.2.2.2.2.2.2.2.1, .int .i64 p.1.2.2.2.2.2.2.2.2.2.2.2.2.2.2.2.2.1, .int .i64 p.1.2.2.2.2.2.2.2.2.2.2.2.2.2.2.2.2.2]), (832, .var [.int .i64 p.2.2.1, .int .i64 p.2.2.2])], 1024⟩
theorem ref09_Inner_l4_inj (p q : (Int × Int × (Sq SPlace) × (Sq SRoad) × (Sq SFan) × (Sq SDoor) × (Sq Int) × (Sq Int) × Int × Int × Int × Int × Bool × Bool × Int × Int × Int × Int) × (Int × Int × Int)) (h : ref09_Inner_l4_s p = ref09_Inner_l4_s q) : p = q :=
  Prod.ext (Prod.ext (show p.1.1 = q.1.1 from congrArg intA (congrArg (fun x : St => aget x.tm 2) h)) (Prod.ext (show p.1.2.1 = q.1.2.1 from congrArg intA (congrArg (fun x : St => aget x.tm 3) h)) (Prod.ext (Sq.av_inj SPlace.inj (a := p.1.2.2.1) (b := q.1.2.2.1) (congrArg (fun x : St => cellS x 0 0) h)) (Prod.ext (Sq.av_inj SRoad.inj (a := p.1.2.2.2.1) (b := q.1.2.2.2.1) (congrArg (fun x : St => cellS x 0 1) h)) (Prod.ext (Sq.av_inj SFan.inj (a := p.1.2.2.2.2.1) (b := q.1.2.2.2.2.1) (congrArg (fun x : St => cellS x 0 2) h)) (Prod.ext (Sq.av_inj SDoor.inj (a := p.1.2.2.2.2.2.1) (b := q.1.2.2.2.2.2.1) (congrArg (fun x : St => cellS x 0 3) h)) (Prod.ext (Sq.av_inj intE_i64 (a := p.1.2.2.2.2.2.2.1) (b := q.1.2.2.2.2.2.2.1) (congrArg (fun x : St => cellS x 64 0) h)) (Prod.ext (Sq.av_inj intE_i64 (a := p.1.2.2.2.2.2.2.2.1) (b := q.1.2.2.2.2.2.2.2.1) (congrArg (fun x : St => cellS x 64 1) h)) (Prod.ext (show p.1.2.2.2.2.2.2.2.2.1 = q.1.2.2.2.2.2.2.2.2.1 from congrArg intA (congrArg (fun x : St => cellS x 576 0) h)) (Prod.ext (show p.1.2.2.2.2.2.2.2.2.2.1 = q.1.2.2.2.2.2.2.2.2.2.1 from congrArg intA (congrArg (fun x : St => cellS x 576 1) h)) (Prod.ext (show p.1.2.2.2.2.2.2.2.2.2.2.1 = q.1.2.2.2.2.2.2.2.2.2.2.1 from congrArg intA (congrArg (fun x : St => cellS x 576 2) h)) (Prod.ext (show p.1.2.2.2.2.2.2.2.2.2.2.2.1 = q.1.2.2.2.2.2.2.2.2.2.2.2.1 from congrArg intA (congrArg (fun x : St => cellS x 576 3) h)) (Prod.ext (show p.1.2.2.2.2.2.2.2.2.2.2.2.2.1 = q.1.2.2.2.2.2.2.2.2.2.2.2.2.1 from congrArg boolA (congrArg (fun x : St => cellS x 576 4) h)) (Prod.ext (show p.1.2.2.2.2.2.2.2.2.2.2.2.2.2.1 = q.1.2.2.2.2.2.2.2.2.2.2.2.2.2.1 from congrArg boolA (congrArg (fun x : St => cellS x 576 5) h)) (Prod.ext (show p.1.2.2.2.2.2.2.2.2.2.2.2.2.2.2.1 = q.1.2.2.2.2.2.2.2.2.2.2.2.2.2.2.1 from congrArg intA (congrArg (fun x : St => cellS x 576 6) h)) (Prod.ext (show p.1.2.2.2.2.2.2.2.2.2.2.2.2.2.2.2.1 = q.1.2.2.2.2.2.2.2.2.2.2.2.2.2.2.2.1 from congrArg intA (congrArg (fun x : St => cellS x 576 7) h)) (Prod.ext (show p.1.2.2.2.2.2.2.2.2.2.2.2.2.2.2.2.2.1 = q.1.2.2.2.2.2.2.2.2.2.2.2.2.2.2.2.2.1 from congrArg intA (congrArg (fun x : St => cellS x 576 8) h)) (show p.1.2.2.2.2.2.2.2.2.2.2.2.2.2.2.2.2.2 = q.1.2.2.2.2.2.2.2.2.2.2.2.2.2.2.2.2.2 from congrArg intA (congrArg (fun x : St => cellS x 576 9) h))))))))))))))))))) (Prod.ext (show p.2.1 = q.2.1 from congrArg intA (congrArg (fun x : St => aget x.tm 11) h)) (Prod.ext (show p.2.2.1 = q.2.2.1 from congrArg intA (congrArg (fun x : St => cellS x 832 0) h)) (show p.2.2.2 = q.2.2.2 from congrArg intA (congrArg (fun x : St => cellS x 832 1) h))))
noncomputable def ref09_Inner_l4_step (road_4_0 : Int) (_flow_4_1 : Int) (_v4_2 : (Sq SPlace)) (_v4_3 : (Sq SRoad)) (_v4_4 : (Sq SFan)) (v4_5 : (Sq SDoor)) (_v4_6 : (Sq Int)) (v4_7 : (Sq Int)) (_v4_8 : Int) (_v4_9 : Int) (_v4_10 : Int) (_v4_11 : Int) (_v4_12 : Bool) (_v4_13 : Bool) (_v4_14 : Int) (_v4_15 : Int) (_v4_16 : Int) (_v4_17 : Int) (i_4_18 : Int) (v4_19 : Int) (v4_20 : Int) : DT (LR (Int × Int × Int) (Int × Int) (Unit)) :=
  .ite (decide (i_4_18 < ((v4_5.n : Nat) : Int))) (
    .ite (decide ((0 : Int) ≤ i_4_18 ∧ i_4_18 < ((v4_5.n : Nat) : Int))) (
      .ite ((v4_5.f (Int.toNat i_4_18)).Road == road_4_0) (
        .ite (decide ((0 : Int) ≤ i_4_18 ∧ i_4_18 < ((v4_5.n : Nat) : Int))) (
          .ite (decide ((0 : Int) ≤ i_4_18 ∧ i_4_18 < ((v4_7.n : Nat) : Int))) (
            .bind (ref08_Rest (v4_5.f (Int.toNat i_4_18)) (v4_7.f (Int.toNat i_4_18))) fun z2087 =>
            .leaf (.next ((wr (i_4_18 + (1 : Int))), (wr (v4_19 + z2087.Low)), (wr (v4_20 + z2087.High))))) (
            .fail)) (
          .fail)) (
        .leaf (.next ((wr (i_4_18 + (1 : Int))), v4_19, v4_20)))) (
      .fail)) (
    .leaf (.l (v4_19, v4_20)))
def ref09_Inner_l4_el (x : St) (a : Int × Int) : St := ⟨[(2, aget x.tm 2), (3, aget x.tm 3), (4, .ptr 0 0), (5, .ptr 64 0), (8, .ptr 128 0), (9, .ptr 576 0), (10, .ptr 832 0)], [(0, blkS x 0), (64, blkS x 64), (128, .var [.int .i64 (0 : Int), .int .i64 (0 : Int)]), (576, blkS x 576), (832, .var [.int .i64 a.1, .int .i64 a.2])], 1024⟩
def ref09_Inner_l4_er (_ : St) (_ : Unit) : St := ⟨[], [], 0⟩
noncomputable def ref09_Inner_l4_f (p : (Int × Int × (Sq SPlace) × (Sq SRoad) × (Sq SFan) × (Sq SDoor) × (Sq Int) × (Sq Int) × Int × Int × Int × Int × Bool × Bool × Int × Int × Int × Int) × (Int × Int × Int)) : Option ((Int × Int) ⊕ (Unit)) := fixO (fun v : Int × Int × Int => ref09_Inner_l4_step p.1.1 p.1.2.1 p.1.2.2.1 p.1.2.2.2.1 p.1.2.2.2.2.1 p.1.2.2.2.2.2.1 p.1.2.2.2.2.2.2.1 p.1.2.2.2.2.2.2.2.1 p.1.2.2.2.2.2.2.2.2.1 p.1.2.2.2.2.2.2.2.2.2.1 p.1.2.2.2.2.2.2.2.2.2.2.1 p.1.2.2.2.2.2.2.2.2.2.2.2.1 p.1.2.2.2.2.2.2.2.2.2.2.2.2.1 p.1.2.2.2.2.2.2.2.2.2.2.2.2.2.1 p.1.2.2.2.2.2.2.2.2.2.2.2.2.2.2.1 p.1.2.2.2.2.2.2.2.2.2.2.2.2.2.2.2.1 p.1.2.2.2.2.2.2.2.2.2.2.2.2.2.2.2.2.1 p.1.2.2.2.2.2.2.2.2.2.2.2.2.2.2.2.2.2 v.1 v.2.1 v.2.2) p.2
noncomputable def ref09_Inner_l4_c : St → Option LRes := loopM ref09_Inner_l4_s ref09_Inner_l4_f true (.exit 0) ref09_Inner_l4_el .ret ref09_Inner_l4_er
noncomputable def ref09_Inner_l4 (road_4_0 : Int) (flow_4_1 : Int) (v4_2 : (Sq SPlace)) (v4_3 : (Sq SRoad)) (v4_4 : (Sq SFan)) (v4_5 : (Sq SDoor)) (v4_6 : (Sq Int)) (v4_7 : (Sq Int)) (v4_8 : Int) (v4_9 : Int) (v4_10 : Int) (v4_11 : Int) (v4_12 : Bool) (v4_13 : Bool) (v4_14 : Int) (v4_15 : Int) (v4_16 : Int) (v4_17 : Int) (i_4_18 : Int) (v4_19 : Int) (v4_20 : Int) : Option ((Int × Int) ⊕ (Unit)) := gOfS ref09_Inner_l4_s ref09_Inner_l4_f (ref09_Inner_l4_s ((road_4_0, flow_4_1, v4_2, v4_3, v4_4, v4_5, v4_6, v4_7, v4_8, v4_9, v4_10, v4_11, v4_12, v4_13, v4_14, v4_15, v4_16, v4_17), (i_4_18, v4_19, v4_20)))
theorem ref09_Inner_l4_eq (road_4_0 : Int) (flow_4_1 : Int) (v4_2 : (Sq SPlace)) (v4_3 : (Sq SRoad)) (v4_4 : (Sq SFan)) (v4_5 : (Sq SDoor)) (v4_6 : (Sq Int)) (v4_7 : (Sq Int)) (v4_8 : Int) (v4_9 : Int) (v4_10 : Int) (v4_11 : Int) (v4_12 : Bool) (v4_13 : Bool) (v4_14 : Int) (v4_15 : Int) (v4_16 : Int) (v4_17 : Int) (i_4_18 : Int) (v4_19 : Int) (v4_20 : Int) : ref09_Inner_l4 road_4_0 flow_4_1 v4_2 v4_3 v4_4 v4_5 v4_6 v4_7 v4_8 v4_9 v4_10 v4_11 v4_12 v4_13 v4_14 v4_15 v4_16 v4_17 i_4_18 v4_19 v4_20 = fixO (fun v : Int × Int × Int => ref09_Inner_l4_step road_4_0 flow_4_1 v4_2 v4_3 v4_4 v4_5 v4_6 v4_7 v4_8 v4_9 v4_10 v4_11 v4_12 v4_13 v4_14 v4_15 v4_16 v4_17 v.1 v.2.1 v.2.2) (i_4_18, v4_19, v4_20) := gOfS_eq ref09_Inner_l4_inj ref09_Inner_l4_f ((road_4_0, flow_4_1, v4_2, v4_3, v4_4, v4_5, v4_6, v4_7, v4_8, v4_9, v4_10, v4_11, v4_12, v4_13, v4_14, v4_15, v4_16, v4_17), (i_4_18, v4_19, v4_20))
def ref09_Inner_l14_s (p : (Int × Int × (Sq SPlace) × (Sq SRoad) × (Sq SFan) × (Sq SDoor) × (Sq Int) × (Sq Int)) × (Int × Int × Int)) : St := ⟨[(2, .int .i64 p.1.1), (3, .int .i64 p.1.2.1), (4, .ptr 0 0), (5, .ptr 64 0), (8, .ptr 128 0), (13, .ptr 1856 0), (14, .int .i64 p.2.2.2)], [(0, .var [.slc 2 p.1.2.2.1.n (fun k2826 => (SPlace.enc (p.1.2.2.1.f k2826))), .slc 10 p.1.2.2.2.1.n (fun k2827 => (SRoad.enc (p.1.2.2.2.1.f k2827))), .slc 4 p.1.2.2.2.2.1.n (fun k2828 => (SFan.enc (p.1.2.2.2.2.1.f k2828))), .slc 3 p.1.2.2.2.2.2.1.n (fun k2829 => (SDoor.enc (p.1.2.2.2.2.2.1.f k2829)))]), (64, .var [.slc 1 p.1.2.2.2.2.2.2.1.n (fun k2830 => [.int .i64 (p.1.2.2.2.2.2.2.1.f k2830)]), .slc 1 p.1.2.2.2.2.2.2.2.n (fun k2831 => [.int .i64 (p.1.2.2.2.2.2.2.2.f k2831)])]), (128, .var [.int .i64 (0 : Int), .int .i64 (0 : Int)]), (1856, .var [.int .i64 p.2.1, .int .i64 p.2.2.1])], 3712⟩
theorem ref09_Inner_l14_inj (p q : (Int × Int × (Sq SPlace) × (Sq SRoad) × (Sq SFan) × (Sq SDoor) × (Sq Int) × (Sq Int)) × (Int × Int × Int)) (h : ref09_Inner_l14_s p = ref09_Inner_l14_s q) : p = q :=
  Prod.ext (Prod.ext (show p.1.1 = q.1.1 from congrArg intA (congrArg (fun x : St => aget x.tm 2) h)) (Prod.ext (show p.1.2.1 = q.1.2.1 from congrArg intA (congrArg (fun x : St => aget x.tm 3) h)) (Prod.ext (Sq.av_inj SPlace.inj (a := p.1.2.2.1) (b := q.1.2.2.1) (congrArg (fun x : St => cellS x 0 0) h)) (Prod.ext (Sq.av_inj SRoad.inj (a := p.1.2.2.2.1) (b := q.1.2.2.2.1) (congrArg (fun x : St => cellS x 0 1) h)) (Prod.ext (Sq.av_inj SFan.inj (a := p.1.2.2.2.2.1) (b := q.1.2.2.2.2.1) (congrArg (fun x : St => cellS x 0 2) h)) (Prod.ext (Sq.av_inj SDoor.inj (a := p.1.2.2.2.2.2.1) (b := q.1.2.2.2.2.2.1) (congrArg (fun x : St => cellS x 0 3) h)) (Prod.ext (Sq.av_inj intE_i64 (a := p.1.2.2.2.2.2.2.1) (b := q.1.2.2.2.2.2.2.1) (congrArg (fun x : St => cellS x 64 0) h)) (Sq.av_inj intE_i64 (a := p.1.2.2.2.2.2.2.2) (b := q.1.2.2.2.2.2.2.2) (congrArg (fun x : St => cellS x 64 1) h))))))))) (Prod.ext (show p.2.1 = q.2.1 from congrArg intA (congrArg (fun x : St => cellS x 1856 0) h)) (Prod.ext (show p.2.2.1 = q.2.2.1 from congrArg intA (congrArg (fun x : St => cellS x 1856 1) h)) (show p.2.2.2 = q.2.2.2 from congrArg intA (congrArg (fun x : St => aget x.tm 14) h))))
noncomputable def ref09_Inner_l14_step (road_14_0 : Int) (flow_14_1 : Int) (_v14_2 : (Sq SPlace)) (_v14_3 : (Sq SRoad)) (v14_4 : (Sq SFan)) (_v14_5 : (Sq SDoor)) (v14_6 : (Sq Int)) (_v14_7 : (Sq Int)) (v14_8 : Int) (v14_9 : Int) (i_14_10 : Int) : DT (LR (Int × Int × Int) (Int × Int) (Unit)) :=
  .ite (decide (i_14_10 < ((v14_4.n : Nat) : Int))) (
    .ite (decide ((0 : Int) ≤ i_14_10 ∧ i_14_10 < ((v14_4.n : Nat) : Int))) (
      .ite ((v14_4.f (Int.toNat i_14_10)).Road == road_14_0) (
        .ite (decide ((0 : Int) ≤ i_14_10 ∧ i_14_10 < ((v14_4.n : Nat) : Int))) (
          .ite (decide ((0 : Int) ≤ i_14_10 ∧ i_14_10 < ((v14_6.n : Nat) : Int))) (
            .bind (ref07_State (v14_4.f (Int.toNat i_14_10)) (v14_6.f (Int.toNat i_14_10)) flow_14_1) fun z2089 =>
            .leaf (.next ((wr (v14_8 - z2089.High)), (wr (v14_9 - z2089.Low)), (wr (i_14_10 + (1 : Int)))))) (
            .fail)) (
          .fail)) (
        .leaf (.next (v14_8, v14_9, (wr (i_14_10 + (1 : Int))))))) (
      .fail)) (
    .leaf (.l (v14_8, v14_9)))
def ref09_Inner_l14_el (x : St) (a : Int × Int) : St := ⟨[(8, .ptr 128 0), (13, .ptr 1856 0)], [(0, blkS x 0), (64, blkS x 64), (128, .var [.int .i64 (0 : Int), .int .i64 (0 : Int)]), (1856, .var [.int .i64 a.1, .int .i64 a.2])], 3712⟩
def ref09_Inner_l14_er (_ : St) (_ : Unit) : St := ⟨[], [], 0⟩
noncomputable def ref09_Inner_l14_f (p : (Int × Int × (Sq SPlace) × (Sq SRoad) × (Sq SFan) × (Sq SDoor) × (Sq Int) × (Sq Int)) × (Int × Int × Int)) : Option ((Int × Int) ⊕ (Unit)) := fixO (fun v : Int × Int × Int => ref09_Inner_l14_step p.1.1 p.1.2.1 p.1.2.2.1 p.1.2.2.2.1 p.1.2.2.2.2.1 p.1.2.2.2.2.2.1 p.1.2.2.2.2.2.2.1 p.1.2.2.2.2.2.2.2 v.1 v.2.1 v.2.2) p.2
noncomputable def ref09_Inner_l14_c : St → Option LRes := loopM ref09_Inner_l14_s ref09_Inner_l14_f true (.exit 2) ref09_Inner_l14_el .ret ref09_Inner_l14_er
noncomputable def ref09_Inner_l14 (road_14_0 : Int) (flow_14_1 : Int) (v14_2 : (Sq SPlace)) (v14_3 : (Sq SRoad)) (v14_4 : (Sq SFan)) (v14_5 : (Sq SDoor)) (v14_6 : (Sq Int)) (v14_7 : (Sq Int)) (v14_8 : Int) (v14_9 : Int) (i_14_10 : Int) : Option ((Int × Int) ⊕ (Unit)) := gOfS ref09_Inner_l14_s ref09_Inner_l14_f (ref09_Inner_l14_s ((road_14_0, flow_14_1, v14_2, v14_3, v14_4, v14_5, v14_6, v14_7), (v14_8, v14_9, i_14_10)))
theorem ref09_Inner_l14_eq (road_14_0 : Int) (flow_14_1 : Int) (v14_2 : (Sq SPlace)) (v14_3 : (Sq SRoad)) (v14_4 : (Sq SFan)) (v14_5 : (Sq SDoor)) (v14_6 : (Sq Int)) (v14_7 : (Sq Int)) (v14_8 : Int) (v14_9 : Int) (i_14_10 : Int) : ref09_Inner_l14 road_14_0 flow_14_1 v14_2 v14_3 v14_4 v14_5 v14_6 v14_7 v14_8 v14_9 i_14_10 = fixO (fun v : Int × Int × Int => ref09_Inner_l14_step road_14_0 flow_14_1 v14_2 v14_3 v14_4 v14_5 v14_6 v14_7 v.1 v.2.1 v.2.2) (v14_8, v14_9, i_14_10) := gOfS_eq ref09_Inner_l14_inj ref09_Inner_l14_f ((road_14_0, flow_14_1, v14_2, v14_3, v14_4, v14_5, v14_6, v14_7), (v14_8, v14_9, i_14_10))
noncomputable def ref09_Inner_t (a : SAir) (s : SSetting) (road : Int) (flow : Int) : DT (SSpan) :=
  .ite (decide ((0 : Int) ≤ road ∧ road < ((a.Mine.Roads.n : Nat) : Int))) (
    .sum (ref09_Inner_l4 road flow a.Mine.Places a.Mine.Roads a.Fans a.Doors s.Fans s.Doors (a.Mine.Roads.f (Int.toNat road)).From (a.Mine.Roads.f (Int.toNat road)).To (a.Mine.Roads.f (Int.toNat road)).Length (a.Mine.Roads.f (Int.toNat road)).Area (a.Mine.Roads.f (Int.toNat road)).Walk (a.Mine.Roads.f (Int.toNat road)).Closed (a.Mine.Roads.f (Int.toNat road)).Rest.Low (a.Mine.Roads.f (Int.toNat road)).Rest.High (a.Mine.Roads.f (Int.toNat road)).Lift.Low (a.Mine.Roads.f (Int.toNat road)).Lift.High (0 : Int) (a.Mine.Roads.f (Int.toNat road)).Rest.Low (a.Mine.Roads.f (Int.toNat road)).Rest.High) (fun y2088 =>
      .ite (decide (flow < (0 : Int))) (
        .sum (ref09_Inner_l14 road flow a.Mine.Places a.Mine.Roads a.Fans a.Doors s.Fans s.Doors (wr ((wr (0 - (wr ((wr (y2088.2 * flow)) * flow)))) - (a.Mine.Roads.f (Int.toNat road)).Lift.High)) (wr ((wr (0 - (wr ((wr (y2088.1 * flow)) * flow)))) - (a.Mine.Roads.f (Int.toNat road)).Lift.Low)) (0 : Int)) (fun y2090 =>
          .leaf (SSpan.mk y2090.1 y2090.2)) (fun _ =>
          .fail)) (
        .sum (ref09_Inner_l14 road flow a.Mine.Places a.Mine.Roads a.Fans a.Doors s.Fans s.Doors (wr ((wr ((wr (y2088.1 * flow)) * flow)) - (a.Mine.Roads.f (Int.toNat road)).Lift.High)) (wr ((wr ((wr (y2088.2 * flow)) * flow)) - (a.Mine.Roads.f (Int.toNat road)).Lift.Low)) (0 : Int)) (fun y2091 =>
          .leaf (SSpan.mk y2091.1 y2091.2)) (fun _ =>
          .fail))) (fun _ =>
      .fail)) (
    .fail)
def ref09_Inner_av (r : SSpan) : AV := .agg [.int .i64 r.Low, .int .i64 r.High]
def ref09_Inner_outs (_ : List Blk) (_ : SSpan) : List Blk := []
noncomputable def c_ref09_Inner : List AV → List Blk → Option Ans := told ref09_Inner_enc (fun p => (ref09_Inner_t p.1 p.2.1 p.2.2.1 p.2.2.2).get) ref09_Inner_av ref09_Inner_outs true (fun _ _ _ => ⟨rfl, fun b hb => by cases hb⟩)
noncomputable def ref09_Inner_env : Env := { envS (fun f => match f with
  | 56 => c_ref08_Rest
  | 57 => c_ref07_State
  | _ => fun _ _ => none) (fun r => match r with | 4 => some ([2, 3, 4, 5, 8, 9, 10, 11], [2, 3, 4, 5, 8, 9, 10]) | 14 => some ([2, 3, 4, 5, 8, 13, 14], [8, 13]) | _ => none) with loops := fun r => match r with | 4 => some ref09_Inner_l4_c | 14 => some ref09_Inner_l14_c | _ => none, gc := fun r => match r with | 4 => some [0, 64, 128, 576, 832] | 14 => some [0, 64, 128, 1856] | _ => none, mm := some 0 }
theorem ref09_Inner_env_ok : ∀ f, Tells Try.prog f (ref09_Inner_env.fs f) := by
  intro f
  by_cases h0 : f = 56
  · subst h0; exact ref08_Rest_tells
  by_cases h1 : f = 57
  · subst h1; exact ref07_State_tells
  have : ref09_Inner_env.fs f = fun _ _ => none := by
    unfold ref09_Inner_env envS
    dsimp only
    split
    · exact absurd rfl h0
    · exact absurd rfl h1
    · rfl
  rw [this]
  exact Tells.none_ f
noncomputable def ref09_Inner_e : Env := { ref09_Inner_env with nt := 138 }
noncomputable def ref09_Inner_l4_b : Code := loopOf 4 Try.f46
theorem ref09_Inner_l4_round {R : Type} (fx : Int × Int × (Sq SPlace) × (Sq SRoad) × (Sq SFan) × (Sq SDoor) × (Sq Int) × (Sq Int) × Int × Int × Int × Int × Bool × Bool × Int × Int × Int × Int) (v : Int × Int × Int) (N : Nat) (K : AX → St → Option R) : aloop (fun s j => aexec ref09_Inner_e ref09_Inner_l4_b s j) (headOf ref09_Inner_e ref09_Inner_l4_b 1024) (exitOf ref09_Inner_e ref09_Inner_l4_b 1024) (N + 1) (ref09_Inner_l4_s (fx, v)) K = (ref09_Inner_l4_step fx.1 fx.2.1 fx.2.2.1 fx.2.2.2.1 fx.2.2.2.2.1 fx.2.2.2.2.2.1 fx.2.2.2.2.2.2.1 fx.2.2.2.2.2.2.2.1 fx.2.2.2.2.2.2.2.2.1 fx.2.2.2.2.2.2.2.2.2.1 fx.2.2.2.2.2.2.2.2.2.2.1 fx.2.2.2.2.2.2.2.2.2.2.2.1 fx.2.2.2.2.2.2.2.2.2.2.2.2.1 fx.2.2.2.2.2.2.2.2.2.2.2.2.2.1 fx.2.2.2.2.2.2.2.2.2.2.2.2.2.2.1 fx.2.2.2.2.2.2.2.2.2.2.2.2.2.2.2.1 fx.2.2.2.2.2.2.2.2.2.2.2.2.2.2.2.2.1 fx.2.2.2.2.2.2.2.2.2.2.2.2.2.2.2.2.2 v.1 v.2.1 v.2.2).run (LR.elim
    (fun v' => aloop (fun s j => aexec ref09_Inner_e ref09_Inner_l4_b s j) (headOf ref09_Inner_e ref09_Inner_l4_b 1024) (exitOf ref09_Inner_e ref09_Inner_l4_b 1024) N (ref09_Inner_l4_s (fx, v')) K)
    (fun a => K (.exit 0) (ref09_Inner_l4_el (ref09_Inner_l4_s (fx, v)) a))
    (fun a => K .ret (ref09_Inner_l4_er (ref09_Inner_l4_s (fx, v)) a))) := by kernel_rfl
theorem ref09_Inner_l4_tells : LoopTells ref09_Inner_e ref09_Inner_l4_b ref09_Inner_l4_c :=
  loopM_tells (s := ref09_Inner_l4_s) (stl := ref09_Inner_l4_el) (str := ref09_Inner_l4_er) (step := fun (fx : Int × Int × (Sq SPlace) × (Sq SRoad) × (Sq SFan) × (Sq SDoor) × (Sq Int) × (Sq Int) × Int × Int × Int × Int × Bool × Bool × Int × Int × Int × Int) (v : Int × Int × Int) => ref09_Inner_l4_step fx.1 fx.2.1 fx.2.2.1 fx.2.2.2.1 fx.2.2.2.2.1 fx.2.2.2.2.2.1 fx.2.2.2.2.2.2.1 fx.2.2.2.2.2.2.2.1 fx.2.2.2.2.2.2.2.2.1 fx.2.2.2.2.2.2.2.2.2.1 fx.2.2.2.2.2.2.2.2.2.2.1 fx.2.2.2.2.2.2.2.2.2.2.2.1 fx.2.2.2.2.2.2.2.2.2.2.2.2.1 fx.2.2.2.2.2.2.2.2.2.2.2.2.2.1 fx.2.2.2.2.2.2.2.2.2.2.2.2.2.2.1 fx.2.2.2.2.2.2.2.2.2.2.2.2.2.2.2.1 fx.2.2.2.2.2.2.2.2.2.2.2.2.2.2.2.2.1 fx.2.2.2.2.2.2.2.2.2.2.2.2.2.2.2.2.2 v.1 v.2.1 v.2.2) (n := 1024) (fun _ => rfl) (fun _ _ _ _ => rfl) (fun _ _ _ _ => rfl) ref09_Inner_l4_round
noncomputable def ref09_Inner_l14_b : Code := loopOf 14 Try.f46
theorem ref09_Inner_l14_round {R : Type} (fx : Int × Int × (Sq SPlace) × (Sq SRoad) × (Sq SFan) × (Sq SDoor) × (Sq Int) × (Sq Int)) (v : Int × Int × Int) (N : Nat) (K : AX → St → Option R) : aloop (fun s j => aexec ref09_Inner_e ref09_Inner_l14_b s j) (headOf ref09_Inner_e ref09_Inner_l14_b 3712) (exitOf ref09_Inner_e ref09_Inner_l14_b 3712) (N + 1) (ref09_Inner_l14_s (fx, v)) K = (ref09_Inner_l14_step fx.1 fx.2.1 fx.2.2.1 fx.2.2.2.1 fx.2.2.2.2.1 fx.2.2.2.2.2.1 fx.2.2.2.2.2.2.1 fx.2.2.2.2.2.2.2 v.1 v.2.1 v.2.2).run (LR.elim
    (fun v' => aloop (fun s j => aexec ref09_Inner_e ref09_Inner_l14_b s j) (headOf ref09_Inner_e ref09_Inner_l14_b 3712) (exitOf ref09_Inner_e ref09_Inner_l14_b 3712) N (ref09_Inner_l14_s (fx, v')) K)
    (fun a => K (.exit 2) (ref09_Inner_l14_el (ref09_Inner_l14_s (fx, v)) a))
    (fun a => K .ret (ref09_Inner_l14_er (ref09_Inner_l14_s (fx, v)) a))) := by kernel_rfl
theorem ref09_Inner_l14_tells : LoopTells ref09_Inner_e ref09_Inner_l14_b ref09_Inner_l14_c :=
  loopM_tells (s := ref09_Inner_l14_s) (stl := ref09_Inner_l14_el) (str := ref09_Inner_l14_er) (step := fun (fx : Int × Int × (Sq SPlace) × (Sq SRoad) × (Sq SFan) × (Sq SDoor) × (Sq Int) × (Sq Int)) (v : Int × Int × Int) => ref09_Inner_l14_step fx.1 fx.2.1 fx.2.2.1 fx.2.2.2.1 fx.2.2.2.2.1 fx.2.2.2.2.2.1 fx.2.2.2.2.2.2.1 fx.2.2.2.2.2.2.2 v.1 v.2.1 v.2.2) (n := 3712) (fun _ => rfl) (fun _ _ _ _ => rfl) (fun _ _ _ _ => rfl) ref09_Inner_l14_round
theorem ref09_Inner_run (p : SAir × SSetting × Int × Int) : arun ref09_Inner_env Try.f46 (ref09_Inner_enc p).1 (ref09_Inner_enc p).2 = (ref09_Inner_t p.1 p.2.1 p.2.2.1 p.2.2.2).run fun r => some (ref09_Inner_av r, ref09_Inner_outs (ref09_Inner_enc p).2 r) := by kernel_rfl
theorem ref09_Inner_loops : ∀ c, Try.f46.body = some c → LoopsOK { ref09_Inner_env with nt := Try.f46.ntmps } c := by
  intro c hc
  refine loops_of c fun c' hc' f hf => ?_
  have hb : loopsOf c = [ref09_Inner_l4_b, ref09_Inner_l14_b] := by
    have : Try.f46.body.map loopsOf = some [ref09_Inner_l4_b, ref09_Inner_l14_b] := by kernel_rfl
    rw [hc] at this
    injection this
  rw [hb] at hc'
  clear hb
  rcases List.mem_cons.1 hc' with rfl | hc'
  ·
    have h6 : firstReg ref09_Inner_l4_b = 4 := by kernel_rfl
    rw [h6] at hf
    obtain rfl := Option.some.inj hf
    exact ref09_Inner_l4_tells
  obtain rfl := List.mem_singleton.1 hc'
  have h6 : firstReg ref09_Inner_l14_b = 14 := by kernel_rfl
  rw [h6] at hf
  obtain rfl := Option.some.inj hf
  exact ref09_Inner_l14_tells
attribute [local irreducible] arun in
theorem ref09_Inner_tells : Tells Try.prog 46 c_ref09_Inner :=
  told_tells (E := ref09_Inner_env) (enc := ref09_Inner_enc) (av := ref09_Inner_av) (outs := ref09_Inner_outs) (t := fun p : SAir × SSetting × Int × Int => ref09_Inner_t p.1 p.2.1 p.2.2.1 p.2.2.2) (by kernel_rfl) ref09_Inner_env_ok Try.func46 ref09_Inner_loops ref09_Inner_run
noncomputable def ref09_Inner (a : SAir) (s : SSetting) (road : Int) (flow : Int) : Option (SSpan) := gOfA ref09_Inner_enc (fun p => (ref09_Inner_t p.1 p.2.1 p.2.2.1 p.2.2.2).get) (ref09_Inner_encC a s road flow).1 (ref09_Inner_encC a s road flow).2
theorem ref09_Inner_eq (a : SAir) (s : SSetting) (road : Int) (flow : Int) : ref09_Inner a s road flow = (ref09_Inner_t a s road flow).get := congrFun (gOfA_eq ref09_Inner_inj (fun p => (ref09_Inner_t p.1 p.2.1 p.2.2.1 p.2.2.2).get)) (a, s, road, flow)

/-! ### minecontrol/minecontrolref09.Drop -/
def ref09_Drop_encC (a : SAir) (s : SSetting) (road : Int) (flow : Int) : List AV × List Blk := ([.agg [.slc 2 a.Mine.Places.n (fun k2832 => (SPlace.enc (a.Mine.Places.f k2832))), .slc 10 a.Mine.Roads.n (fun k2833 => (SRoad.enc (a.Mine.Roads.f k2833))), .slc 4 a.Fans.n (fun k2834 => (SFan.enc (a.Fans.f k2834))), .slc 3 a.Doors.n (fun k2835 => (SDoor.enc (a.Doors.f k2835)))], .agg [.slc 1 s.Fans.n (fun k2836 => [.int .i64 (s.Fans.f k2836)]), .slc 1 s.Doors.n (fun k2837 => [.int .i64 (s.Doors.f k2837)])], .int .i64 road, .int .i64 flow], [])
def ref09_Drop_enc (p : SAir × SSetting × Int × Int) : List AV × List Blk := ref09_Drop_encC p.1 p.2.1 p.2.2.1 p.2.2.2
theorem ref09_Drop_inj (p q : SAir × SSetting × Int × Int) (h : ref09_Drop_enc p = ref09_Drop_enc q) : p = q :=
  (Prod.ext (SAir.ext2 (SMine.ext2 (Sq.av_inj SPlace.inj (a := p.1.Mine.Places) (b := q.1.Mine.Places) (congrArg (fun x : List AV × List Blk => argC x.1 0 0) h)) (Sq.av_inj SRoad.inj (a := p.1.Mine.Roads) (b := q.1.Mine.Roads) (congrArg (fun x : List AV × List Blk => argC x.1 0 1) h))) (Sq.av_inj SFan.inj (a := p.1.Fans) (b := q.1.Fans) (congrArg (fun x : List AV × List Blk => argC x.1 0 2) h)) (Sq.av_inj SDoor.inj (a := p.1.Doors) (b := q.1.Doors) (congrArg (fun x : List AV × List Blk => argC x.1 0 3) h))) (Prod.ext (SSetting.ext2 (Sq.av_inj intE_i64 (a := p.2.1.Fans) (b := q.2.1.Fans) (congrArg (fun x : List AV × List Blk => argC x.1 1 0) h)) (Sq.av_inj intE_i64 (a := p.2.1.Doors) (b := q.2.1.Doors) (congrArg (fun x : List AV × List Blk => argC x.1 1 1) h))) (Prod.ext (show p.2.2.1 = q.2.2.1 from congrArg intA (congrArg (fun x : List AV × List Blk => x.1.getD 2 .undef) h)) (show p.2.2.2 = q.2.2.2 from congrArg intA (congrArg (fun x : List AV × List Blk => x.1.getD 3 .undef) h)))))
noncomputable def ref09_Drop_t (a : SAir) (s : SSetting) (road : Int) (flow : Int) : DT (SSpan) :=
  .bind (ref09_open a s road) fun z2068 =>
  .ite (!z2068) (
    .leaf (SSpan.mk (0 : Int) (0 : Int))) (
    .ite (decide (flow < (-1048577 : Int))) (
      .leaf (SSpan.mk (0 : Int) (0 : Int))) (
      .ite (decide (flow > (1048577 : Int))) (
        .leaf (SSpan.mk (0 : Int) (0 : Int))) (
        .bind (ref09_Inner a s road flow) fun z2092 =>
        .leaf z2092)))
def ref09_Drop_av (r : SSpan) : AV := .agg [.int .i64 r.Low, .int .i64 r.High]
def ref09_Drop_outs (_ : List Blk) (_ : SSpan) : List Blk := []
noncomputable def c_ref09_Drop : List AV → List Blk → Option Ans := told ref09_Drop_enc (fun p => (ref09_Drop_t p.1 p.2.1 p.2.2.1 p.2.2.2).get) ref09_Drop_av ref09_Drop_outs true (fun _ _ _ => ⟨rfl, fun b hb => by cases hb⟩)
noncomputable def ref09_Drop_env : Env := { envS (fun f => match f with
  | 45 => c_ref09_open
  | 46 => c_ref09_Inner
  | _ => fun _ _ => none) with mm := some 0 }
theorem ref09_Drop_env_ok : ∀ f, Tells Try.prog f (ref09_Drop_env.fs f) := by
  intro f
  by_cases h0 : f = 45
  · subst h0; exact ref09_open_tells
  by_cases h1 : f = 46
  · subst h1; exact ref09_Inner_tells
  have : ref09_Drop_env.fs f = fun _ _ => none := by
    unfold ref09_Drop_env envS
    dsimp only
    split
    · exact absurd rfl h0
    · exact absurd rfl h1
    · rfl
  rw [this]
  exact Tells.none_ f
theorem ref09_Drop_run (p : SAir × SSetting × Int × Int) : arun ref09_Drop_env Try.f24 (ref09_Drop_enc p).1 (ref09_Drop_enc p).2 = (ref09_Drop_t p.1 p.2.1 p.2.2.1 p.2.2.2).run fun r => some (ref09_Drop_av r, ref09_Drop_outs (ref09_Drop_enc p).2 r) := by kernel_rfl
attribute [local irreducible] arun in
theorem ref09_Drop_tells : Tells Try.prog 24 c_ref09_Drop :=
  told_tells (E := ref09_Drop_env) (enc := ref09_Drop_enc) (av := ref09_Drop_av) (outs := ref09_Drop_outs) (t := fun p : SAir × SSetting × Int × Int => ref09_Drop_t p.1 p.2.1 p.2.2.1 p.2.2.2) (by kernel_rfl) ref09_Drop_env_ok Try.func24 (fun c _ => loops_none (E := { ref09_Drop_env with nt := Try.f24.ntmps }) (fun _ => rfl) c) ref09_Drop_run
noncomputable def ref09_Drop (a : SAir) (s : SSetting) (road : Int) (flow : Int) : Option (SSpan) := gOfA ref09_Drop_enc (fun p => (ref09_Drop_t p.1 p.2.1 p.2.2.1 p.2.2.2).get) (ref09_Drop_encC a s road flow).1 (ref09_Drop_encC a s road flow).2
theorem ref09_Drop_eq (a : SAir) (s : SSetting) (road : Int) (flow : Int) : ref09_Drop a s road flow = (ref09_Drop_t a s road flow).get := congrFun (gOfA_eq ref09_Drop_inj (fun p => (ref09_Drop_t p.1 p.2.1 p.2.2.1 p.2.2.2).get)) (a, s, road, flow)

/-! ### minecontrol/branch.Flow$1 -/
def branch_Flow_1_encC (flow : Int) (x : Sairway) (x2 : Int) : List AV × List Blk := ([.int .i64 flow, .ptr 0 0, .ptr 1 0], [.var [.int .i64 x.Road.From, .int .i64 x.Road.To, .int .i64 x.Road.Length, .int .i64 x.Road.Area, .bool x.Road.Walk, .bool x.Road.Closed, .int .i64 x.Road.Rest.Low, .int .i64 x.Road.Rest.High, .int .i64 x.Road.Lift.Low, .int .i64 x.Road.Lift.High, .own 2 0], .var [.int .i64 x2], .row 0 5 x.blowers_.n 106 (fun k2848 => (Sblower.enc (x.blowers_.f k2848)))])
def branch_Flow_1_enc (p : Int × Sairway × Int) : List AV × List Blk := branch_Flow_1_encC p.1 p.2.1 p.2.2
theorem branch_Flow_1_inj (p q : Int × Sairway × Int) (h : branch_Flow_1_enc p = branch_Flow_1_enc q) : p = q :=
  (Prod.ext (show p.1 = q.1 from congrArg intA (congrArg (fun x : List AV × List Blk => x.1.getD 0 .undef) h)) (Prod.ext (Sairway.ext2 (SRoad.ext2 (show p.2.1.Road.From = q.2.1.Road.From from congrArg intA (congrArg (fun x : List AV × List Blk => cellB x.2 0 0) h)) (show p.2.1.Road.To = q.2.1.Road.To from congrArg intA (congrArg (fun x : List AV × List Blk => cellB x.2 0 1) h)) (show p.2.1.Road.Length = q.2.1.Road.Length from congrArg intA (congrArg (fun x : List AV × List Blk => cellB x.2 0 2) h)) (show p.2.1.Road.Area = q.2.1.Road.Area from congrArg intA (congrArg (fun x : List AV × List Blk => cellB x.2 0 3) h)) (show p.2.1.Road.Walk = q.2.1.Road.Walk from congrArg boolA (congrArg (fun x : List AV × List Blk => cellB x.2 0 4) h)) (show p.2.1.Road.Closed = q.2.1.Road.Closed from congrArg boolA (congrArg (fun x : List AV × List Blk => cellB x.2 0 5) h)) (SSpan.ext2 (show p.2.1.Road.Rest.Low = q.2.1.Road.Rest.Low from congrArg intA (congrArg (fun x : List AV × List Blk => cellB x.2 0 6) h)) (show p.2.1.Road.Rest.High = q.2.1.Road.Rest.High from congrArg intA (congrArg (fun x : List AV × List Blk => cellB x.2 0 7) h))) (SSpan.ext2 (show p.2.1.Road.Lift.Low = q.2.1.Road.Lift.Low from congrArg intA (congrArg (fun x : List AV × List Blk => cellB x.2 0 8) h)) (show p.2.1.Road.Lift.High = q.2.1.Road.Lift.High from congrArg intA (congrArg (fun x : List AV × List Blk => cellB x.2 0 9) h)))) (Sq.row_inj Sblower.inj (a := p.2.1.blowers_) (b := q.2.1.blowers_) (congrArg (fun x : List AV × List Blk => x.2.getD 2 (.dead 0)) h))) (show p.2.2 = q.2.2 from congrArg intA (congrArg (fun x : List AV × List Blk => cellB x.2 1 0) h))))
noncomputable def branch_Flow_1_t (flow : Int) (x : Sairway) (x2 : Int) : DT (Bool) :=
  .bind (branch_airway_drop x flow) fun z2146 =>
  .leaf (decide (z2146.High > x2))
def branch_Flow_1_av (r : Bool) : AV := .bool r
def branch_Flow_1_outs (ins : List Blk) (_ : Bool) : List Blk := [ins.getD 0 (.dead 0), ins.getD 1 (.dead 0), ins.getD 2 (.dead 0)]
noncomputable def c_branch_Flow_1 : List AV → List Blk → Option Ans := told branch_Flow_1_enc (fun p => (branch_Flow_1_t p.1 p.2.1 p.2.2).get) branch_Flow_1_av branch_Flow_1_outs false (fun h => by cases h)
noncomputable def branch_Flow_1_env : Env := { envS (fun f => match f with
  | 44 => c_branch_airway_drop
  | _ => fun _ _ => none) with mm := some 3 }
theorem branch_Flow_1_env_ok : ∀ f, Tells Try.prog f (branch_Flow_1_env.fs f) := by
  intro f
  by_cases h0 : f = 44
  · subst h0; exact branch_airway_drop_tells
  have : branch_Flow_1_env.fs f = fun _ _ => none := by
    unfold branch_Flow_1_env envS
    dsimp only
    split
    · exact absurd rfl h0
    · rfl
  rw [this]
  exact Tells.none_ f
theorem branch_Flow_1_run (p : Int × Sairway × Int) : arun branch_Flow_1_env Try.f48 (branch_Flow_1_enc p).1 (branch_Flow_1_enc p).2 = (branch_Flow_1_t p.1 p.2.1 p.2.2).run fun r => some (branch_Flow_1_av r, branch_Flow_1_outs (branch_Flow_1_enc p).2 r) := by kernel_rfl
attribute [local irreducible] arun in
theorem branch_Flow_1_tells : Tells Try.prog 48 c_branch_Flow_1 :=
  told_tells (E := branch_Flow_1_env) (enc := branch_Flow_1_enc) (av := branch_Flow_1_av) (outs := branch_Flow_1_outs) (t := fun p : Int × Sairway × Int => branch_Flow_1_t p.1 p.2.1 p.2.2) (by kernel_rfl) branch_Flow_1_env_ok Try.func48 (fun c _ => loops_none (E := { branch_Flow_1_env with nt := Try.f48.ntmps }) (fun _ => rfl) c) branch_Flow_1_run
noncomputable def branch_Flow_1 (flow : Int) (x : Sairway) (x2 : Int) : Option (Bool) := gOfA branch_Flow_1_enc (fun p => (branch_Flow_1_t p.1 p.2.1 p.2.2).get) (branch_Flow_1_encC flow x x2).1 (branch_Flow_1_encC flow x x2).2
theorem branch_Flow_1_eq (flow : Int) (x : Sairway) (x2 : Int) : branch_Flow_1 flow x x2 = (branch_Flow_1_t flow x x2).get := congrFun (gOfA_eq branch_Flow_1_inj (fun p => (branch_Flow_1_t p.1 p.2.1 p.2.2).get)) (flow, x, x2)

/-! ### minecontrol/branch.first$1 -/
def branch_first_1_encC (i : Int) (y1 : Sairway) (y2 : Int) : List AV × List Blk := ([.int .i64 i, .ptr 0 0], [.var [.fn 48 [.ptr 1 0, .ptr 2 0]], .var [.int .i64 y1.Road.From, .int .i64 y1.Road.To, .int .i64 y1.Road.Length, .int .i64 y1.Road.Area, .bool y1.Road.Walk, .bool y1.Road.Closed, .int .i64 y1.Road.Rest.Low, .int .i64 y1.Road.Rest.High, .int .i64 y1.Road.Lift.Low, .int .i64 y1.Road.Lift.High, .own 3 0], .var [.int .i64 y2], .row 0 5 y1.blowers_.n 106 (fun k2849 => (Sblower.enc (y1.blowers_.f k2849)))])
def branch_first_1_enc (p : Int × Sairway × Int) : List AV × List Blk := branch_first_1_encC p.1 p.2.1 p.2.2
theorem branch_first_1_inj (p q : Int × Sairway × Int) (h : branch_first_1_enc p = branch_first_1_enc q) : p = q :=
  (Prod.ext (show p.1 = q.1 from congrArg intA (congrArg (fun x : List AV × List Blk => x.1.getD 0 .undef) h)) (Prod.ext (Sairway.ext2 (SRoad.ext2 (show p.2.1.Road.From = q.2.1.Road.From from congrArg intA (congrArg (fun x : List AV × List Blk => cellB x.2 1 0) h)) (show p.2.1.Road.To = q.2.1.Road.To from congrArg intA (congrArg (fun x : List AV × List Blk => cellB x.2 1 1) h)) (show p.2.1.Road.Length = q.2.1.Road.Length from congrArg intA (congrArg (fun x : List AV × List Blk => cellB x.2 1 2) h)) (show p.2.1.Road.Area = q.2.1.Road.Area from congrArg intA (congrArg (fun x : List AV × List Blk => cellB x.2 1 3) h)) (show p.2.1.Road.Walk = q.2.1.Road.Walk from congrArg boolA (congrArg (fun x : List AV × List Blk => cellB x.2 1 4) h)) (show p.2.1.Road.Closed = q.2.1.Road.Closed from congrArg boolA (congrArg (fun x : List AV × List Blk => cellB x.2 1 5) h)) (SSpan.ext2 (show p.2.1.Road.Rest.Low = q.2.1.Road.Rest.Low from congrArg intA (congrArg (fun x : List AV × List Blk => cellB x.2 1 6) h)) (show p.2.1.Road.Rest.High = q.2.1.Road.Rest.High from congrArg intA (congrArg (fun x : List AV × List Blk => cellB x.2 1 7) h))) (SSpan.ext2 (show p.2.1.Road.Lift.Low = q.2.1.Road.Lift.Low from congrArg intA (congrArg (fun x : List AV × List Blk => cellB x.2 1 8) h)) (show p.2.1.Road.Lift.High = q.2.1.Road.Lift.High from congrArg intA (congrArg (fun x : List AV × List Blk => cellB x.2 1 9) h)))) (Sq.row_inj Sblower.inj (a := p.2.1.blowers_) (b := q.2.1.blowers_) (congrArg (fun x : List AV × List Blk => x.2.getD 3 (.dead 0)) h))) (show p.2.2 = q.2.2 from congrArg intA (congrArg (fun x : List AV × List Blk => cellB x.2 2 0) h))))
noncomputable def branch_first_1_t (i : Int) (y1 : Sairway) (y2 : Int) : DT (Bool) :=
  .bind (branch_Flow_1 (wr (i - (1048576 : Int))) y1 y2) fun z2147 =>
  .leaf z2147
def branch_first_1_av (r : Bool) : AV := .bool r
def branch_first_1_outs (ins : List Blk) (_ : Bool) : List Blk := [ins.getD 0 (.dead 0), ins.getD 1 (.dead 0), ins.getD 2 (.dead 0), ins.getD 3 (.dead 0)]
noncomputable def c_branch_first_1 : List AV → List Blk → Option Ans := told branch_first_1_enc (fun p => (branch_first_1_t p.1 p.2.1 p.2.2).get) branch_first_1_av branch_first_1_outs false (fun h => by cases h)
noncomputable def branch_first_1_env : Env := { envS (fun f => match f with
  | 48 => c_branch_Flow_1
  | _ => fun _ _ => none) with mm := some 4 }
theorem branch_first_1_env_ok : ∀ f, Tells Try.prog f (branch_first_1_env.fs f) := by
  intro f
  by_cases h0 : f = 48
  · subst h0; exact branch_Flow_1_tells
  have : branch_first_1_env.fs f = fun _ _ => none := by
    unfold branch_first_1_env envS
    dsimp only
    split
    · exact absurd rfl h0
    · rfl
  rw [this]
  exact Tells.none_ f
theorem branch_first_1_run (p : Int × Sairway × Int) : arun branch_first_1_env Try.f69 (branch_first_1_enc p).1 (branch_first_1_enc p).2 = (branch_first_1_t p.1 p.2.1 p.2.2).run fun r => some (branch_first_1_av r, branch_first_1_outs (branch_first_1_enc p).2 r) := by kernel_rfl
attribute [local irreducible] arun in
theorem branch_first_1_tells : Tells Try.prog 69 c_branch_first_1 :=
  told_tells (E := branch_first_1_env) (enc := branch_first_1_enc) (av := branch_first_1_av) (outs := branch_first_1_outs) (t := fun p : Int × Sairway × Int => branch_first_1_t p.1 p.2.1 p.2.2) (by kernel_rfl) branch_first_1_env_ok Try.func69 (fun c _ => loops_none (E := { branch_first_1_env with nt := Try.f69.ntmps }) (fun _ => rfl) c) branch_first_1_run
noncomputable def branch_first_1 (i : Int) (y1 : Sairway) (y2 : Int) : Option (Bool) := gOfA branch_first_1_enc (fun p => (branch_first_1_t p.1 p.2.1 p.2.2).get) (branch_first_1_encC i y1 y2).1 (branch_first_1_encC i y1 y2).2
theorem branch_first_1_eq (i : Int) (y1 : Sairway) (y2 : Int) : branch_first_1 i y1 y2 = (branch_first_1_t i y1 y2).get := congrFun (gOfA_eq branch_first_1_inj (fun p => (branch_first_1_t p.1 p.2.1 p.2.2).get)) (i, y1, y2)

/-! ### sort.Search -/
def sort_Search_encC (n : Int) (y1 : Sairway) (y2 : Int) : List AV × List Blk := ([.int .i64 n, .fn 69 [.ptr 0 0]], [.var [.fn 48 [.ptr 1 0, .ptr 2 0]], .var [.int .i64 y1.Road.From, .int .i64 y1.Road.To, .int .i64 y1.Road.Length, .int .i64 y1.Road.Area, .bool y1.Road.Walk, .bool y1.Road.Closed, .int .i64 y1.Road.Rest.Low, .int .i64 y1.Road.Rest.High, .int .i64 y1.Road.Lift.Low, .int .i64 y1.Road.Lift.High, .own 3 0], .var [.int .i64 y2], .row 0 5 y1.blowers_.n 106 (fun k2850 => (Sblower.enc (y1.blowers_.f k2850)))])
def sort_Search_enc (p : Int × Sairway × Int) : List AV × List Blk := sort_Search_encC p.1 p.2.1 p.2.2
theorem sort_Search_inj (p q : Int × Sairway × Int) (h : sort_Search_enc p = sort_Search_enc q) : p = q :=
  (Prod.ext (show p.1 = q.1 from congrArg intA (congrArg (fun x : List AV × List Blk => x.1.getD 0 .undef) h)) (Prod.ext (Sairway.ext2 (SRoad.ext2 (show p.2.1.Road.From = q.2.1.Road.From from congrArg intA (congrArg (fun x : List AV × List Blk => cellB x.2 1 0) h)) (show p.2.1.Road.To = q.2.1.Road.To from congrArg intA (congrArg (fun x : List AV × List Blk => cellB x.2 1 1) h)) (show p.2.1.Road.Length = q.2.1.Road.Length from congrArg intA (congrArg (fun x : List AV × List Blk => cellB x.2 1 2) h)) (show p.2.1.Road.Area = q.2.1.Road.Area from congrArg intA (congrArg (fun x : List AV × List Blk => cellB x.2 1 3) h)) (show p.2.1.Road.Walk = q.2.1.Road.Walk from congrArg boolA (congrArg (fun x : List AV × List Blk => cellB x.2 1 4) h)) (show p.2.1.Road.Closed = q.2.1.Road.Closed from congrArg boolA (congrArg (fun x : List AV × List Blk => cellB x.2 1 5) h)) (SSpan.ext2 (show p.2.1.Road.Rest.Low = q.2.1.Road.Rest.Low from congrArg intA (congrArg (fun x : List AV × List Blk => cellB x.2 1 6) h)) (show p.2.1.Road.Rest.High = q.2.1.Road.Rest.High from congrArg intA (congrArg (fun x : List AV × List Blk => cellB x.2 1 7) h))) (SSpan.ext2 (show p.2.1.Road.Lift.Low = q.2.1.Road.Lift.Low from congrArg intA (congrArg (fun x : List AV × List Blk => cellB x.2 1 8) h)) (show p.2.1.Road.Lift.High = q.2.1.Road.Lift.High from congrArg intA (congrArg (fun x : List AV × List Blk => cellB x.2 1 9) h)))) (Sq.row_inj Sblower.inj (a := p.2.1.blowers_) (b := q.2.1.blowers_) (congrArg (fun x : List AV × List Blk => x.2.getD 3 (.dead 0)) h))) (show p.2.2 = q.2.2 from congrArg intA (congrArg (fun x : List AV × List Blk => cellB x.2 2 0) h))))
def sort_Search_l2_s (p : (Int × Int × Int × Int × Bool × Bool × Int × Int × Int × Int × Int × (Sq Sblower)) × (Int × Int)) : St := ⟨[(1, .fn 69 [.ptr 0 0]), (5, .int .i64 p.2.2), (6, .int .i64 p.2.1)], [(0, .var [.fn 48 [.ptr 1 0, .ptr 2 0]]), (1, .var [.int .i64 p.1.1, .int .i64 p.1.2.1, .int .i64 p.1.2.2.1, .int .i64 p.1.2.2.2.1, .bool p.1.2.2.2.2.1, .bool p.1.2.2.2.2.2.1, .int .i64 p.1.2.2.2.2.2.2.1, .int .i64 p.1.2.2.2.2.2.2.2.1, .int .i64 p.1.2.2.2.2.2.2.2.2.1, .int .i64 p.1.2.2.2.2.2.2.2.2.2.1, .own 3 0]), (2, .var [.int .i64 p.1.2.2.2.2.2.2.2.2.2.2.1]), (3, .row 0 5 p.1.2.2.2.2.2.2.2.2.2.2.2.n 106 (fun k2851 => (Sblower.enc (p.1.2.2.2.2.2.2.2.2.2.2.2.f k2851))))], 260⟩
theorem sort_Search_l2_inj (p q : (Int × Int × Int × Int × Bool × Bool × Int × Int × Int × Int × Int × (Sq Sblower)) × (Int × Int)) (h : sort_Search_l2_s p = sort_Search_l2_s q) : p = q :=
  Prod.ext (Prod.ext (show p.1.1 = q.1.1 from congrArg intA (congrArg (fun x : St => cellS x 1 0) h)) (Prod.ext (show p.1.2.1 = q.1.2.1 from congrArg intA (congrArg (fun x : St => cellS x 1 1) h)) (Prod.ext (show p.1.2.2.1 = q.1.2.2.1 from congrArg intA (congrArg (fun x : St => cellS x 1 2) h)) (Prod.ext (show p.1.2.2.2.1 = q.1.2.2.2.1 from congrArg intA (congrArg (fun x : St => cellS x 1 3) h)) (Prod.ext (show p.1.2.2.2.2.1 = q.1.2.2.2.2.1 from congrArg boolA (congrArg (fun x : St => cellS x 1 4) h)) (Prod.ext (show p.1.2.2.2.2.2.1 = q.1.2.2.2.2.2.1 from congrArg boolA (congrArg (fun x : St => cellS x 1 5) h)) (Prod.ext (show p.1.2.2.2.2.2.2.1 = q.1.2.2.2.2.2.2.1 from congrArg intA (congrArg (fun x : St => cellS x 1 6) h)) (Prod.ext (show p.1.2.2.2.2.2.2.2.1 = q.1.2.2.2.2.2.2.2.1 from congrArg intA (congrArg (fun x : St => cellS x 1 7) h)) (Prod.ext (show p.1.2.2.2.2.2.2.2.2.1 = q.1.2.2.2.2.2.2.2.2.1 from congrArg intA (congrArg (fun x : St => cellS x 1 8) h)) (Prod.ext (show p.1.2.2.2.2.2.2.2.2.2.1 = q.1.2.2.2.2.2.2.2.2.2.1 from congrArg intA (congrArg (fun x : St => cellS x 1 9) h)) (Prod.ext (show p.1.2.2.2.2.2.2.2.2.2.2.1 = q.1.2.2.2.2.2.2.2.2.2.2.1 from congrArg intA (congrArg (fun x : St => cellS x 2 0) h)) (Sq.row_inj Sblower.inj (a := p.1.2.2.2.2.2.2.2.2.2.2.2) (b := q.1.2.2.2.2.2.2.2.2.2.2.2) (congrArg (fun x : St => blkS x 3) h))))))))))))) (Prod.ext (show p.2.1 = q.2.1 from congrArg intA (congrArg (fun x : St => aget x.tm 6) h)) (show p.2.2 = q.2.2 from congrArg intA (congrArg (fun x : St => aget x.tm 5) h)))
noncomputable def sort_Search_l2_step (v2_1 : Int) (v2_2 : Int) (v2_3 : Int) (v2_4 : Int) (v2_5 : Bool) (v2_6 : Bool) (v2_7 : Int) (v2_8 : Int) (v2_9 : Int) (v2_10 : Int) (v2_11 : Int) (v2_12 : (Sq Sblower)) (j_2_0 : Int) (i_2_13 : Int) : DT (LR (Int × Int) (Int) (Unit)) :=
  .ite (decide (i_2_13 < j_2_0)) (
    .bind (branch_first_1 (wr ((IntKind.u64.wrap (wr (i_2_13 + j_2_0))) / 2 ^ (Int.toNat (1 : Int)))) (Sairway.mk (SRoad.mk v2_1 v2_2 v2_3 v2_4 v2_5 v2_6 (SSpan.mk v2_7 v2_8) (SSpan.mk v2_9 v2_10)) v2_12) v2_11) fun z2151 =>
    .ite (!z2151) (
      .leaf (.next (j_2_0, (wr ((wr ((IntKind.u64.wrap (wr (i_2_13 + j_2_0))) / 2 ^ (Int.toNat (1 : Int)))) + (1 : Int)))))) (
      .leaf (.next ((wr ((IntKind.u64.wrap (wr (i_2_13 + j_2_0))) / 2 ^ (Int.toNat (1 : Int)))), i_2_13)))) (
    .leaf (.l i_2_13))
def sort_Search_l2_el (x : St) (a : Int) : St := ⟨[(5, .int .i64 a)], [(0, .var [.fn 48 [.ptr 1 0, .ptr 2 0]]), (1, blkS x 1), (2, blkS x 2), (3, blkS x 3)], 260⟩
def sort_Search_l2_er (_ : St) (_ : Unit) : St := ⟨[], [], 0⟩
noncomputable def sort_Search_l2_f (p : (Int × Int × Int × Int × Bool × Bool × Int × Int × Int × Int × Int × (Sq Sblower)) × (Int × Int)) : Option ((Int) ⊕ (Unit)) := fixO (fun v : Int × Int => sort_Search_l2_step p.1.1 p.1.2.1 p.1.2.2.1 p.1.2.2.2.1 p.1.2.2.2.2.1 p.1.2.2.2.2.2.1 p.1.2.2.2.2.2.2.1 p.1.2.2.2.2.2.2.2.1 p.1.2.2.2.2.2.2.2.2.1 p.1.2.2.2.2.2.2.2.2.2.1 p.1.2.2.2.2.2.2.2.2.2.2.1 p.1.2.2.2.2.2.2.2.2.2.2.2 v.1 v.2) p.2
noncomputable def sort_Search_l2_c : St → Option LRes := loopM sort_Search_l2_s sort_Search_l2_f true (.exit 0) sort_Search_l2_el .ret sort_Search_l2_er
noncomputable def sort_Search_l2 (v2_1 : Int) (v2_2 : Int) (v2_3 : Int) (v2_4 : Int) (v2_5 : Bool) (v2_6 : Bool) (v2_7 : Int) (v2_8 : Int) (v2_9 : Int) (v2_10 : Int) (v2_11 : Int) (v2_12 : (Sq Sblower)) (j_2_0 : Int) (i_2_13 : Int) : Option ((Int) ⊕ (Unit)) := gOfS sort_Search_l2_s sort_Search_l2_f (sort_Search_l2_s ((v2_1, v2_2, v2_3, v2_4, v2_5, v2_6, v2_7, v2_8, v2_9, v2_10, v2_11, v2_12), (j_2_0, i_2_13)))
theorem sort_Search_l2_eq (v2_1 : Int) (v2_2 : Int) (v2_3 : Int) (v2_4 : Int) (v2_5 : Bool) (v2_6 : Bool) (v2_7 : Int) (v2_8 : Int) (v2_9 : Int) (v2_10 : Int) (v2_11 : Int) (v2_12 : (Sq Sblower)) (j_2_0 : Int) (i_2_13 : Int) : sort_Search_l2 v2_1 v2_2 v2_3 v2_4 v2_5 v2_6 v2_7 v2_8 v2_9 v2_10 v2_11 v2_12 j_2_0 i_2_13 = fixO (fun v : Int × Int => sort_Search_l2_step v2_1 v2_2 v2_3 v2_4 v2_5 v2_6 v2_7 v2_8 v2_9 v2_10 v2_11 v2_12 v.1 v.2) (j_2_0, i_2_13) := gOfS_eq sort_Search_l2_inj sort_Search_l2_f ((v2_1, v2_2, v2_3, v2_4, v2_5, v2_6, v2_7, v2_8, v2_9, v2_10, v2_11, v2_12), (j_2_0, i_2_13))
noncomputable def sort_Search_t (n : Int) (y1 : Sairway) (y2 : Int) : DT (Int) :=
  .sum (sort_Search_l2 y1.Road.From y1.Road.To y1.Road.Length y1.Road.Area y1.Road.Walk y1.Road.Closed y1.Road.Rest.Low y1.Road.Rest.High y1.Road.Lift.Low y1.Road.Lift.High y2 y1.blowers_ n (0 : Int)) (fun y2152 =>
    .leaf y2152) (fun _ =>
    .fail)
def sort_Search_av (r : Int) : AV := .int .i64 r
def sort_Search_outs (ins : List Blk) (_ : Int) : List Blk := [ins.getD 0 (.dead 0), ins.getD 1 (.dead 0), ins.getD 2 (.dead 0), ins.getD 3 (.dead 0)]
noncomputable def c_sort_Search : List AV → List Blk → Option Ans := told sort_Search_enc (fun p => (sort_Search_t p.1 p.2.1 p.2.2).get) sort_Search_av sort_Search_outs false (fun h => by cases h)
noncomputable def sort_Search_env : Env := { envS (fun f => match f with
  | 69 => c_branch_first_1
  | _ => fun _ _ => none) (fun r => match r with | 2 => some ([1, 5, 6], [5]) | _ => none) with loops := fun r => match r with | 2 => some sort_Search_l2_c | _ => none, gc := fun r => match r with | 2 => some [0, 1, 2, 3] | _ => none, mm := some 4 }
theorem sort_Search_env_ok : ∀ f, Tells Try.prog f (sort_Search_env.fs f) := by
  intro f
  by_cases h0 : f = 69
  · subst h0; exact branch_first_1_tells
  have : sort_Search_env.fs f = fun _ _ => none := by
    unfold sort_Search_env envS
    dsimp only
    split
    · exact absurd rfl h0
    · rfl
  rw [this]
  exact Tells.none_ f
noncomputable def sort_Search_e : Env := { sort_Search_env with nt := 26 }
noncomputable def sort_Search_l2_b : Code := loopOf 2 Try.f68
theorem sort_Search_l2_round {R : Type} (fx : Int × Int × Int × Int × Bool × Bool × Int × Int × Int × Int × Int × (Sq Sblower)) (v : Int × Int) (N : Nat) (K : AX → St → Option R) : aloop (fun s j => aexec sort_Search_e sort_Search_l2_b s j) (headOf sort_Search_e sort_Search_l2_b 260) (exitOf sort_Search_e sort_Search_l2_b 260) (N + 1) (sort_Search_l2_s (fx, v)) K = (sort_Search_l2_step fx.1 fx.2.1 fx.2.2.1 fx.2.2.2.1 fx.2.2.2.2.1 fx.2.2.2.2.2.1 fx.2.2.2.2.2.2.1 fx.2.2.2.2.2.2.2.1 fx.2.2.2.2.2.2.2.2.1 fx.2.2.2.2.2.2.2.2.2.1 fx.2.2.2.2.2.2.2.2.2.2.1 fx.2.2.2.2.2.2.2.2.2.2.2 v.1 v.2).run (LR.elim
    (fun v' => aloop (fun s j => aexec sort_Search_e sort_Search_l2_b s j) (headOf sort_Search_e sort_Search_l2_b 260) (exitOf sort_Search_e sort_Search_l2_b 260) N (sort_Search_l2_s (fx, v')) K)
    (fun a => K (.exit 0) (sort_Search_l2_el (sort_Search_l2_s (fx, v)) a))
    (fun a => K .ret (sort_Search_l2_er (sort_Search_l2_s (fx, v)) a))) := by kernel_rfl
theorem sort_Search_l2_tells : LoopTells sort_Search_e sort_Search_l2_b sort_Search_l2_c :=
  loopM_tells (s := sort_Search_l2_s) (stl := sort_Search_l2_el) (str := sort_Search_l2_er) (step := fun (fx : Int × Int × Int × Int × Bool × Bool × Int × Int × Int × Int × Int × (Sq Sblower)) (v : Int × Int) => sort_Search_l2_step fx.1 fx.2.1 fx.2.2.1 fx.2.2.2.1 fx.2.2.2.2.1 fx.2.2.2.2.2.1 fx.2.2.2.2.2.2.1 fx.2.2.2.2.2.2.2.1 fx.2.2.2.2.2.2.2.2.1 fx.2.2.2.2.2.2.2.2.2.1 fx.2.2.2.2.2.2.2.2.2.2.1 fx.2.2.2.2.2.2.2.2.2.2.2 v.1 v.2) (n := 260) (fun _ => rfl) (fun _ _ _ _ => rfl) (fun _ _ _ _ => rfl) sort_Search_l2_round
theorem sort_Search_run (p : Int × Sairway × Int) : arun sort_Search_env Try.f68 (sort_Search_enc p).1 (sort_Search_enc p).2 = (sort_Search_t p.1 p.2.1 p.2.2).run fun r => some (sort_Search_av r, sort_Search_outs (sort_Search_enc p).2 r) := by kernel_rfl
theorem sort_Search_loops : ∀ c, Try.f68.body = some c → LoopsOK { sort_Search_env with nt := Try.f68.ntmps } c := by
  intro c hc
  refine loops_of c fun c' hc' f hf => ?_
  have hb : loopsOf c = [sort_Search_l2_b] := by
    have : Try.f68.body.map loopsOf = some [sort_Search_l2_b] := by kernel_rfl
    rw [hc] at this
    injection this
  rw [hb] at hc'
  clear hb
  obtain rfl := List.mem_singleton.1 hc'
  have h6 : firstReg sort_Search_l2_b = 2 := by kernel_rfl
  rw [h6] at hf
  obtain rfl := Option.some.inj hf
  exact sort_Search_l2_tells
attribute [local irreducible] arun in
theorem sort_Search_tells : Tells Try.prog 68 c_sort_Search :=
  told_tells (E := sort_Search_env) (enc := sort_Search_enc) (av := sort_Search_av) (outs := sort_Search_outs) (t := fun p : Int × Sairway × Int => sort_Search_t p.1 p.2.1 p.2.2) (by kernel_rfl) sort_Search_env_ok Try.func68 sort_Search_loops sort_Search_run
noncomputable def sort_Search (n : Int) (y1 : Sairway) (y2 : Int) : Option (Int) := gOfA sort_Search_enc (fun p => (sort_Search_t p.1 p.2.1 p.2.2).get) (sort_Search_encC n y1 y2).1 (sort_Search_encC n y1 y2).2
theorem sort_Search_eq (n : Int) (y1 : Sairway) (y2 : Int) : sort_Search n y1 y2 = (sort_Search_t n y1 y2).get := congrFun (gOfA_eq sort_Search_inj (fun p => (sort_Search_t p.1 p.2.1 p.2.2).get)) (n, y1, y2)

/-! ### minecontrol/branch.first -/
def branch_first_encC (y0 : Sairway) (y1 : Int) : List AV × List Blk := ([.fn 48 [.ptr 0 0, .ptr 1 0]], [.var [.int .i64 y0.Road.From, .int .i64 y0.Road.To, .int .i64 y0.Road.Length, .int .i64 y0.Road.Area, .bool y0.Road.Walk, .bool y0.Road.Closed, .int .i64 y0.Road.Rest.Low, .int .i64 y0.Road.Rest.High, .int .i64 y0.Road.Lift.Low, .int .i64 y0.Road.Lift.High, .own 2 0], .var [.int .i64 y1], .row 0 5 y0.blowers_.n 106 (fun k2852 => (Sblower.enc (y0.blowers_.f k2852)))])
def branch_first_enc (p : Sairway × Int) : List AV × List Blk := branch_first_encC p.1 p.2
theorem branch_first_inj (p q : Sairway × Int) (h : branch_first_enc p = branch_first_enc q) : p = q :=
  (Prod.ext (Sairway.ext2 (SRoad.ext2 (show p.1.Road.From = q.1.Road.From from congrArg intA (congrArg (fun x : List AV × List Blk => cellB x.2 0 0) h)) (show p.1.Road.To = q.1.Road.To from congrArg intA (congrArg (fun x : List AV × List Blk => cellB x.2 0 1) h)) (show p.1.Road.Length = q.1.Road.Length from congrArg intA (congrArg (fun x : List AV × List Blk => cellB x.2 0 2) h)) (show p.1.Road.Area = q.1.Road.Area from congrArg intA (congrArg (fun x : List AV × List Blk => cellB x.2 0 3) h)) (show p.1.Road.Walk = q.1.Road.Walk from congrArg boolA (congrArg (fun x : List AV × List Blk => cellB x.2 0 4) h)) (show p.1.Road.Closed = q.1.Road.Closed from congrArg boolA (congrArg (fun x : List AV × List Blk => cellB x.2 0 5) h)) (SSpan.ext2 (show p.1.Road.Rest.Low = q.1.Road.Rest.Low from congrArg intA (congrArg (fun x : List AV × List Blk => cellB x.2 0 6) h)) (show p.1.Road.Rest.High = q.1.Road.Rest.High from congrArg intA (congrArg (fun x : List AV × List Blk => cellB x.2 0 7) h))) (SSpan.ext2 (show p.1.Road.Lift.Low = q.1.Road.Lift.Low from congrArg intA (congrArg (fun x : List AV × List Blk => cellB x.2 0 8) h)) (show p.1.Road.Lift.High = q.1.Road.Lift.High from congrArg intA (congrArg (fun x : List AV × List Blk => cellB x.2 0 9) h)))) (Sq.row_inj Sblower.inj (a := p.1.blowers_) (b := q.1.blowers_) (congrArg (fun x : List AV × List Blk => x.2.getD 2 (.dead 0)) h))) (show p.2 = q.2 from congrArg intA (congrArg (fun x : List AV × List Blk => cellB x.2 1 0) h)))
noncomputable def branch_first_t (y0 : Sairway) (y1 : Int) : DT (Int) :=
  .bind (sort_Search (2097153 : Int) y0 y1) fun z2153 =>
  .leaf (wr (z2153 - (1048576 : Int)))
def branch_first_av (r : Int) : AV := .int .i64 r
def branch_first_outs (ins : List Blk) (_ : Int) : List Blk := [ins.getD 0 (.dead 0), ins.getD 1 (.dead 0), ins.getD 2 (.dead 0)]
noncomputable def c_branch_first : List AV → List Blk → Option Ans := told branch_first_enc (fun p => (branch_first_t p.1 p.2).get) branch_first_av branch_first_outs false (fun h => by cases h)
noncomputable def branch_first_env : Env := { envS (fun f => match f with
  | 68 => c_sort_Search
  | _ => fun _ _ => none) with mm := some 3 }
theorem branch_first_env_ok : ∀ f, Tells Try.prog f (branch_first_env.fs f) := by
  intro f
  by_cases h0 : f = 68
  · subst h0; exact sort_Search_tells
  have : branch_first_env.fs f = fun _ _ => none := by
    unfold branch_first_env envS
    dsimp only
    split
    · exact absurd rfl h0
    · rfl
  rw [this]
  exact Tells.none_ f
theorem branch_first_run (p : Sairway × Int) : arun branch_first_env Try.f47 (branch_first_enc p).1 (branch_first_enc p).2 = (branch_first_t p.1 p.2).run fun r => some (branch_first_av r, branch_first_outs (branch_first_enc p).2 r) := by kernel_rfl
attribute [local irreducible] arun in
theorem branch_first_tells : Tells Try.prog 47 c_branch_first :=
  told_tells (E := branch_first_env) (enc := branch_first_enc) (av := branch_first_av) (outs := branch_first_outs) (t := fun p : Sairway × Int => branch_first_t p.1 p.2) (by kernel_rfl) branch_first_env_ok Try.func47 (fun c _ => loops_none (E := { branch_first_env with nt := Try.f47.ntmps }) (fun _ => rfl) c) branch_first_run
noncomputable def branch_first (y0 : Sairway) (y1 : Int) : Option (Int) := gOfA branch_first_enc (fun p => (branch_first_t p.1 p.2).get) (branch_first_encC y0 y1).1 (branch_first_encC y0 y1).2
theorem branch_first_eq (y0 : Sairway) (y1 : Int) : branch_first y0 y1 = (branch_first_t y0 y1).get := congrFun (gOfA_eq branch_first_inj (fun p => (branch_first_t p.1 p.2).get)) (y0, y1)

/-! ### minecontrol/branch.Flow$2 -/
def branch_Flow_2_encC (flow : Int) (x : Sairway) (x2 : Int) : List AV × List Blk := ([.int .i64 flow, .ptr 0 0, .ptr 1 0], [.var [.int .i64 x.Road.From, .int .i64 x.Road.To, .int .i64 x.Road.Length, .int .i64 x.Road.Area, .bool x.Road.Walk, .bool x.Road.Closed, .int .i64 x.Road.Rest.Low, .int .i64 x.Road.Rest.High, .int .i64 x.Road.Lift.Low, .int .i64 x.Road.Lift.High, .own 2 0], .var [.int .i64 x2], .row 0 5 x.blowers_.n 106 (fun k2853 => (Sblower.enc (x.blowers_.f k2853)))])
def branch_Flow_2_enc (p : Int × Sairway × Int) : List AV × List Blk := branch_Flow_2_encC p.1 p.2.1 p.2.2
theorem branch_Flow_2_inj (p q : Int × Sairway × Int) (h : branch_Flow_2_enc p = branch_Flow_2_enc q) : p = q :=
  (Prod.ext (show p.1 = q.1 from congrArg intA (congrArg (fun x : List AV × List Blk => x.1.getD 0 .undef) h)) (Prod.ext (Sairway.ext2 (SRoad.ext2 (show p.2.1.Road.From = q.2.1.Road.From from congrArg intA (congrArg (fun x : List AV × List Blk => cellB x.2 0 0) h)) (show p.2.1.Road.To = q.2.1.Road.To from congrArg intA (congrArg (fun x : List AV × List Blk => cellB x.2 0 1) h)) (show p.2.1.Road.Length = q.2.1.Road.Length from congrArg intA (congrArg (fun x : List AV × List Blk => cellB x.2 0 2) h)) (show p.2.1.Road.Area = q.2.1.Road.Area from congrArg intA (congrArg (fun x : List AV × List Blk => cellB x.2 0 3) h)) (show p.2.1.Road.Walk = q.2.1.Road.Walk from congrArg boolA (congrArg (fun x : List AV × List Blk => cellB x.2 0 4) h)) (show p.2.1.Road.Closed = q.2.1.Road.Closed from congrArg boolA (congrArg (fun x : List AV × List Blk => cellB x.2 0 5) h)) (SSpan.ext2 (show p.2.1.Road.Rest.Low = q.2.1.Road.Rest.Low from congrArg intA (congrArg (fun x : List AV × List Blk => cellB x.2 0 6) h)) (show p.2.1.Road.Rest.High = q.2.1.Road.Rest.High from congrArg intA (congrArg (fun x : List AV × List Blk => cellB x.2 0 7) h))) (SSpan.ext2 (show p.2.1.Road.Lift.Low = q.2.1.Road.Lift.Low from congrArg intA (congrArg (fun x : List AV × List Blk => cellB x.2 0 8) h)) (show p.2.1.Road.Lift.High = q.2.1.Road.Lift.High from congrArg intA (congrArg (fun x : List AV × List Blk => cellB x.2 0 9) h)))) (Sq.row_inj Sblower.inj (a := p.2.1.blowers_) (b := q.2.1.blowers_) (congrArg (fun x : List AV × List Blk => x.2.getD 2 (.dead 0)) h))) (show p.2.2 = q.2.2 from congrArg intA (congrArg (fun x : List AV × List Blk => cellB x.2 1 0) h))))
noncomputable def branch_Flow_2_t (flow : Int) (x : Sairway) (x2 : Int) : DT (Bool) :=
  .bind (branch_airway_drop x flow) fun z2155 =>
  .leaf (decide (z2155.Low ≥ x2))
def branch_Flow_2_av (r : Bool) : AV := .bool r
def branch_Flow_2_outs (ins : List Blk) (_ : Bool) : List Blk := [ins.getD 0 (.dead 0), ins.getD 1 (.dead 0), ins.getD 2 (.dead 0)]
noncomputable def c_branch_Flow_2 : List AV → List Blk → Option Ans := told branch_Flow_2_enc (fun p => (branch_Flow_2_t p.1 p.2.1 p.2.2).get) branch_Flow_2_av branch_Flow_2_outs false (fun h => by cases h)
noncomputable def branch_Flow_2_env : Env := { envS (fun f => match f with
  | 44 => c_branch_airway_drop
  | _ => fun _ _ => none) with mm := some 3 }
theorem branch_Flow_2_env_ok : ∀ f, Tells Try.prog f (branch_Flow_2_env.fs f) := by
  intro f
  by_cases h0 : f = 44
  · subst h0; exact branch_airway_drop_tells
  have : branch_Flow_2_env.fs f = fun _ _ => none := by
    unfold branch_Flow_2_env envS
    dsimp only
    split
    · exact absurd rfl h0
    · rfl
  rw [this]
  exact Tells.none_ f
theorem branch_Flow_2_run (p : Int × Sairway × Int) : arun branch_Flow_2_env Try.f49 (branch_Flow_2_enc p).1 (branch_Flow_2_enc p).2 = (branch_Flow_2_t p.1 p.2.1 p.2.2).run fun r => some (branch_Flow_2_av r, branch_Flow_2_outs (branch_Flow_2_enc p).2 r) := by kernel_rfl
attribute [local irreducible] arun in
theorem branch_Flow_2_tells : Tells Try.prog 49 c_branch_Flow_2 :=
  told_tells (E := branch_Flow_2_env) (enc := branch_Flow_2_enc) (av := branch_Flow_2_av) (outs := branch_Flow_2_outs) (t := fun p : Int × Sairway × Int => branch_Flow_2_t p.1 p.2.1 p.2.2) (by kernel_rfl) branch_Flow_2_env_ok Try.func49 (fun c _ => loops_none (E := { branch_Flow_2_env with nt := Try.f49.ntmps }) (fun _ => rfl) c) branch_Flow_2_run
noncomputable def branch_Flow_2 (flow : Int) (x : Sairway) (x2 : Int) : Option (Bool) := gOfA branch_Flow_2_enc (fun p => (branch_Flow_2_t p.1 p.2.1 p.2.2).get) (branch_Flow_2_encC flow x x2).1 (branch_Flow_2_encC flow x x2).2
theorem branch_Flow_2_eq (flow : Int) (x : Sairway) (x2 : Int) : branch_Flow_2 flow x x2 = (branch_Flow_2_t flow x x2).get := congrFun (gOfA_eq branch_Flow_2_inj (fun p => (branch_Flow_2_t p.1 p.2.1 p.2.2).get)) (flow, x, x2)

/-! ### minecontrol/branch.first$1 -/
def branch_first_1_v2_encC (i : Int) (y1 : Sairway) (y2 : Int) : List AV × List Blk := ([.int .i64 i, .ptr 0 0], [.var [.fn 49 [.ptr 1 0, .ptr 2 0]], .var [.int .i64 y1.Road.From, .int .i64 y1.Road.To, .int .i64 y1.Road.Length, .int .i64 y1.Road.Area, .bool y1.Road.Walk, .bool y1.Road.Closed, .int .i64 y1.Road.Rest.Low, .int .i64 y1.Road.Rest.High, .int .i64 y1.Road.Lift.Low, .int .i64 y1.Road.Lift.High, .own 3 0], .var [.int .i64 y2], .row 0 5 y1.blowers_.n 106 (fun k2854 => (Sblower.enc (y1.blowers_.f k2854)))])
def branch_first_1_v2_enc (p : Int × Sairway × Int) : List AV × List Blk := branch_first_1_v2_encC p.1 p.2.1 p.2.2
theorem branch_first_1_v2_inj (p q : Int × Sairway × Int) (h : branch_first_1_v2_enc p = branch_first_1_v2_enc q) : p = q :=
  (Prod.ext (show p.1 = q.1 from congrArg intA (congrArg (fun x : List AV × List Blk => x.1.getD 0 .undef) h)) (Prod.ext (Sairway.ext2 (SRoad.ext2 (show p.2.1.Road.From = q.2.1.Road.From from congrArg intA (congrArg (fun x : List AV × List Blk => cellB x.2 1 0) h)) (show p.2.1.Road.To = q.2.1.Road.To from congrArg intA (congrArg (fun x : List AV × List Blk => cellB x.2 1 1) h)) (show p.2.1.Road.Length = q.2.1.Road.Length from congrArg intA (congrArg (fun x : List AV × List Blk => cellB x.2 1 2) h)) (show p.2.1.Road.Area = q.2.1.Road.Area from congrArg intA (congrArg (fun x : List AV × List Blk => cellB x.2 1 3) h)) (show p.2.1.Road.Walk = q.2.1.Road.Walk from congrArg boolA (congrArg (fun x : List AV × List Blk => cellB x.2 1 4) h)) (show p.2.1.Road.Closed = q.2.1.Road.Closed from congrArg boolA (congrArg (fun x : List AV × List Blk => cellB x.2 1 5) h)) (SSpan.ext2 (show p.2.1.Road.Rest.Low = q.2.1.Road.Rest.Low from congrArg intA (congrArg (fun x : List AV × List Blk => cellB x.2 1 6) h)) (show p.2.1.Road.Rest.High = q.2.1.Road.Rest.High from congrArg intA (congrArg (fun x : List AV × List Blk => cellB x.2 1 7) h))) (SSpan.ext2 (show p.2.1.Road.Lift.Low = q.2.1.Road.Lift.Low from congrArg intA (congrArg (fun x : List AV × List Blk => cellB x.2 1 8) h)) (show p.2.1.Road.Lift.High = q.2.1.Road.Lift.High from congrArg intA (congrArg (fun x : List AV × List Blk => cellB x.2 1 9) h)))) (Sq.row_inj Sblower.inj (a := p.2.1.blowers_) (b := q.2.1.blowers_) (congrArg (fun x : List AV × List Blk => x.2.getD 3 (.dead 0)) h))) (show p.2.2 = q.2.2 from congrArg intA (congrArg (fun x : List AV × List Blk => cellB x.2 2 0) h))))
noncomputable def branch_first_1_v2_t (i : Int) (y1 : Sairway) (y2 : Int) : DT (Bool) :=
  .bind (branch_Flow_2 (wr (i - (1048576 : Int))) y1 y2) fun z2156 =>
  .leaf z2156
def branch_first_1_v2_av (r : Bool) : AV := .bool r
def branch_first_1_v2_outs (ins : List Blk) (_ : Bool) : List Blk := [ins.getD 0 (.dead 0), ins.getD 1 (.dead 0), ins.getD 2 (.dead 0), ins.getD 3 (.dead 0)]
noncomputable def c_branch_first_1_v2 : List AV → List Blk → Option Ans := told branch_first_1_v2_enc (fun p => (branch_first_1_v2_t p.1 p.2.1 p.2.2).get) branch_first_1_v2_av branch_first_1_v2_outs false (fun h => by cases h)
noncomputable def branch_first_1_v2_env : Env := { envS (fun f => match f with
  | 49 => c_branch_Flow_2
  | _ => fun _ _ => none) with mm := some 4 }
theorem branch_first_1_v2_env_ok : ∀ f, Tells Try.prog f (branch_first_1_v2_env.fs f) := by
  intro f
  by_cases h0 : f = 49
  · subst h0; exact branch_Flow_2_tells
  have : branch_first_1_v2_env.fs f = fun _ _ => none := by
    unfold branch_first_1_v2_env envS
    dsimp only
    split
    · exact absurd rfl h0
    · rfl
  rw [this]
  exact Tells.none_ f
theorem branch_first_1_v2_run (p : Int × Sairway × Int) : arun branch_first_1_v2_env Try.f69 (branch_first_1_v2_enc p).1 (branch_first_1_v2_enc p).2 = (branch_first_1_v2_t p.1 p.2.1 p.2.2).run fun r => some (branch_first_1_v2_av r, branch_first_1_v2_outs (branch_first_1_v2_enc p).2 r) := by kernel_rfl
attribute [local irreducible] arun in
theorem branch_first_1_v2_tells : Tells Try.prog 69 c_branch_first_1_v2 :=
  told_tells (E := branch_first_1_v2_env) (enc := branch_first_1_v2_enc) (av := branch_first_1_v2_av) (outs := branch_first_1_v2_outs) (t := fun p : Int × Sairway × Int => branch_first_1_v2_t p.1 p.2.1 p.2.2) (by kernel_rfl) branch_first_1_v2_env_ok Try.func69 (fun c _ => loops_none (E := { branch_first_1_v2_env with nt := Try.f69.ntmps }) (fun _ => rfl) c) branch_first_1_v2_run
noncomputable def branch_first_1_v2 (i : Int) (y1 : Sairway) (y2 : Int) : Option (Bool) := gOfA branch_first_1_v2_enc (fun p => (branch_first_1_v2_t p.1 p.2.1 p.2.2).get) (branch_first_1_v2_encC i y1 y2).1 (branch_first_1_v2_encC i y1 y2).2
theorem branch_first_1_v2_eq (i : Int) (y1 : Sairway) (y2 : Int) : branch_first_1_v2 i y1 y2 = (branch_first_1_v2_t i y1 y2).get := congrFun (gOfA_eq branch_first_1_v2_inj (fun p => (branch_first_1_v2_t p.1 p.2.1 p.2.2).get)) (i, y1, y2)

/-! ### sort.Search -/
def sort_Search_v2_encC (n : Int) (y1 : Sairway) (y2 : Int) : List AV × List Blk := ([.int .i64 n, .fn 69 [.ptr 0 0]], [.var [.fn 49 [.ptr 1 0, .ptr 2 0]], .var [.int .i64 y1.Road.From, .int .i64 y1.Road.To, .int .i64 y1.Road.Length, .int .i64 y1.Road.Area, .bool y1.Road.Walk, .bool y1.Road.Closed, .int .i64 y1.Road.Rest.Low, .int .i64 y1.Road.Rest.High, .int .i64 y1.Road.Lift.Low, .int .i64 y1.Road.Lift.High, .own 3 0], .var [.int .i64 y2], .row 0 5 y1.blowers_.n 106 (fun k2855 => (Sblower.enc (y1.blowers_.f k2855)))])
def sort_Search_v2_enc (p : Int × Sairway × Int) : List AV × List Blk := sort_Search_v2_encC p.1 p.2.1 p.2.2
theorem sort_Search_v2_inj (p q : Int × Sairway × Int) (h : sort_Search_v2_enc p = sort_Search_v2_enc q) : p = q :=
  (Prod.ext (show p.1 = q.1 from congrArg intA (congrArg (fun x : List AV × List Blk => x.1.getD 0 .undef) h)) (Prod.ext (Sairway.ext2 (SRoad.ext2 (show p.2.1.Road.From = q.2.1.Road.From from congrArg intA (congrArg (fun x : List AV × List Blk => cellB x.2 1 0) h)) (show p.2.1.Road.To = q.2.1.Road.To from congrArg intA (congrArg (fun x : List AV × List Blk => cellB x.2 1 1) h)) (show p.2.1.Road.Length = q.2.1.Road.Length from congrArg intA (congrArg (fun x : List AV × List Blk => cellB x.2 1 2) h)) (show p.2.1.Road.Area = q.2.1.Road.Area from congrArg intA (congrArg (fun x : List AV × List Blk => cellB x.2 1 3) h)) (show p.2.1.Road.Walk = q.2.1.Road.Walk from congrArg boolA (congrArg (fun x : List AV × List Blk => cellB x.2 1 4) h)) (show p.2.1.Road.Closed = q.2.1.Road.Closed from congrArg boolA (congrArg (fun x : List AV × List Blk => cellB x.2 1 5) h)) (SSpan.ext2 (show p.2.1.Road.Rest.Low = q.2.1.Road.Rest.Low from congrArg intA (congrArg (fun x : List AV × List Blk => cellB x.2 1 6) h)) (show p.2.1.Road.Rest.High = q.2.1.Road.Rest.High from congrArg intA (congrArg (fun x : List AV × List Blk => cellB x.2 1 7) h))) (SSpan.ext2 (show p.2.1.Road.Lift.Low = q.2.1.Road.Lift.Low from congrArg intA (congrArg (fun x : List AV × List Blk => cellB x.2 1 8) h)) (show p.2.1.Road.Lift.High = q.2.1.Road.Lift.High from congrArg intA (congrArg (fun x : List AV × List Blk => cellB x.2 1 9) h)))) (Sq.row_inj Sblower.inj (a := p.2.1.blowers_) (b := q.2.1.blowers_) (congrArg (fun x : List AV × List Blk => x.2.getD 3 (.dead 0)) h))) (show p.2.2 = q.2.2 from congrArg intA (congrArg (fun x : List AV × List Blk => cellB x.2 2 0) h))))
def sort_Search_v2_l2_s (p : (Int × Int × Int × Int × Bool × Bool × Int × Int × Int × Int × Int × (Sq Sblower)) × (Int × Int)) : St := ⟨[(1, .fn 69 [.ptr 0 0]), (5, .int .i64 p.2.2), (6, .int .i64 p.2.1)], [(0, .var [.fn 49 [.ptr 1 0, .ptr 2 0]]), (1, .var [.int .i64 p.1.1, .int .i64 p.1.2.1, .int .i64 p.1.2.2.1, .int .i64 p.1.2.2.2.1, .bool p.1.2.2.2.2.1, .bool p.1.2.2.2.2.2.1, .int .i64 p.1.2.2.2.2.2.2.1, .int .i64 p.1.2.2.2.2.2.2.2.1, .int .i64 p.1.2.2.2.2.2.2.2.2.1, .int .i64 p.1.2.2.2.2.2.2.2.2.2.1, .own 3 0]), (2, .var [.int .i64 p.1.2.2.2.2.2.2.2.2.2.2.1]), (3, .row 0 5 p.1.2.2.2.2.2.2.2.2.2.2.2.n 106 (fun k2856 => (Sblower.enc (p.1.2.2.2.2.2.2.2.2.2.2.2.f k2856))))], 260⟩
theorem sort_Search_v2_l2_inj (p q : (Int × Int × Int × Int × Bool × Bool × Int × Int × Int × Int × Int × (Sq Sblower)) × (Int × Int)) (h : sort_Search_v2_l2_s p = sort_Search_v2_l2_s q) : p = q :=
  Prod.ext (Prod.ext (show p.1.1 = q.1.1 from congrArg intA (congrArg (fun x : St => cellS x 1 0) h)) (Prod.ext (show p.1.2.1 = q.1.2.1 from congrArg intA (congrArg (fun x : St => cellS x 1 1) h)) (Prod.ext (show p.1.2.2.1 = q.1.2.2.1 from congrArg intA (congrArg (fun x : St => cellS x 1 2) h)) (Prod.ext (show p.1.2.2.2.1 = q.1.2.2.2.1 from congrArg intA (congrArg (fun x : St => cellS x 1 3) h)) (Prod.ext (show p.1.2.2.2.2.1 = q.1.2.2.2.2.1 from congrArg boolA (congrArg (fun x : St => cellS x 1 4) h)) (Prod.ext (show p.1.2.2.2.2.2.1 = q.1.2.2.2.2.2.1 from congrArg boolA (congrArg (fun x : St => cellS x 1 5) h)) (Prod.ext (show p.1.2.2.2.2.2.2.1 = q.1.2.2.2.2.2.2.1 from congrArg intA (congrArg (fun x : St => cellS x 1 6) h)) (Prod.ext (show p.1.2.2.2.2.2.2.2.1 = q.1.2.2.2.2.2.2.2.1 from congrArg intA (congrArg (fun x : St => cellS x 1 7) h)) (Prod.ext (show p.1.2.2.2.2.2.2.2.2.1 = q.1.2.2.2.2.2.2.2.2.1 from congrArg intA (congrArg (fun x : St => cellS x 1 8) h)) (Prod.ext (show p.1.2.2.2.2.2.2.2.2.2.1 = q.1.2.2.2.2.2.2.2.2.2.1 from congrArg intA (congrArg (fun x : St => cellS x 1 9) h)) (Prod.ext (show p.1.2.2.2.2.2.2.2.2.2.2.1 = q.1.2.2.2.2.2.2.2.2.2.2.1 from congrArg intA (congrArg (fun x : St => cellS x 2 0) h)) (Sq.row_inj Sblower.inj (a := p.1.2.2.2.2.2.2.2.2.2.2.2) (b := q.1.2.2.2.2.2.2.2.2.2.2.2) (congrArg (fun x : St => blkS x 3) h))))))))))))) (Prod.ext (show p.2.1 = q.2.1 from congrArg intA (congrArg (fun x : St => aget x.tm 6) h)) (show p.2.2 = q.2.2 from congrArg intA (congrArg (fun x : St => aget x.tm 5) h)))
noncomputable def sort_Search_v2_l2_step (v2_1 : Int) (v2_2 : Int) (v2_3 : Int) (v2_4 : Int) (v2_5 : Bool) (v2_6 : Bool) (v2_7 : Int) (v2_8 : Int) (v2_9 : Int) (v2_10 : Int) (v2_11 : Int) (v2_12 : (Sq Sblower)) (j_2_0 : Int) (i_2_13 : Int) : DT (LR (Int × Int) (Int) (Unit)) :=
  .ite (decide (i_2_13 < j_2_0)) (
    .bind (branch_first_1_v2 (wr ((IntKind.u64.wrap (wr (i_2_13 + j_2_0))) / 2 ^ (Int.toNat (1 : Int)))) (Sairway.mk (SRoad.mk v2_1 v2_2 v2_3 v2_4 v2_5 v2_6 (SSpan.mk v2_7 v2_8) (SSpan.mk v2_9 v2_10)) v2_12) v2_11) fun z2160 =>
    .ite (!z2160) (
      .leaf (.next (j_2_0, (wr ((wr ((IntKind.u64.wrap (wr (i_2_13 + j_2_0))) / 2 ^ (Int.toNat (1 : Int)))) + (1 : Int)))))) (
      .leaf (.next ((wr ((IntKind.u64.wrap (wr (i_2_13 + j_2_0))) / 2 ^ (Int.toNat (1 : Int)))), i_2_13)))) (
    .leaf (.l i_2_13))
def sort_Search_v2_l2_el (x : St) (a : Int) : St := ⟨[(5, .int .i64 a)], [(0, .var [.fn 49 [.ptr 1 0, .ptr 2 0]]), (1, blkS x 1), (2, blkS x 2), (3, blkS x 3)], 260⟩
def sort_Search_v2_l2_er (_ : St) (_ : Unit) : St := ⟨[], [], 0⟩
noncomputable def sort_Search_v2_l2_f (p : (Int × Int × Int × Int × Bool × Bool × Int × Int × Int × Int × Int × (Sq Sblower)) × (Int × Int)) : Option ((Int) ⊕ (Unit)) := fixO (fun v : Int × Int => sort_Search_v2_l2_step p.1.1 p.1.2.1 p.1.2.2.1 p.1.2.2.2.1 p.1.2.2.2.2.1 p.1.2.2.2.2.2.1 p.1.2.2.2.2.2.2.1 p.1.2.2.2.2.2.2.2.1 p.1.2.2.2.2.2.2.2.2.1 p.1.2.2.2.2.2.2.2.2.2.1 p.1.2.2.2.2.2.2.2.2.2.2.1 p.1.2.2.2.2.2.2.2.2.2.2.2 v.1 v.2) p.2
noncomputable def sort_Search_v2_l2_c : St → Option LRes := loopM sort_Search_v2_l2_s sort_Search_v2_l2_f true (.exit 0) sort_Search_v2_l2_el .ret sort_Search_v2_l2_er
noncomputable def sort_Search_v2_l2 (v2_1 : Int) (v2_2 : Int) (v2_3 : Int) (v2_4 : Int) (v2_5 : Bool) (v2_6 : Bool) (v2_7 : Int) (v2_8 : Int) (v2_9 : Int) (v2_10 : Int) (v2_11 : Int) (v2_12 : (Sq Sblower)) (j_2_0 : Int) (i_2_13 : Int) : Option ((Int) ⊕ (Unit)) := gOfS sort_Search_v2_l2_s sort_Search_v2_l2_f (sort_Search_v2_l2_s ((v2_1, v2_2, v2_3, v2_4, v2_5, v2_6, v2_7, v2_8, v2_9, v2_10, v2_11, v2_12), (j_2_0, i_2_13)))
theorem sort_Search_v2_l2_eq (v2_1 : Int) (v2_2 : Int) (v2_3 : Int) (v2_4 : Int) (v2_5 : Bool) (v2_6 : Bool) (v2_7 : Int) (v2_8 : Int) (v2_9 : Int) (v2_10 : Int) (v2_11 : Int) (v2_12 : (Sq Sblower)) (j_2_0 : Int) (i_2_13 : Int) : sort_Search_v2_l2 v2_1 v2_2 v2_3 v2_4 v2_5 v2_6 v2_7 v2_8 v2_9 v2_10 v2_11 v2_12 j_2_0 i_2_13 = fixO (fun v : Int × Int => sort_Search_v2_l2_step v2_1 v2_2 v2_3 v2_4 v2_5 v2_6 v2_7 v2_8 v2_9 v2_10 v2_11 v2_12 v.1 v.2) (j_2_0, i_2_13) := gOfS_eq sort_Search_v2_l2_inj sort_Search_v2_l2_f ((v2_1, v2_2, v2_3, v2_4, v2_5, v2_6, v2_7, v2_8, v2_9, v2_10, v2_11, v2_12), (j_2_0, i_2_13))
noncomputable def sort_Search_v2_t (n : Int) (y1 : Sairway) (y2 : Int) : DT (Int) :=
  .sum (sort_Search_v2_l2 y1.Road.From y1.Road.To y1.Road.Length y1.Road.Area y1.Road.Walk y1.Road.Closed y1.Road.Rest.Low y1.Road.Rest.High y1.Road.Lift.Low y1.Road.Lift.High y2 y1.blowers_ n (0 : Int)) (fun y2161 =>
    .leaf y2161) (fun _ =>
    .fail)
def sort_Search_v2_av (r : Int) : AV := .int .i64 r
def sort_Search_v2_outs (ins : List Blk) (_ : Int) : List Blk := [ins.getD 0 (.dead 0), ins.getD 1 (.dead 0), ins.getD 2 (.dead 0), ins.getD 3 (.dead 0)]
noncomputable def c_sort_Search_v2 : List AV → List Blk → Option Ans := told sort_Search_v2_enc (fun p => (sort_Search_v2_t p.1 p.2.1 p.2.2).get) sort_Search_v2_av sort_Search_v2_outs false (fun h => by cases h)
noncomputable def sort_Search_v2_env : Env := { envS (fun f => match f with
  | 69 => c_branch_first_1_v2
  | _ => fun _ _ => none) (fun r => match r with | 2 => some ([1, 5, 6], [5]) | _ => none) with loops := fun r => match r with | 2 => some sort_Search_v2_l2_c | _ => none, gc := fun r => match r with | 2 => some [0, 1, 2, 3] | _ => none, mm := some 4 }
theorem sort_Search_v2_env_ok : ∀ f, Tells Try.prog f (sort_Search_v2_env.fs f) := by
  intro f
  by_cases h0 : f = 69
  · subst h0; exact branch_first_1_v2_tells
  have : sort_Search_v2_env.fs f = fun _ _ => none := by
    unfold sort_Search_v2_env envS
    dsimp only
    split
    · exact absurd rfl h0
    · rfl
  rw [this]
  exact Tells.none_ f
noncomputable def sort_Search_v2_e : Env := { sort_Search_v2_env with nt := 26 }
noncomputable def sort_Search_v2_l2_b : Code := loopOf 2 Try.f68
theorem sort_Search_v2_l2_round {R : Type} (fx : Int × Int × Int × Int × Bool × Bool × Int × Int × Int × Int × Int × (Sq Sblower)) (v : Int × Int) (N : Nat) (K : AX → St → Option R) : aloop (fun s j => aexec sort_Search_v2_e sort_Search_v2_l2_b s j) (headOf sort_Search_v2_e sort_Search_v2_l2_b 260) (exitOf sort_Search_v2_e sort_Search_v2_l2_b 260) (N + 1) (sort_Search_v2_l2_s (fx, v)) K = (sort_Search_v2_l2_step fx.1 fx.2.1 fx.2.2.1 fx.2.2.2.1 fx.2.2.2.2.1 fx.2.2.2.2.2.1 fx.2.2.2.2.2.2.1 fx.2.2.2.2.2.2.2.1 fx.2.2.2.2.2.2.2.2.1 fx.2.2.2.2.2.2.2.2.2.1 fx.2.2.2.2.2.2.2.2.2.2.1 fx.2.2.2.2.2.2.2.2.2.2.2 v.1 v.2).run (LR.elim
    (fun v' => aloop (fun s j => aexec sort_Search_v2_e sort_Search_v2_l2_b s j) (headOf sort_Search_v2_e sort_Search_v2_l2_b 260) (exitOf sort_Search_v2_e sort_Search_v2_l2_b 260) N (sort_Search_v2_l2_s (fx, v')) K)
    (fun a => K (.exit 0) (sort_Search_v2_l2_el (sort_Search_v2_l2_s (fx, v)) a))
    (fun a => K .ret (sort_Search_v2_l2_er (sort_Search_v2_l2_s (fx, v)) a))) := by kernel_rfl
theorem sort_Search_v2_l2_tells : LoopTells sort_Search_v2_e sort_Search_v2_l2_b sort_Search_v2_l2_c :=
  loopM_tells (s := sort_Search_v2_l2_s) (stl := sort_Search_v2_l2_el) (str := sort_Search_v2_l2_er) (step := fun (fx : Int × Int × Int × Int × Bool × Bool × Int × Int × Int × Int × Int × (Sq Sblower)) (v : Int × Int) => sort_Search_v2_l2_step fx.1 fx.2.1 fx.2.2.1 fx.2.2.2.1 fx.2.2.2.2.1 fx.2.2.2.2.2.1 fx.2.2.2.2.2.2.1 fx.2.2.2.2.2.2.2.1 fx.2.2.2.2.2.2.2.2.1 fx.2.2.2.2.2.2.2.2.2.1 fx.2.2.2.2.2.2.2.2.2.2.1 fx.2.2.2.2.2.2.2.2.2.2.2 v.1 v.2) (n := 260) (fun _ => rfl) (fun _ _ _ _ => rfl) (fun _ _ _ _ => rfl) sort_Search_v2_l2_round
theorem sort_Search_v2_run (p : Int × Sairway × Int) : arun sort_Search_v2_env Try.f68 (sort_Search_v2_enc p).1 (sort_Search_v2_enc p).2 = (sort_Search_v2_t p.1 p.2.1 p.2.2).run fun r => some (sort_Search_v2_av r, sort_Search_v2_outs (sort_Search_v2_enc p).2 r) := by kernel_rfl
theorem sort_Search_v2_loops : ∀ c, Try.f68.body = some c → LoopsOK { sort_Search_v2_env with nt := Try.f68.ntmps } c := by
  intro c hc
  refine loops_of c fun c' hc' f hf => ?_
  have hb : loopsOf c = [sort_Search_v2_l2_b] := by
    have : Try.f68.body.map loopsOf = some [sort_Search_v2_l2_b] := by kernel_rfl
    rw [hc] at this
    injection this
  rw [hb] at hc'
  clear hb
  obtain rfl := List.mem_singleton.1 hc'
  have h6 : firstReg sort_Search_v2_l2_b = 2 := by kernel_rfl
  rw [h6] at hf
  obtain rfl := Option.some.inj hf
  exact sort_Search_v2_l2_tells
attribute [local irreducible] arun in
theorem sort_Search_v2_tells : Tells Try.prog 68 c_sort_Search_v2 :=
  told_tells (E := sort_Search_v2_env) (enc := sort_Search_v2_enc) (av := sort_Search_v2_av) (outs := sort_Search_v2_outs) (t := fun p : Int × Sairway × Int => sort_Search_v2_t p.1 p.2.1 p.2.2) (by kernel_rfl) sort_Search_v2_env_ok Try.func68 sort_Search_v2_loops sort_Search_v2_run
noncomputable def sort_Search_v2 (n : Int) (y1 : Sairway) (y2 : Int) : Option (Int) := gOfA sort_Search_v2_enc (fun p => (sort_Search_v2_t p.1 p.2.1 p.2.2).get) (sort_Search_v2_encC n y1 y2).1 (sort_Search_v2_encC n y1 y2).2
theorem sort_Search_v2_eq (n : Int) (y1 : Sairway) (y2 : Int) : sort_Search_v2 n y1 y2 = (sort_Search_v2_t n y1 y2).get := congrFun (gOfA_eq sort_Search_v2_inj (fun p => (sort_Search_v2_t p.1 p.2.1 p.2.2).get)) (n, y1, y2)

/-! ### minecontrol/branch.first -/
def branch_first_v2_encC (y0 : Sairway) (y1 : Int) : List AV × List Blk := ([.fn 49 [.ptr 0 0, .ptr 1 0]], [.var [.int .i64 y0.Road.From, .int .i64 y0.Road.To, .int .i64 y0.Road.Length, .int .i64 y0.Road.Area, .bool y0.Road.Walk, .bool y0.Road.Closed, .int .i64 y0.Road.Rest.Low, .int .i64 y0.Road.Rest.High, .int .i64 y0.Road.Lift.Low, .int .i64 y0.Road.Lift.High, .own 2 0], .var [.int .i64 y1], .row 0 5 y0.blowers_.n 106 (fun k2857 => (Sblower.enc (y0.blowers_.f k2857)))])
def branch_first_v2_enc (p : Sairway × Int) : List AV × List Blk := branch_first_v2_encC p.1 p.2
theorem branch_first_v2_inj (p q : Sairway × Int) (h : branch_first_v2_enc p = branch_first_v2_enc q) : p = q :=
  (Prod.ext (Sairway.ext2 (SRoad.ext2 (show p.1.Road.From = q.1.Road.From from congrArg intA (congrArg (fun x : List AV × List Blk => cellB x.2 0 0) h)) (show p.1.Road.To = q.1.Road.To from congrArg intA (congrArg (fun x : List AV × List Blk => cellB x.2 0 1) h)) (show p.1.Road.Length = q.1.Road.Length from congrArg intA (congrArg (fun x : List AV × List Blk => cellB x.2 0 2) h)) (show p.1.Road.Area = q.1.Road.Area from congrArg intA (congrArg (fun x : List AV × List Blk => cellB x.2 0 3) h)) (show p.1.Road.Walk = q.1.Road.Walk from congrArg boolA (congrArg (fun x : List AV × List Blk => cellB x.2 0 4) h)) (show p.1.Road.Closed = q.1.Road.Closed from congrArg boolA (congrArg (fun x : List AV × List Blk => cellB x.2 0 5) h)) (SSpan.ext2 (show p.1.Road.Rest.Low = q.1.Road.Rest.Low from congrArg intA (congrArg (fun x : List AV × List Blk => cellB x.2 0 6) h)) (show p.1.Road.Rest.High = q.1.Road.Rest.High from congrArg intA (congrArg (fun x : List AV × List Blk => cellB x.2 0 7) h))) (SSpan.ext2 (show p.1.Road.Lift.Low = q.1.Road.Lift.Low from congrArg intA (congrArg (fun x : List AV × List Blk => cellB x.2 0 8) h)) (show p.1.Road.Lift.High = q.1.Road.Lift.High from congrArg intA (congrArg (fun x : List AV × List Blk => cellB x.2 0 9) h)))) (Sq.row_inj Sblower.inj (a := p.1.blowers_) (b := q.1.blowers_) (congrArg (fun x : List AV × List Blk => x.2.getD 2 (.dead 0)) h))) (show p.2 = q.2 from congrArg intA (congrArg (fun x : List AV × List Blk => cellB x.2 1 0) h)))
noncomputable def branch_first_v2_t (y0 : Sairway) (y1 : Int) : DT (Int) :=
  .bind (sort_Search_v2 (2097153 : Int) y0 y1) fun z2162 =>
  .leaf (wr (z2162 - (1048576 : Int)))
def branch_first_v2_av (r : Int) : AV := .int .i64 r
def branch_first_v2_outs (ins : List Blk) (_ : Int) : List Blk := [ins.getD 0 (.dead 0), ins.getD 1 (.dead 0), ins.getD 2 (.dead 0)]
noncomputable def c_branch_first_v2 : List AV → List Blk → Option Ans := told branch_first_v2_enc (fun p => (branch_first_v2_t p.1 p.2).get) branch_first_v2_av branch_first_v2_outs false (fun h => by cases h)
noncomputable def branch_first_v2_env : Env := { envS (fun f => match f with
  | 68 => c_sort_Search_v2
  | _ => fun _ _ => none) with mm := some 3 }
theorem branch_first_v2_env_ok : ∀ f, Tells Try.prog f (branch_first_v2_env.fs f) := by
  intro f
  by_cases h0 : f = 68
  · subst h0; exact sort_Search_v2_tells
  have : branch_first_v2_env.fs f = fun _ _ => none := by
    unfold branch_first_v2_env envS
    dsimp only
    split
    · exact absurd rfl h0
    · rfl
  rw [this]
  exact Tells.none_ f
theorem branch_first_v2_run (p : Sairway × Int) : arun branch_first_v2_env Try.f47 (branch_first_v2_enc p).1 (branch_first_v2_enc p).2 = (branch_first_v2_t p.1 p.2).run fun r => some (branch_first_v2_av r, branch_first_v2_outs (branch_first_v2_enc p).2 r) := by kernel_rfl
attribute [local irreducible] arun in
theorem branch_first_v2_tells : Tells Try.prog 47 c_branch_first_v2 :=
  told_tells (E := branch_first_v2_env) (enc := branch_first_v2_enc) (av := branch_first_v2_av) (outs := branch_first_v2_outs) (t := fun p : Sairway × Int => branch_first_v2_t p.1 p.2) (by kernel_rfl) branch_first_v2_env_ok Try.func47 (fun c _ => loops_none (E := { branch_first_v2_env with nt := Try.f47.ntmps }) (fun _ => rfl) c) branch_first_v2_run
noncomputable def branch_first_v2 (y0 : Sairway) (y1 : Int) : Option (Int) := gOfA branch_first_v2_enc (fun p => (branch_first_v2_t p.1 p.2).get) (branch_first_v2_encC y0 y1).1 (branch_first_v2_encC y0 y1).2
theorem branch_first_v2_eq (y0 : Sairway) (y1 : Int) : branch_first_v2 y0 y1 = (branch_first_v2_t y0 y1).get := congrFun (gOfA_eq branch_first_v2_inj (fun p => (branch_first_v2_t p.1 p.2).get)) (y0, y1)

/-! ### minecontrol/branch.Flow -/
def branch_Flow_encC (a : SAir) (s : SSetting) (road : Int) (pressure : Int) : List AV × List Blk := ([.agg [.slc 2 a.Mine.Places.n (fun k2858 => (SPlace.enc (a.Mine.Places.f k2858))), .slc 10 a.Mine.Roads.n (fun k2859 => (SRoad.enc (a.Mine.Roads.f k2859))), .slc 4 a.Fans.n (fun k2860 => (SFan.enc (a.Fans.f k2860))), .slc 3 a.Doors.n (fun k2861 => (SDoor.enc (a.Doors.f k2861)))], .agg [.slc 1 s.Fans.n (fun k2862 => [.int .i64 (s.Fans.f k2862)]), .slc 1 s.Doors.n (fun k2863 => [.int .i64 (s.Doors.f k2863)])], .int .i64 road, .int .i64 pressure], [])
def branch_Flow_enc (p : SAir × SSetting × Int × Int) : List AV × List Blk := branch_Flow_encC p.1 p.2.1 p.2.2.1 p.2.2.2
theorem branch_Flow_inj (p q : SAir × SSetting × Int × Int) (h : branch_Flow_enc p = branch_Flow_enc q) : p = q :=
  (Prod.ext (SAir.ext2 (SMine.ext2 (Sq.av_inj SPlace.inj (a := p.1.Mine.Places) (b := q.1.Mine.Places) (congrArg (fun x : List AV × List Blk => argC x.1 0 0) h)) (Sq.av_inj SRoad.inj (a := p.1.Mine.Roads) (b := q.1.Mine.Roads) (congrArg (fun x : List AV × List Blk => argC x.1 0 1) h))) (Sq.av_inj SFan.inj (a := p.1.Fans) (b := q.1.Fans) (congrArg (fun x : List AV × List Blk => argC x.1 0 2) h)) (Sq.av_inj SDoor.inj (a := p.1.Doors) (b := q.1.Doors) (congrArg (fun x : List AV × List Blk => argC x.1 0 3) h))) (Prod.ext (SSetting.ext2 (Sq.av_inj intE_i64 (a := p.2.1.Fans) (b := q.2.1.Fans) (congrArg (fun x : List AV × List Blk => argC x.1 1 0) h)) (Sq.av_inj intE_i64 (a := p.2.1.Doors) (b := q.2.1.Doors) (congrArg (fun x : List AV × List Blk => argC x.1 1 1) h))) (Prod.ext (show p.2.2.1 = q.2.2.1 from congrArg intA (congrArg (fun x : List AV × List Blk => x.1.getD 2 .undef) h)) (show p.2.2.2 = q.2.2.2 from congrArg intA (congrArg (fun x : List AV × List Blk => x.1.getD 3 .undef) h)))))
noncomputable def branch_Flow_t (a : SAir) (s : SSetting) (road : Int) (pressure : Int) : DT (SSpan) :=
  .bind (branch_open a s road) fun z2145 =>
  .ite (!z2145.2) (
    .leaf (SSpan.mk (0 : Int) (0 : Int))) (
    .bind (branch_first z2145.1 pressure) fun z2154 =>
    .bind (branch_first_v2 z2145.1 pressure) fun z2163 =>
    .leaf (SSpan.mk (wr (z2154 - (1 : Int))) z2163))
def branch_Flow_av (r : SSpan) : AV := .agg [.int .i64 r.Low, .int .i64 r.High]
def branch_Flow_outs (_ : List Blk) (_ : SSpan) : List Blk := []
noncomputable def c_branch_Flow : List AV → List Blk → Option Ans := told branch_Flow_enc (fun p => (branch_Flow_t p.1 p.2.1 p.2.2.1 p.2.2.2).get) branch_Flow_av branch_Flow_outs true (fun _ _ _ => ⟨rfl, fun b hb => by cases hb⟩)
noncomputable def branch_Flow_env : Env := { envS (fun f => match f with
  | 42 => c_branch_open
  | 47 => orC [6, 48, 2, 5, 0, 0, 5, 1, 0, 10, 11, 1, 1, 1, 1, 2, 2, 1, 1, 1, 1, 4, 2, 0, 10, 1, 1, 11, 5] c_branch_first (c_branch_first_v2)
  | _ => fun _ _ => none) with mm := some 0 }
theorem branch_Flow_env_ok : ∀ f, Tells Try.prog f (branch_Flow_env.fs f) := by
  intro f
  by_cases h0 : f = 42
  · subst h0; exact branch_open_tells
  by_cases h1 : f = 47
  · subst h1; exact orC_tells branch_first_tells (branch_first_v2_tells)
  have : branch_Flow_env.fs f = fun _ _ => none := by
    unfold branch_Flow_env envS
    dsimp only
    split
    · exact absurd rfl h0
    · exact absurd rfl h1
    · rfl
  rw [this]
  exact Tells.none_ f
theorem branch_Flow_run (p : SAir × SSetting × Int × Int) : arun branch_Flow_env Try.f25 (branch_Flow_enc p).1 (branch_Flow_enc p).2 = (branch_Flow_t p.1 p.2.1 p.2.2.1 p.2.2.2).run fun r => some (branch_Flow_av r, branch_Flow_outs (branch_Flow_enc p).2 r) := by kernel_rfl
attribute [local irreducible] arun in
theorem branch_Flow_tells : Tells Try.prog 25 c_branch_Flow :=
  told_tells (E := branch_Flow_env) (enc := branch_Flow_enc) (av := branch_Flow_av) (outs := branch_Flow_outs) (t := fun p : SAir × SSetting × Int × Int => branch_Flow_t p.1 p.2.1 p.2.2.1 p.2.2.2) (by kernel_rfl) branch_Flow_env_ok Try.func25 (fun c _ => loops_none (E := { branch_Flow_env with nt := Try.f25.ntmps }) (fun _ => rfl) c) branch_Flow_run
noncomputable def branch_Flow (a : SAir) (s : SSetting) (road : Int) (pressure : Int) : Option (SSpan) := gOfA branch_Flow_enc (fun p => (branch_Flow_t p.1 p.2.1 p.2.2.1 p.2.2.2).get) (branch_Flow_encC a s road pressure).1 (branch_Flow_encC a s road pressure).2
theorem branch_Flow_eq (a : SAir) (s : SSetting) (road : Int) (pressure : Int) : branch_Flow a s road pressure = (branch_Flow_t a s road pressure).get := congrFun (gOfA_eq branch_Flow_inj (fun p => (branch_Flow_t p.1 p.2.1 p.2.2.1 p.2.2.2).get)) (a, s, road, pressure)

/-! ### minecontrol/minecontrolref09.Lowest -/
def ref09_Lowest_encC (a : SAir) (s : SSetting) (road : Int) (pressure : Int) : List AV × List Blk := ([.agg [.slc 2 a.Mine.Places.n (fun k2864 => (SPlace.enc (a.Mine.Places.f k2864))), .slc 10 a.Mine.Roads.n (fun k2865 => (SRoad.enc (a.Mine.Roads.f k2865))), .slc 4 a.Fans.n (fun k2866 => (SFan.enc (a.Fans.f k2866))), .slc 3 a.Doors.n (fun k2867 => (SDoor.enc (a.Doors.f k2867)))], .agg [.slc 1 s.Fans.n (fun k2868 => [.int .i64 (s.Fans.f k2868)]), .slc 1 s.Doors.n (fun k2869 => [.int .i64 (s.Doors.f k2869)])], .int .i64 road, .int .i64 pressure], [])
def ref09_Lowest_enc (p : SAir × SSetting × Int × Int) : List AV × List Blk := ref09_Lowest_encC p.1 p.2.1 p.2.2.1 p.2.2.2
theorem ref09_Lowest_inj (p q : SAir × SSetting × Int × Int) (h : ref09_Lowest_enc p = ref09_Lowest_enc q) : p = q :=
  (Prod.ext (SAir.ext2 (SMine.ext2 (Sq.av_inj SPlace.inj (a := p.1.Mine.Places) (b := q.1.Mine.Places) (congrArg (fun x : List AV × List Blk => argC x.1 0 0) h)) (Sq.av_inj SRoad.inj (a := p.1.Mine.Roads) (b := q.1.Mine.Roads) (congrArg (fun x : List AV × List Blk => argC x.1 0 1) h))) (Sq.av_inj SFan.inj (a := p.1.Fans) (b := q.1.Fans) (congrArg (fun x : List AV × List Blk => argC x.1 0 2) h)) (Sq.av_inj SDoor.inj (a := p.1.Doors) (b := q.1.Doors) (congrArg (fun x : List AV × List Blk => argC x.1 0 3) h))) (Prod.ext (SSetting.ext2 (Sq.av_inj intE_i64 (a := p.2.1.Fans) (b := q.2.1.Fans) (congrArg (fun x : List AV × List Blk => argC x.1 1 0) h)) (Sq.av_inj intE_i64 (a := p.2.1.Doors) (b := q.2.1.Doors) (congrArg (fun x : List AV × List Blk => argC x.1 1 1) h))) (Prod.ext (show p.2.2.1 = q.2.2.1 from congrArg intA (congrArg (fun x : List AV × List Blk => x.1.getD 2 .undef) h)) (show p.2.2.2 = q.2.2.2 from congrArg intA (congrArg (fun x : List AV × List Blk => x.1.getD 3 .undef) h)))))
def ref09_Lowest_l2_s (p : (Int × Int × (Sq SPlace) × (Sq SRoad) × (Sq SFan) × (Sq SDoor) × (Sq Int) × (Sq Int)) × (Int × Int)) : St := ⟨[(2, .int .i64 p.1.1), (3, .int .i64 p.1.2.1), (4, .ptr 0 0), (5, .ptr 64 0), (9, .int .i64 p.2.1), (10, .int .i64 p.2.2)], [(0, .var [.slc 2 p.1.2.2.1.n (fun k2870 => (SPlace.enc (p.1.2.2.1.f k2870))), .slc 10 p.1.2.2.2.1.n (fun k2871 => (SRoad.enc (p.1.2.2.2.1.f k2871))), .slc 4 p.1.2.2.2.2.1.n (fun k2872 => (SFan.enc (p.1.2.2.2.2.1.f k2872))), .slc 3 p.1.2.2.2.2.2.1.n (fun k2873 => (SDoor.enc (p.1.2.2.2.2.2.1.f k2873)))]), (64, .var [.slc 1 p.1.2.2.2.2.2.2.1.n (fun k2874 => [.int .i64 (p.1.2.2.2.2.2.2.1.f k2874)]), .slc 1 p.1.2.2.2.2.2.2.2.n (fun k2875 => [.int .i64 (p.1.2.2.2.2.2.2.2.f k2875)])])], 320⟩
theorem ref09_Lowest_l2_inj (p q : (Int × Int × (Sq SPlace) × (Sq SRoad) × (Sq SFan) × (Sq SDoor) × (Sq Int) × (Sq Int)) × (Int × Int)) (h : ref09_Lowest_l2_s p = ref09_Lowest_l2_s q) : p = q :=
  Prod.ext (Prod.ext (show p.1.1 = q.1.1 from congrArg intA (congrArg (fun x : St => aget x.tm 2) h)) (Prod.ext (show p.1.2.1 = q.1.2.1 from congrArg intA (congrArg (fun x : St => aget x.tm 3) h)) (Prod.ext (Sq.av_inj SPlace.inj (a := p.1.2.2.1) (b := q.1.2.2.1) (congrArg (fun x : St => cellS x 0 0) h)) (Prod.ext (Sq.av_inj SRoad.inj (a := p.1.2.2.2.1) (b := q.1.2.2.2.1) (congrArg (fun x : St => cellS x 0 1) h)) (Prod.ext (Sq.av_inj SFan.inj (a := p.1.2.2.2.2.1) (b := q.1.2.2.2.2.1) (congrArg (fun x : St => cellS x 0 2) h)) (Prod.ext (Sq.av_inj SDoor.inj (a := p.1.2.2.2.2.2.1) (b := q.1.2.2.2.2.2.1) (congrArg (fun x : St => cellS x 0 3) h)) (Prod.ext (Sq.av_inj intE_i64 (a := p.1.2.2.2.2.2.2.1) (b := q.1.2.2.2.2.2.2.1) (congrArg (fun x : St => cellS x 64 0) h)) (Sq.av_inj intE_i64 (a := p.1.2.2.2.2.2.2.2) (b := q.1.2.2.2.2.2.2.2) (congrArg (fun x : St => cellS x 64 1) h))))))))) (Prod.ext (show p.2.1 = q.2.1 from congrArg intA (congrArg (fun x : St => aget x.tm 9) h)) (show p.2.2 = q.2.2 from congrArg intA (congrArg (fun x : St => aget x.tm 10) h)))
noncomputable def ref09_Lowest_l2_step (road_2_0 : Int) (pressure_2_1 : Int) (v2_2 : (Sq SPlace)) (v2_3 : (Sq SRoad)) (v2_4 : (Sq SFan)) (v2_5 : (Sq SDoor)) (v2_6 : (Sq Int)) (v2_7 : (Sq Int)) (low_2_8 : Int) (high_2_9 : Int) : DT (LR (Int × Int) (Int) (Unit)) :=
  .ite (decide (low_2_8 < high_2_9)) (
    .bind (ref09_Inner (SAir.mk (SMine.mk v2_2 v2_3) v2_4 v2_5) (SSetting.mk v2_6 v2_7) road_2_0 (wr (low_2_8 + (wr (Int.tdiv (wr ((wr (high_2_9 - low_2_8)) + (1 : Int))) (2 : Int)))))) fun z2170 =>
    .ite (decide (z2170.High ≤ pressure_2_1)) (
      .leaf (.next ((wr (low_2_8 + (wr (Int.tdiv (wr ((wr (high_2_9 - low_2_8)) + (1 : Int))) (2 : Int))))), high_2_9))) (
      .leaf (.next (low_2_8, (wr ((wr (low_2_8 + (wr (Int.tdiv (wr ((wr (high_2_9 - low_2_8)) + (1 : Int))) (2 : Int))))) - (1 : Int))))))) (
    .leaf (.l low_2_8))
def ref09_Lowest_l2_el (x : St) (a : Int) : St := ⟨[(9, .int .i64 a)], [(0, blkS x 0), (64, blkS x 64)], 320⟩
def ref09_Lowest_l2_er (_ : St) (_ : Unit) : St := ⟨[], [], 0⟩
noncomputable def ref09_Lowest_l2_f (p : (Int × Int × (Sq SPlace) × (Sq SRoad) × (Sq SFan) × (Sq SDoor) × (Sq Int) × (Sq Int)) × (Int × Int)) : Option ((Int) ⊕ (Unit)) := fixO (fun v : Int × Int => ref09_Lowest_l2_step p.1.1 p.1.2.1 p.1.2.2.1 p.1.2.2.2.1 p.1.2.2.2.2.1 p.1.2.2.2.2.2.1 p.1.2.2.2.2.2.2.1 p.1.2.2.2.2.2.2.2 v.1 v.2) p.2
noncomputable def ref09_Lowest_l2_c : St → Option LRes := loopM ref09_Lowest_l2_s ref09_Lowest_l2_f true (.exit 0) ref09_Lowest_l2_el .ret ref09_Lowest_l2_er
noncomputable def ref09_Lowest_l2 (road_2_0 : Int) (pressure_2_1 : Int) (v2_2 : (Sq SPlace)) (v2_3 : (Sq SRoad)) (v2_4 : (Sq SFan)) (v2_5 : (Sq SDoor)) (v2_6 : (Sq Int)) (v2_7 : (Sq Int)) (low_2_8 : Int) (high_2_9 : Int) : Option ((Int) ⊕ (Unit)) := gOfS ref09_Lowest_l2_s ref09_Lowest_l2_f (ref09_Lowest_l2_s ((road_2_0, pressure_2_1, v2_2, v2_3, v2_4, v2_5, v2_6, v2_7), (low_2_8, high_2_9)))
theorem ref09_Lowest_l2_eq (road_2_0 : Int) (pressure_2_1 : Int) (v2_2 : (Sq SPlace)) (v2_3 : (Sq SRoad)) (v2_4 : (Sq SFan)) (v2_5 : (Sq SDoor)) (v2_6 : (Sq Int)) (v2_7 : (Sq Int)) (low_2_8 : Int) (high_2_9 : Int) : ref09_Lowest_l2 road_2_0 pressure_2_1 v2_2 v2_3 v2_4 v2_5 v2_6 v2_7 low_2_8 high_2_9 = fixO (fun v : Int × Int => ref09_Lowest_l2_step road_2_0 pressure_2_1 v2_2 v2_3 v2_4 v2_5 v2_6 v2_7 v.1 v.2) (low_2_8, high_2_9) := gOfS_eq ref09_Lowest_l2_inj ref09_Lowest_l2_f ((road_2_0, pressure_2_1, v2_2, v2_3, v2_4, v2_5, v2_6, v2_7), (low_2_8, high_2_9))
noncomputable def ref09_Lowest_t (a : SAir) (s : SSetting) (road : Int) (pressure : Int) : DT (Int) :=
  .sum (ref09_Lowest_l2 road pressure a.Mine.Places a.Mine.Roads a.Fans a.Doors s.Fans s.Doors (-1048577 : Int) (1048576 : Int)) (fun y2171 =>
    .leaf y2171) (fun _ =>
    .fail)
def ref09_Lowest_av (r : Int) : AV := .int .i64 r
def ref09_Lowest_outs (_ : List Blk) (_ : Int) : List Blk := []
noncomputable def c_ref09_Lowest : List AV → List Blk → Option Ans := told ref09_Lowest_enc (fun p => (ref09_Lowest_t p.1 p.2.1 p.2.2.1 p.2.2.2).get) ref09_Lowest_av ref09_Lowest_outs true (fun _ _ _ => ⟨rfl, fun b hb => by cases hb⟩)
noncomputable def ref09_Lowest_env : Env := { envS (fun f => match f with
  | 46 => c_ref09_Inner
  | _ => fun _ _ => none) (fun r => match r with | 2 => some ([2, 3, 4, 5, 9, 10], [9]) | _ => none) with loops := fun r => match r with | 2 => some ref09_Lowest_l2_c | _ => none, gc := fun r => match r with | 2 => some [0, 64] | _ => none, mm := some 0 }
theorem ref09_Lowest_env_ok : ∀ f, Tells Try.prog f (ref09_Lowest_env.fs f) := by
  intro f
  by_cases h0 : f = 46
  · subst h0; exact ref09_Inner_tells
  have : ref09_Lowest_env.fs f = fun _ _ => none := by
    unfold ref09_Lowest_env envS
    dsimp only
    split
    · exact absurd rfl h0
    · rfl
  rw [this]
  exact Tells.none_ f
noncomputable def ref09_Lowest_e : Env := { ref09_Lowest_env with nt := 34 }
noncomputable def ref09_Lowest_l2_b : Code := loopOf 2 Try.f50
theorem ref09_Lowest_l2_round {R : Type} (fx : Int × Int × (Sq SPlace) × (Sq SRoad) × (Sq SFan) × (Sq SDoor) × (Sq Int) × (Sq Int)) (v : Int × Int) (N : Nat) (K : AX → St → Option R) : aloop (fun s j => aexec ref09_Lowest_e ref09_Lowest_l2_b s j) (headOf ref09_Lowest_e ref09_Lowest_l2_b 320) (exitOf ref09_Lowest_e ref09_Lowest_l2_b 320) (N + 1) (ref09_Lowest_l2_s (fx, v)) K = (ref09_Lowest_l2_step fx.1 fx.2.1 fx.2.2.1 fx.2.2.2.1 fx.2.2.2.2.1 fx.2.2.2.2.2.1 fx.2.2.2.2.2.2.1 fx.2.2.2.2.2.2.2 v.1 v.2).run (LR.elim
    (fun v' => aloop (fun s j => aexec ref09_Lowest_e ref09_Lowest_l2_b s j) (headOf ref09_Lowest_e ref09_Lowest_l2_b 320) (exitOf ref09_Lowest_e ref09_Lowest_l2_b 320) N (ref09_Lowest_l2_s (fx, v')) K)
    (fun a => K (.exit 0) (ref09_Lowest_l2_el (ref09_Lowest_l2_s (fx, v)) a))
    (fun a => K .ret (ref09_Lowest_l2_er (ref09_Lowest_l2_s (fx, v)) a))) := by kernel_rfl
theorem ref09_Lowest_l2_tells : LoopTells ref09_Lowest_e ref09_Lowest_l2_b ref09_Lowest_l2_c :=
  loopM_tells (s := ref09_Lowest_l2_s) (stl := ref09_Lowest_l2_el) (str := ref09_Lowest_l2_er) (step := fun (fx : Int × Int × (Sq SPlace) × (Sq SRoad) × (Sq SFan) × (Sq SDoor) × (Sq Int) × (Sq Int)) (v : Int × Int) => ref09_Lowest_l2_step fx.1 fx.2.1 fx.2.2.1 fx.2.2.2.1 fx.2.2.2.2.1 fx.2.2.2.2.2.1 fx.2.2.2.2.2.2.1 fx.2.2.2.2.2.2.2 v.1 v.2) (n := 320) (fun _ => rfl) (fun _ _ _ _ => rfl) (fun _ _ _ _ => rfl) ref09_Lowest_l2_round
theorem ref09_Lowest_run (p : SAir × SSetting × Int × Int) : arun ref09_Lowest_env Try.f50 (ref09_Lowest_enc p).1 (ref09_Lowest_enc p).2 = (ref09_Lowest_t p.1 p.2.1 p.2.2.1 p.2.2.2).run fun r => some (ref09_Lowest_av r, ref09_Lowest_outs (ref09_Lowest_enc p).2 r) := by kernel_rfl
theorem ref09_Lowest_loops : ∀ c, Try.f50.body = some c → LoopsOK { ref09_Lowest_env with nt := Try.f50.ntmps } c := by
  intro c hc
  refine loops_of c fun c' hc' f hf => ?_
  have hb : loopsOf c = [ref09_Lowest_l2_b] := by
    have : Try.f50.body.map loopsOf = some [ref09_Lowest_l2_b] := by kernel_rfl
    rw [hc] at this
    injection this
  rw [hb] at hc'
  clear hb
  obtain rfl := List.mem_singleton.1 hc'
  have h6 : firstReg ref09_Lowest_l2_b = 2 := by kernel_rfl
  rw [h6] at hf
  obtain rfl := Option.some.inj hf
  exact ref09_Lowest_l2_tells
attribute [local irreducible] arun in
theorem ref09_Lowest_tells : Tells Try.prog 50 c_ref09_Lowest :=
  told_tells (E := ref09_Lowest_env) (enc := ref09_Lowest_enc) (av := ref09_Lowest_av) (outs := ref09_Lowest_outs) (t := fun p : SAir × SSetting × Int × Int => ref09_Lowest_t p.1 p.2.1 p.2.2.1 p.2.2.2) (by kernel_rfl) ref09_Lowest_env_ok Try.func50 ref09_Lowest_loops ref09_Lowest_run
noncomputable def ref09_Lowest (a : SAir) (s : SSetting) (road : Int) (pressure : Int) : Option (Int) := gOfA ref09_Lowest_enc (fun p => (ref09_Lowest_t p.1 p.2.1 p.2.2.1 p.2.2.2).get) (ref09_Lowest_encC a s road pressure).1 (ref09_Lowest_encC a s road pressure).2
theorem ref09_Lowest_eq (a : SAir) (s : SSetting) (road : Int) (pressure : Int) : ref09_Lowest a s road pressure = (ref09_Lowest_t a s road pressure).get := congrFun (gOfA_eq ref09_Lowest_inj (fun p => (ref09_Lowest_t p.1 p.2.1 p.2.2.1 p.2.2.2).get)) (a, s, road, pressure)

/-! ### minecontrol/minecontrolref09.Highest -/
def ref09_Highest_encC (a : SAir) (s : SSetting) (road : Int) (pressure : Int) : List AV × List Blk := ([.agg [.slc 2 a.Mine.Places.n (fun k2876 => (SPlace.enc (a.Mine.Places.f k2876))), .slc 10 a.Mine.Roads.n (fun k2877 => (SRoad.enc (a.Mine.Roads.f k2877))), .slc 4 a.Fans.n (fun k2878 => (SFan.enc (a.Fans.f k2878))), .slc 3 a.Doors.n (fun k2879 => (SDoor.enc (a.Doors.f k2879)))], .agg [.slc 1 s.Fans.n (fun k2880 => [.int .i64 (s.Fans.f k2880)]), .slc 1 s.Doors.n (fun k2881 => [.int .i64 (s.Doors.f k2881)])], .int .i64 road, .int .i64 pressure], [])
def ref09_Highest_enc (p : SAir × SSetting × Int × Int) : List AV × List Blk := ref09_Highest_encC p.1 p.2.1 p.2.2.1 p.2.2.2
theorem ref09_Highest_inj (p q : SAir × SSetting × Int × Int) (h : ref09_Highest_enc p = ref09_Highest_enc q) : p = q :=
  (Prod.ext (SAir.ext2 (SMine.ext2 (Sq.av_inj SPlace.inj (a := p.1.Mine.Places) (b := q.1.Mine.Places) (congrArg (fun x : List AV × List Blk => argC x.1 0 0) h)) (Sq.av_inj SRoad.inj (a := p.1.Mine.Roads) (b := q.1.Mine.Roads) (congrArg (fun x : List AV × List Blk => argC x.1 0 1) h))) (Sq.av_inj SFan.inj (a := p.1.Fans) (b := q.1.Fans) (congrArg (fun x : List AV × List Blk => argC x.1 0 2) h)) (Sq.av_inj SDoor.inj (a := p.1.Doors) (b := q.1.Doors) (congrArg (fun x : List AV × List Blk => argC x.1 0 3) h))) (Prod.ext (SSetting.ext2 (Sq.av_inj intE_i64 (a := p.2.1.Fans) (b := q.2.1.Fans) (congrArg (fun x : List AV × List Blk => argC x.1 1 0) h)) (Sq.av_inj intE_i64 (a := p.2.1.Doors) (b := q.2.1.Doors) (congrArg (fun x : List AV × List Blk => argC x.1 1 1) h))) (Prod.ext (show p.2.2.1 = q.2.2.1 from congrArg intA (congrArg (fun x : List AV × List Blk => x.1.getD 2 .undef) h)) (show p.2.2.2 = q.2.2.2 from congrArg intA (congrArg (fun x : List AV × List Blk => x.1.getD 3 .undef) h)))))
def ref09_Highest_l2_s (p : (Int × Int × (Sq SPlace) × (Sq SRoad) × (Sq SFan) × (Sq SDoor) × (Sq Int) × (Sq Int)) × (Int × Int)) : St := ⟨[(2, .int .i64 p.1.1), (3, .int .i64 p.1.2.1), (4, .ptr 0 0), (5, .ptr 64 0), (9, .int .i64 p.2.2), (10, .int .i64 p.2.1)], [(0, .var [.slc 2 p.1.2.2.1.n (fun k2882 => (SPlace.enc (p.1.2.2.1.f k2882))), .slc 10 p.1.2.2.2.1.n (fun k2883 => (SRoad.enc (p.1.2.2.2.1.f k2883))), .slc 4 p.1.2.2.2.2.1.n (fun k2884 => (SFan.enc (p.1.2.2.2.2.1.f k2884))), .slc 3 p.1.2.2.2.2.2.1.n (fun k2885 => (SDoor.enc (p.1.2.2.2.2.2.1.f k2885)))]), (64, .var [.slc 1 p.1.2.2.2.2.2.2.1.n (fun k2886 => [.int .i64 (p.1.2.2.2.2.2.2.1.f k2886)]), .slc 1 p.1.2.2.2.2.2.2.2.n (fun k2887 => [.int .i64 (p.1.2.2.2.2.2.2.2.f k2887)])])], 320⟩
theorem ref09_Highest_l2_inj (p q : (Int × Int × (Sq SPlace) × (Sq SRoad) × (Sq SFan) × (Sq SDoor) × (Sq Int) × (Sq Int)) × (Int × Int)) (h : ref09_Highest_l2_s p = ref09_Highest_l2_s q) : p = q :=
  Prod.ext (Prod.ext (show p.1.1 = q.1.1 from congrArg intA (congrArg (fun x : St => aget x.tm 2) h)) (Prod.ext (show p.1.2.1 = q.1.2.1 from congrArg intA (congrArg (fun x : St => aget x.tm 3) h)) (Prod.ext (Sq.av_inj SPlace.inj (a := p.1.2.2.1) (b := q.1.2.2.1) (congrArg (fun x : St => cellS x 0 0) h)) (Prod.ext (Sq.av_inj SRoad.inj (a := p.1.2.2.2.1) (b := q.1.2.2.2.1) (congrArg (fun x : St => cellS x 0 1) h)) (Prod.ext (Sq.av_inj SFan.inj (a := p.1.2.2.2.2.1) (b := q.1.2.2.2.2.1) (congrArg (fun x : St => cellS x 0 2) h)) (Prod.ext (Sq.av_inj SDoor.inj (a := p.1.2.2.2.2.2.1) (b := q.1.2.2.2.2.2.1) (congrArg (fun x : St => cellS x 0 3) h)) (Prod.ext (Sq.av_inj intE_i64 (a := p.1.2.2.2.2.2.2.1) (b := q.1.2.2.2.2.2.2.1) (congrArg (fun x : St => cellS x 64 0) h)) (Sq.av_inj intE_i64 (a := p.1.2.2.2.2.2.2.2) (b := q.1.2.2.2.2.2.2.2) (congrArg (fun x : St => cellS x 64 1) h))))))))) (Prod.ext (show p.2.1 = q.2.1 from congrArg intA (congrArg (fun x : St => aget x.tm 10) h)) (show p.2.2 = q.2.2 from congrArg intA (congrArg (fun x : St => aget x.tm 9) h)))
noncomputable def ref09_Highest_l2_step (road_2_0 : Int) (pressure_2_1 : Int) (v2_2 : (Sq SPlace)) (v2_3 : (Sq SRoad)) (v2_4 : (Sq SFan)) (v2_5 : (Sq SDoor)) (v2_6 : (Sq Int)) (v2_7 : (Sq Int)) (high_2_8 : Int) (low_2_9 : Int) : DT (LR (Int × Int) (Int) (Unit)) :=
  .ite (decide (low_2_9 < high_2_8)) (
    .bind (ref09_Inner (SAir.mk (SMine.mk v2_2 v2_3) v2_4 v2_5) (SSetting.mk v2_6 v2_7) road_2_0 (wr (low_2_9 + (wr (Int.tdiv (wr (high_2_8 - low_2_9)) (2 : Int)))))) fun z2177 =>
    .ite (decide (z2177.Low ≥ pressure_2_1)) (
      .leaf (.next ((wr (low_2_9 + (wr (Int.tdiv (wr (high_2_8 - low_2_9)) (2 : Int))))), low_2_9))) (
      .leaf (.next (high_2_8, (wr ((wr (low_2_9 + (wr (Int.tdiv (wr (high_2_8 - low_2_9)) (2 : Int))))) + (1 : Int))))))) (
    .leaf (.l low_2_9))
def ref09_Highest_l2_el (x : St) (a : Int) : St := ⟨[(9, .int .i64 a)], [(0, blkS x 0), (64, blkS x 64)], 320⟩
def ref09_Highest_l2_er (_ : St) (_ : Unit) : St := ⟨[], [], 0⟩
noncomputable def ref09_Highest_l2_f (p : (Int × Int × (Sq SPlace) × (Sq SRoad) × (Sq SFan) × (Sq SDoor) × (Sq Int) × (Sq Int)) × (Int × Int)) : Option ((Int) ⊕ (Unit)) := fixO (fun v : Int × Int => ref09_Highest_l2_step p.1.1 p.1.2.1 p.1.2.2.1 p.1.2.2.2.1 p.1.2.2.2.2.1 p.1.2.2.2.2.2.1 p.1.2.2.2.2.2.2.1 p.1.2.2.2.2.2.2.2 v.1 v.2) p.2
noncomputable def ref09_Highest_l2_c : St → Option LRes := loopM ref09_Highest_l2_s ref09_Highest_l2_f true (.exit 0) ref09_Highest_l2_el .ret ref09_Highest_l2_er
noncomputable def ref09_Highest_l2 (road_2_0 : Int) (pressure_2_1 : Int) (v2_2 : (Sq SPlace)) (v2_3 : (Sq SRoad)) (v2_4 : (Sq SFan)) (v2_5 : (Sq SDoor)) (v2_6 : (Sq Int)) (v2_7 : (Sq Int)) (high_2_8 : Int) (low_2_9 : Int) : Option ((Int) ⊕ (Unit)) := gOfS ref09_Highest_l2_s ref09_Highest_l2_f (ref09_Highest_l2_s ((road_2_0, pressure_2_1, v2_2, v2_3, v2_4, v2_5, v2_6, v2_7), (high_2_8, low_2_9)))
theorem ref09_Highest_l2_eq (road_2_0 : Int) (pressure_2_1 : Int) (v2_2 : (Sq SPlace)) (v2_3 : (Sq SRoad)) (v2_4 : (Sq SFan)) (v2_5 : (Sq SDoor)) (v2_6 : (Sq Int)) (v2_7 : (Sq Int)) (high_2_8 : Int) (low_2_9 : Int) : ref09_Highest_l2 road_2_0 pressure_2_1 v2_2 v2_3 v2_4 v2_5 v2_6 v2_7 high_2_8 low_2_9 = fixO (fun v : Int × Int => ref09_Highest_l2_step road_2_0 pressure_2_1 v2_2 v2_3 v2_4 v2_5 v2_6 v2_7 v.1 v.2) (high_2_8, low_2_9) := gOfS_eq ref09_Highest_l2_inj ref09_Highest_l2_f ((road_2_0, pressure_2_1, v2_2, v2_3, v2_4, v2_5, v2_6, v2_7), (high_2_8, low_2_9))
noncomputable def ref09_Highest_t (a : SAir) (s : SSetting) (road : Int) (pressure : Int) : DT (Int) :=
  .sum (ref09_Highest_l2 road pressure a.Mine.Places a.Mine.Roads a.Fans a.Doors s.Fans s.Doors (1048577 : Int) (-1048576 : Int)) (fun y2178 =>
    .leaf y2178) (fun _ =>
    .fail)
def ref09_Highest_av (r : Int) : AV := .int .i64 r
def ref09_Highest_outs (_ : List Blk) (_ : Int) : List Blk := []
noncomputable def c_ref09_Highest : List AV → List Blk → Option Ans := told ref09_Highest_enc (fun p => (ref09_Highest_t p.1 p.2.1 p.2.2.1 p.2.2.2).get) ref09_Highest_av ref09_Highest_outs true (fun _ _ _ => ⟨rfl, fun b hb => by cases hb⟩)
noncomputable def ref09_Highest_env : Env := { envS (fun f => match f with
  | 46 => c_ref09_Inner
  | _ => fun _ _ => none) (fun r => match r with | 2 => some ([2, 3, 4, 5, 9, 10], [9]) | _ => none) with loops := fun r => match r with | 2 => some ref09_Highest_l2_c | _ => none, gc := fun r => match r with | 2 => some [0, 64] | _ => none, mm := some 0 }
theorem ref09_Highest_env_ok : ∀ f, Tells Try.prog f (ref09_Highest_env.fs f) := by
  intro f
  by_cases h0 : f = 46
  · subst h0; exact ref09_Inner_tells
  have : ref09_Highest_env.fs f = fun _ _ => none := by
    unfold ref09_Highest_env envS
    dsimp only
    split
    · exact absurd rfl h0
    · rfl
  rw [this]
  exact Tells.none_ f
noncomputable def ref09_Highest_e : Env := { ref09_Highest_env with nt := 33 }
noncomputable def ref09_Highest_l2_b : Code := loopOf 2 Try.f51
theorem ref09_Highest_l2_round {R : Type} (fx : Int × Int × (Sq SPlace) × (Sq SRoad) × (Sq SFan) × (Sq SDoor) × (Sq Int) × (Sq Int)) (v : Int × Int) (N : Nat) (K : AX → St → Option R) : aloop (fun s j => aexec ref09_Highest_e ref09_Highest_l2_b s j) (headOf ref09_Highest_e ref09_Highest_l2_b 320) (exitOf ref09_Highest_e ref09_Highest_l2_b 320) (N + 1) (ref09_Highest_l2_s (fx, v)) K = (ref09_Highest_l2_step fx.1 fx.2.1 fx.2.2.1 fx.2.2.2.1 fx.2.2.2.2.1 fx.2.2.2.2.2.1 fx.2.2.2.2.2.2.1 fx.2.2.2.2.2.2.2 v.1 v.2).run (LR.elim
    (fun v' => aloop (fun s j => aexec ref09_Highest_e ref09_Highest_l2_b s j) (headOf ref09_Highest_e ref09_Highest_l2_b 320) (exitOf ref09_Highest_e ref09_Highest_l2_b 320) N (ref09_Highest_l2_s (fx, v')) K)
    (fun a => K (.exit 0) (ref09_Highest_l2_el (ref09_Highest_l2_s (fx, v)) a))
    (fun a => K .ret (ref09_Highest_l2_er (ref09_Highest_l2_s (fx, v)) a))) := by kernel_rfl
theorem ref09_Highest_l2_tells : LoopTells ref09_Highest_e ref09_Highest_l2_b ref09_Highest_l2_c :=
  loopM_tells (s := ref09_Highest_l2_s) (stl := ref09_Highest_l2_el) (str := ref09_Highest_l2_er) (step := fun (fx : Int × Int × (Sq SPlace) × (Sq SRoad) × (Sq SFan) × (Sq SDoor) × (Sq Int) × (Sq Int)) (v : Int × Int) => ref09_Highest_l2_step fx.1 fx.2.1 fx.2.2.1 fx.2.2.2.1 fx.2.2.2.2.1 fx.2.2.2.2.2.1 fx.2.2.2.2.2.2.1 fx.2.2.2.2.2.2.2 v.1 v.2) (n := 320) (fun _ => rfl) (fun _ _ _ _ => rfl) (fun _ _ _ _ => rfl) ref09_Highest_l2_round
theorem ref09_Highest_run (p : SAir × SSetting × Int × Int) : arun ref09_Highest_env Try.f51 (ref09_Highest_enc p).1 (ref09_Highest_enc p).2 = (ref09_Highest_t p.1 p.2.1 p.2.2.1 p.2.2.2).run fun r => some (ref09_Highest_av r, ref09_Highest_outs (ref09_Highest_enc p).2 r) := by kernel_rfl
theorem ref09_Highest_loops : ∀ c, Try.f51.body = some c → LoopsOK { ref09_Highest_env with nt := Try.f51.ntmps } c := by
  intro c hc
  refine loops_of c fun c' hc' f hf => ?_
  have hb : loopsOf c = [ref09_Highest_l2_b] := by
    have : Try.f51.body.map loopsOf = some [ref09_Highest_l2_b] := by kernel_rfl
    rw [hc] at this
    injection this
  rw [hb] at hc'
  clear hb
  obtain rfl := List.mem_singleton.1 hc'
  have h6 : firstReg ref09_Highest_l2_b = 2 := by kernel_rfl
  rw [h6] at hf
  obtain rfl := Option.some.inj hf
  exact ref09_Highest_l2_tells
attribute [local irreducible] arun in
theorem ref09_Highest_tells : Tells Try.prog 51 c_ref09_Highest :=
  told_tells (E := ref09_Highest_env) (enc := ref09_Highest_enc) (av := ref09_Highest_av) (outs := ref09_Highest_outs) (t := fun p : SAir × SSetting × Int × Int => ref09_Highest_t p.1 p.2.1 p.2.2.1 p.2.2.2) (by kernel_rfl) ref09_Highest_env_ok Try.func51 ref09_Highest_loops ref09_Highest_run
noncomputable def ref09_Highest (a : SAir) (s : SSetting) (road : Int) (pressure : Int) : Option (Int) := gOfA ref09_Highest_enc (fun p => (ref09_Highest_t p.1 p.2.1 p.2.2.1 p.2.2.2).get) (ref09_Highest_encC a s road pressure).1 (ref09_Highest_encC a s road pressure).2
theorem ref09_Highest_eq (a : SAir) (s : SSetting) (road : Int) (pressure : Int) : ref09_Highest a s road pressure = (ref09_Highest_t a s road pressure).get := congrFun (gOfA_eq ref09_Highest_inj (fun p => (ref09_Highest_t p.1 p.2.1 p.2.2.1 p.2.2.2).get)) (a, s, road, pressure)

/-! ### minecontrol/minecontrolref09.Flow -/
def ref09_Flow_encC (a : SAir) (s : SSetting) (road : Int) (pressure : Int) : List AV × List Blk := ([.agg [.slc 2 a.Mine.Places.n (fun k2888 => (SPlace.enc (a.Mine.Places.f k2888))), .slc 10 a.Mine.Roads.n (fun k2889 => (SRoad.enc (a.Mine.Roads.f k2889))), .slc 4 a.Fans.n (fun k2890 => (SFan.enc (a.Fans.f k2890))), .slc 3 a.Doors.n (fun k2891 => (SDoor.enc (a.Doors.f k2891)))], .agg [.slc 1 s.Fans.n (fun k2892 => [.int .i64 (s.Fans.f k2892)]), .slc 1 s.Doors.n (fun k2893 => [.int .i64 (s.Doors.f k2893)])], .int .i64 road, .int .i64 pressure], [])
def ref09_Flow_enc (p : SAir × SSetting × Int × Int) : List AV × List Blk := ref09_Flow_encC p.1 p.2.1 p.2.2.1 p.2.2.2
theorem ref09_Flow_inj (p q : SAir × SSetting × Int × Int) (h : ref09_Flow_enc p = ref09_Flow_enc q) : p = q :=
  (Prod.ext (SAir.ext2 (SMine.ext2 (Sq.av_inj SPlace.inj (a := p.1.Mine.Places) (b := q.1.Mine.Places) (congrArg (fun x : List AV × List Blk => argC x.1 0 0) h)) (Sq.av_inj SRoad.inj (a := p.1.Mine.Roads) (b := q.1.Mine.Roads) (congrArg (fun x : List AV × List Blk => argC x.1 0 1) h))) (Sq.av_inj SFan.inj (a := p.1.Fans) (b := q.1.Fans) (congrArg (fun x : List AV × List Blk => argC x.1 0 2) h)) (Sq.av_inj SDoor.inj (a := p.1.Doors) (b := q.1.Doors) (congrArg (fun x : List AV × List Blk => argC x.1 0 3) h))) (Prod.ext (SSetting.ext2 (Sq.av_inj intE_i64 (a := p.2.1.Fans) (b := q.2.1.Fans) (congrArg (fun x : List AV × List Blk => argC x.1 1 0) h)) (Sq.av_inj intE_i64 (a := p.2.1.Doors) (b := q.2.1.Doors) (congrArg (fun x : List AV × List Blk => argC x.1 1 1) h))) (Prod.ext (show p.2.2.1 = q.2.2.1 from congrArg intA (congrArg (fun x : List AV × List Blk => x.1.getD 2 .undef) h)) (show p.2.2.2 = q.2.2.2 from congrArg intA (congrArg (fun x : List AV × List Blk => x.1.getD 3 .undef) h)))))
noncomputable def ref09_Flow_t (a : SAir) (s : SSetting) (road : Int) (pressure : Int) : DT (SSpan) :=
  .bind (ref09_open a s road) fun z2165 =>
  .ite (!z2165) (
    .leaf (SSpan.mk (0 : Int) (0 : Int))) (
    .bind (ref09_Lowest a s road pressure) fun z2172 =>
    .bind (ref09_Highest a s road pressure) fun z2179 =>
    .leaf (SSpan.mk z2172 z2179))
def ref09_Flow_av (r : SSpan) : AV := .agg [.int .i64 r.Low, .int .i64 r.High]
def ref09_Flow_outs (_ : List Blk) (_ : SSpan) : List Blk := []
noncomputable def c_ref09_Flow : List AV → List Blk → Option Ans := told ref09_Flow_enc (fun p => (ref09_Flow_t p.1 p.2.1 p.2.2.1 p.2.2.2).get) ref09_Flow_av ref09_Flow_outs true (fun _ _ _ => ⟨rfl, fun b hb => by cases hb⟩)
noncomputable def ref09_Flow_env : Env := { envS (fun f => match f with
  | 45 => c_ref09_open
  | 50 => c_ref09_Lowest
  | 51 => c_ref09_Highest
  | _ => fun _ _ => none) with mm := some 0 }
theorem ref09_Flow_env_ok : ∀ f, Tells Try.prog f (ref09_Flow_env.fs f) := by
  intro f
  by_cases h0 : f = 45
  · subst h0; exact ref09_open_tells
  by_cases h1 : f = 50
  · subst h1; exact ref09_Lowest_tells
  by_cases h2 : f = 51
  · subst h2; exact ref09_Highest_tells
  have : ref09_Flow_env.fs f = fun _ _ => none := by
    unfold ref09_Flow_env envS
    dsimp only
    split
    · exact absurd rfl h0
    · exact absurd rfl h1
    · exact absurd rfl h2
    · rfl
  rw [this]
  exact Tells.none_ f
theorem ref09_Flow_run (p : SAir × SSetting × Int × Int) : arun ref09_Flow_env Try.f26 (ref09_Flow_enc p).1 (ref09_Flow_enc p).2 = (ref09_Flow_t p.1 p.2.1 p.2.2.1 p.2.2.2).run fun r => some (ref09_Flow_av r, ref09_Flow_outs (ref09_Flow_enc p).2 r) := by kernel_rfl
attribute [local irreducible] arun in
theorem ref09_Flow_tells : Tells Try.prog 26 c_ref09_Flow :=
  told_tells (E := ref09_Flow_env) (enc := ref09_Flow_enc) (av := ref09_Flow_av) (outs := ref09_Flow_outs) (t := fun p : SAir × SSetting × Int × Int => ref09_Flow_t p.1 p.2.1 p.2.2.1 p.2.2.2) (by kernel_rfl) ref09_Flow_env_ok Try.func26 (fun c _ => loops_none (E := { ref09_Flow_env with nt := Try.f26.ntmps }) (fun _ => rfl) c) ref09_Flow_run
noncomputable def ref09_Flow (a : SAir) (s : SSetting) (road : Int) (pressure : Int) : Option (SSpan) := gOfA ref09_Flow_enc (fun p => (ref09_Flow_t p.1 p.2.1 p.2.2.1 p.2.2.2).get) (ref09_Flow_encC a s road pressure).1 (ref09_Flow_encC a s road pressure).2
theorem ref09_Flow_eq (a : SAir) (s : SSetting) (road : Int) (pressure : Int) : ref09_Flow a s road pressure = (ref09_Flow_t a s road pressure).get := congrFun (gOfA_eq ref09_Flow_inj (fun p => (ref09_Flow_t p.1 p.2.1 p.2.2.1 p.2.2.2).get)) (a, s, road, pressure)

/-! ### minecontrol/branch.reachTo -/
def branch_reachTo_encC (l : (Sq Int)) (limit : Int) : List AV × List Blk := ([.slc 1 l.n (fun k2904 => [.int .i64 (l.f k2904)]), .int .i64 limit], [])
def branch_reachTo_enc (p : (Sq Int) × Int) : List AV × List Blk := branch_reachTo_encC p.1 p.2
theorem branch_reachTo_inj (p q : (Sq Int) × Int) (h : branch_reachTo_enc p = branch_reachTo_enc q) : p = q :=
  (Prod.ext (Sq.av_inj intE_i64 (a := p.1) (b := q.1) (congrArg (fun x : List AV × List Blk => x.1.getD 0 .undef) h)) (show p.2 = q.2 from congrArg intA (congrArg (fun x : List AV × List Blk => x.1.getD 1 .undef) h)))
def branch_reachTo_l2_s (p : (Int × (Sq Int)) × (Int)) : St := ⟨[(1, .int .i64 p.1.1), (7, .slc 1 p.1.2.n (fun k2905 => [.int .i64 (p.1.2.f k2905)])), (8, .int .i64 ((p.1.2.n : Nat) : Int)), (9, .int .i64 p.2)], [], 256⟩
theorem branch_reachTo_l2_inj (p q : (Int × (Sq Int)) × (Int)) (h : branch_reachTo_l2_s p = branch_reachTo_l2_s q) : p = q :=
  Prod.ext (Prod.ext (show p.1.1 = q.1.1 from congrArg intA (congrArg (fun x : St => aget x.tm 1) h)) (Sq.av_inj intE_i64 (a := p.1.2) (b := q.1.2) (congrArg (fun x : St => aget x.tm 7) h))) (show p.2 = q.2 from congrArg intA (congrArg (fun x : St => aget x.tm 9) h))
noncomputable def branch_reachTo_l2_step (limit_2_0 : Int) (v2_1 : (Sq Int)) (v2_3 : Int) : DT (LR (Int) (Unit) (Unit)) :=
  .ite (decide (v2_3 < ((v2_1.n : Nat) : Int))) (
    .ite (decide ((0 : Int) ≤ v2_3 ∧ v2_3 < ((v2_1.n : Nat) : Int))) (
      .bind (branch_within (v2_1.f (Int.toNat v2_3)) (wr (0 - limit_2_0)) limit_2_0) fun z2219 =>
      .ite (!z2219) (
        .leaf (.r ())) (
        .leaf (.next (wr (v2_3 + (1 : Int)))))) (
      .fail)) (
    .leaf (.l ()))
def branch_reachTo_l2_el (_ : St) (_ : Unit) : St := ⟨[(4, .undef)], [], 256⟩
def branch_reachTo_l2_er (_ : St) (_ : Unit) : St := ⟨[(4, .bool false)], [], 256⟩
noncomputable def branch_reachTo_l2_f (p : (Int × (Sq Int)) × (Int)) : Option ((Unit) ⊕ (Unit)) := fixO (fun v : Int => branch_reachTo_l2_step p.1.1 p.1.2 v) p.2
noncomputable def branch_reachTo_l2_c : St → Option LRes := loopM branch_reachTo_l2_s branch_reachTo_l2_f false (.exit 0) branch_reachTo_l2_el .ret branch_reachTo_l2_er
noncomputable def branch_reachTo_l2 (limit_2_0 : Int) (v2_1 : (Sq Int)) (v2_3 : Int) : Option ((Unit) ⊕ (Unit)) := gOfS branch_reachTo_l2_s branch_reachTo_l2_f (branch_reachTo_l2_s ((limit_2_0, v2_1), v2_3))
theorem branch_reachTo_l2_eq (limit_2_0 : Int) (v2_1 : (Sq Int)) (v2_3 : Int) : branch_reachTo_l2 limit_2_0 v2_1 v2_3 = fixO (fun v : Int => branch_reachTo_l2_step limit_2_0 v2_1 v) v2_3 := gOfS_eq branch_reachTo_l2_inj branch_reachTo_l2_f ((limit_2_0, v2_1), v2_3)
noncomputable def branch_reachTo_t (l : (Sq Int)) (limit : Int) : DT (Bool) :=
  .sum (branch_reachTo_l2 limit l (0 : Int)) (fun _ =>
    .leaf true) (fun _ =>
    .leaf false)
def branch_reachTo_av (r : Bool) : AV := .bool r
def branch_reachTo_outs (_ : List Blk) (_ : Bool) : List Blk := []
noncomputable def c_branch_reachTo : List AV → List Blk → Option Ans := told branch_reachTo_enc (fun p => (branch_reachTo_t p.1 p.2).get) branch_reachTo_av branch_reachTo_outs true (fun _ _ _ => ⟨rfl, fun b hb => by cases hb⟩)
noncomputable def branch_reachTo_env : Env := { envS (fun f => match f with
  | 43 => c_branch_within
  | _ => fun _ _ => none) (fun r => match r with | 2 => some ([1, 7, 8, 9], [4]) | _ => none) with loops := fun r => match r with | 2 => some branch_reachTo_l2_c | _ => none, gc := fun r => match r with | 2 => some [] | _ => none, mm := some 0 }
theorem branch_reachTo_env_ok : ∀ f, Tells Try.prog f (branch_reachTo_env.fs f) := by
  intro f
  by_cases h0 : f = 43
  · subst h0; exact branch_within_tells
  have : branch_reachTo_env.fs f = fun _ _ => none := by
    unfold branch_reachTo_env envS
    dsimp only
    split
    · exact absurd rfl h0
    · rfl
  rw [this]
  exact Tells.none_ f
noncomputable def branch_reachTo_e : Env := { branch_reachTo_env with nt := 20 }
noncomputable def branch_reachTo_l2_b : Code := loopOf 2 Try.f52
theorem branch_reachTo_l2_round {R : Type} (fx : Int × (Sq Int)) (v : Int) (N : Nat) (K : AX → St → Option R) : aloop (fun s j => aexec branch_reachTo_e branch_reachTo_l2_b s j) (headOf branch_reachTo_e branch_reachTo_l2_b 256) (exitOf branch_reachTo_e branch_reachTo_l2_b 256) (N + 1) (branch_reachTo_l2_s (fx, v)) K = (branch_reachTo_l2_step fx.1 fx.2 v).run (LR.elim
    (fun v' => aloop (fun s j => aexec branch_reachTo_e branch_reachTo_l2_b s j) (headOf branch_reachTo_e branch_reachTo_l2_b 256) (exitOf branch_reachTo_e branch_reachTo_l2_b 256) N (branch_reachTo_l2_s (fx, v')) K)
    (fun a => K (.exit 0) (branch_reachTo_l2_el (branch_reachTo_l2_s (fx, v)) a))
    (fun a => K .ret (branch_reachTo_l2_er (branch_reachTo_l2_s (fx, v)) a))) := by kernel_rfl
theorem branch_reachTo_l2_tells : LoopTells branch_reachTo_e branch_reachTo_l2_b branch_reachTo_l2_c :=
  loopM_tells (s := branch_reachTo_l2_s) (stl := branch_reachTo_l2_el) (str := branch_reachTo_l2_er) (step := fun (fx : Int × (Sq Int)) (v : Int) => branch_reachTo_l2_step fx.1 fx.2 v) (n := 256) (fun _ => rfl) (fun _ _ _ _ => rfl) (fun _ _ _ _ => rfl) branch_reachTo_l2_round
theorem branch_reachTo_run (p : (Sq Int) × Int) : arun branch_reachTo_env Try.f52 (branch_reachTo_enc p).1 (branch_reachTo_enc p).2 = (branch_reachTo_t p.1 p.2).run fun r => some (branch_reachTo_av r, branch_reachTo_outs (branch_reachTo_enc p).2 r) := by kernel_rfl
theorem branch_reachTo_loops : ∀ c, Try.f52.body = some c → LoopsOK { branch_reachTo_env with nt := Try.f52.ntmps } c := by
  intro c hc
  refine loops_of c fun c' hc' f hf => ?_
  have hb : loopsOf c = [branch_reachTo_l2_b] := by
    have : Try.f52.body.map loopsOf = some [branch_reachTo_l2_b] := by kernel_rfl
    rw [hc] at this
    injection this
  rw [hb] at hc'
  clear hb
  obtain rfl := List.mem_singleton.1 hc'
  have h6 : firstReg branch_reachTo_l2_b = 2 := by kernel_rfl
  rw [h6] at hf
  obtain rfl := Option.some.inj hf
  exact branch_reachTo_l2_tells
attribute [local irreducible] arun in
theorem branch_reachTo_tells : Tells Try.prog 52 c_branch_reachTo :=
  told_tells (E := branch_reachTo_env) (enc := branch_reachTo_enc) (av := branch_reachTo_av) (outs := branch_reachTo_outs) (t := fun p : (Sq Int) × Int => branch_reachTo_t p.1 p.2) (by kernel_rfl) branch_reachTo_env_ok Try.func52 branch_reachTo_loops branch_reachTo_run
noncomputable def branch_reachTo (l : (Sq Int)) (limit : Int) : Option (Bool) := gOfA branch_reachTo_enc (fun p => (branch_reachTo_t p.1 p.2).get) (branch_reachTo_encC l limit).1 (branch_reachTo_encC l limit).2
theorem branch_reachTo_eq (l : (Sq Int)) (limit : Int) : branch_reachTo l limit = (branch_reachTo_t l limit).get := congrFun (gOfA_eq branch_reachTo_inj (fun p => (branch_reachTo_t p.1 p.2).get)) (l, limit)

/-! ### minecontrol/branch.surfaceIsCalm -/
def branch_surfaceIsCalm_encC (m : SMine) (pressures : (Sq Int)) : List AV × List Blk := ([.agg [.slc 2 m.Places.n (fun k2906 => (SPlace.enc (m.Places.f k2906))), .slc 10 m.Roads.n (fun k2907 => (SRoad.enc (m.Roads.f k2907)))], .slc 1 pressures.n (fun k2908 => [.int .i64 (pressures.f k2908)])], [])
def branch_surfaceIsCalm_enc (p : SMine × (Sq Int)) : List AV × List Blk := branch_surfaceIsCalm_encC p.1 p.2
theorem branch_surfaceIsCalm_inj (p q : SMine × (Sq Int)) (h : branch_surfaceIsCalm_enc p = branch_surfaceIsCalm_enc q) : p = q :=
  (Prod.ext (SMine.ext2 (Sq.av_inj SPlace.inj (a := p.1.Places) (b := q.1.Places) (congrArg (fun x : List AV × List Blk => argC x.1 0 0) h)) (Sq.av_inj SRoad.inj (a := p.1.Roads) (b := q.1.Roads) (congrArg (fun x : List AV × List Blk => argC x.1 0 1) h))) (Sq.av_inj intE_i64 (a := p.2) (b := q.2) (congrArg (fun x : List AV × List Blk => x.1.getD 1 .undef) h)))
def branch_surfaceIsCalm_l2_s (p : ((Sq Int) × (Sq SPlace)) × (Int)) : St := ⟨[(1, .slc 1 p.1.1.n (fun k2909 => [.int .i64 (p.1.1.f k2909)])), (8, .slc 2 p.1.2.n (fun k2910 => (SPlace.enc (p.1.2.f k2910)))), (9, .int .i64 ((p.1.2.n : Nat) : Int)), (10, .int .i64 p.2)], [], 384⟩
theorem branch_surfaceIsCalm_l2_inj (p q : ((Sq Int) × (Sq SPlace)) × (Int)) (h : branch_surfaceIsCalm_l2_s p = branch_surfaceIsCalm_l2_s q) : p = q :=
  Prod.ext (Prod.ext (Sq.av_inj intE_i64 (a := p.1.1) (b := q.1.1) (congrArg (fun x : St => aget x.tm 1) h)) (Sq.av_inj SPlace.inj (a := p.1.2) (b := q.1.2) (congrArg (fun x : St => aget x.tm 8) h))) (show p.2 = q.2 from congrArg intA (congrArg (fun x : St => aget x.tm 10) h))
noncomputable def branch_surfaceIsCalm_l2_step (pressures_2_0 : (Sq Int)) (v2_1 : (Sq SPlace)) (v2_3 : Int) : DT (LR (Int) (Unit) (Unit)) :=
  .ite (decide (v2_3 < ((v2_1.n : Nat) : Int))) (
    .ite (decide ((0 : Int) ≤ v2_3 ∧ v2_3 < ((v2_1.n : Nat) : Int))) (
      .ite (v2_1.f (Int.toNat v2_3)).Surface (
        .ite (decide ((0 : Int) ≤ v2_3 ∧ v2_3 < ((pressures_2_0.n : Nat) : Int))) (
          .ite ((pressures_2_0.f (Int.toNat v2_3)) != (0 : Int)) (
            .leaf (.r ())) (
            .leaf (.next (wr (v2_3 + (1 : Int)))))) (
          .fail)) (
        .leaf (.next (wr (v2_3 + (1 : Int)))))) (
      .fail)) (
    .leaf (.l ()))
def branch_surfaceIsCalm_l2_el (_ : St) (_ : Unit) : St := ⟨[(4, .undef)], [], 384⟩
def branch_surfaceIsCalm_l2_er (_ : St) (_ : Unit) : St := ⟨[(4, .bool false)], [], 384⟩
noncomputable def branch_surfaceIsCalm_l2_f (p : ((Sq Int) × (Sq SPlace)) × (Int)) : Option ((Unit) ⊕ (Unit)) := fixO (fun v : Int => branch_surfaceIsCalm_l2_step p.1.1 p.1.2 v) p.2
noncomputable def branch_surfaceIsCalm_l2_c : St → Option LRes := loopM branch_surfaceIsCalm_l2_s branch_surfaceIsCalm_l2_f false (.exit 0) branch_surfaceIsCalm_l2_el .ret branch_surfaceIsCalm_l2_er
noncomputable def branch_surfaceIsCalm_l2 (pressures_2_0 : (Sq Int)) (v2_1 : (Sq SPlace)) (v2_3 : Int) : Option ((Unit) ⊕ (Unit)) := gOfS branch_surfaceIsCalm_l2_s branch_surfaceIsCalm_l2_f (branch_surfaceIsCalm_l2_s ((pressures_2_0, v2_1), v2_3))
theorem branch_surfaceIsCalm_l2_eq (pressures_2_0 : (Sq Int)) (v2_1 : (Sq SPlace)) (v2_3 : Int) : branch_surfaceIsCalm_l2 pressures_2_0 v2_1 v2_3 = fixO (fun v : Int => branch_surfaceIsCalm_l2_step pressures_2_0 v2_1 v) v2_3 := gOfS_eq branch_surfaceIsCalm_l2_inj branch_surfaceIsCalm_l2_f ((pressures_2_0, v2_1), v2_3)
noncomputable def branch_surfaceIsCalm_t (m : SMine) (pressures : (Sq Int)) : DT (Bool) :=
  .sum (branch_surfaceIsCalm_l2 pressures m.Places (0 : Int)) (fun _ =>
    .leaf true) (fun _ =>
    .leaf false)
def branch_surfaceIsCalm_av (r : Bool) : AV := .bool r
def branch_surfaceIsCalm_outs (_ : List Blk) (_ : Bool) : List Blk := []
noncomputable def c_branch_surfaceIsCalm : List AV → List Blk → Option Ans := told branch_surfaceIsCalm_enc (fun p => (branch_surfaceIsCalm_t p.1 p.2).get) branch_surfaceIsCalm_av branch_surfaceIsCalm_outs true (fun _ _ _ => ⟨rfl, fun b hb => by cases hb⟩)
noncomputable def branch_surfaceIsCalm_env : Env := { envS (fun _ _ _ => none) (fun r => match r with | 2 => some ([1, 8, 9, 10], [4]) | _ => none) with loops := fun r => match r with | 2 => some branch_surfaceIsCalm_l2_c | _ => none, gc := fun r => match r with | 2 => some [] | _ => none, mm := some 0 }
theorem branch_surfaceIsCalm_env_ok : ∀ f, Tells Try.prog f (branch_surfaceIsCalm_env.fs f) := fun f => Tells.none_ f

noncomputable def branch_surfaceIsCalm_e : Env := { branch_surfaceIsCalm_env with nt := 25 }
noncomputable def branch_surfaceIsCalm_l2_b : Code := loopOf 2 Try.f53
theorem branch_surfaceIsCalm_l2_round {R : Type} (fx : (Sq Int) × (Sq SPlace)) (v : Int) (N : Nat) (K : AX → St → Option R) : aloop (fun s j => aexec branch_surfaceIsCalm_e branch_surfaceIsCalm_l2_b s j) (headOf branch_surfaceIsCalm_e branch_surfaceIsCalm_l2_b 384) (exitOf branch_surfaceIsCalm_e branch_surfaceIsCalm_l2_b 384) (N + 1) (branch_surfaceIsCalm_l2_s (fx, v)) K = (branch_surfaceIsCalm_l2_step fx.1 fx.2 v).run (LR.elim
    (fun v' => aloop (fun s j => aexec branch_surfaceIsCalm_e branch_surfaceIsCalm_l2_b s j) (headOf branch_surfaceIsCalm_e branch_surfaceIsCalm_l2_b 384) (exitOf branch_surfaceIsCalm_e branch_surfaceIsCalm_l2_b 384) N (branch_surfaceIsCalm_l2_s (fx, v')) K)
    (fun a => K (.exit 0) (branch_surfaceIsCalm_l2_el (branch_surfaceIsCalm_l2_s (fx, v)) a))
    (fun a => K .ret (branch_surfaceIsCalm_l2_er (branch_surfaceIsCalm_l2_s (fx, v)) a))) := by kernel_rfl
theorem branch_surfaceIsCalm_l2_tells : LoopTells branch_surfaceIsCalm_e branch_surfaceIsCalm_l2_b branch_surfaceIsCalm_l2_c :=
  loopM_tells (s := branch_surfaceIsCalm_l2_s) (stl := branch_surfaceIsCalm_l2_el) (str := branch_surfaceIsCalm_l2_er) (step := fun (fx : (Sq Int) × (Sq SPlace)) (v : Int) => branch_surfaceIsCalm_l2_step fx.1 fx.2 v) (n := 384) (fun _ => rfl) (fun _ _ _ _ => rfl) (fun _ _ _ _ => rfl) branch_surfaceIsCalm_l2_round
theorem branch_surfaceIsCalm_run (p : SMine × (Sq Int)) : arun branch_surfaceIsCalm_env Try.f53 (branch_surfaceIsCalm_enc p).1 (branch_surfaceIsCalm_enc p).2 = (branch_surfaceIsCalm_t p.1 p.2).run fun r => some (branch_surfaceIsCalm_av r, branch_surfaceIsCalm_outs (branch_surfaceIsCalm_enc p).2 r) := by kernel_rfl
theorem branch_surfaceIsCalm_loops : ∀ c, Try.f53.body = some c → LoopsOK { branch_surfaceIsCalm_env with nt := Try.f53.ntmps } c := by
  intro c hc
  refine loops_of c fun c' hc' f hf => ?_
  have hb : loopsOf c = [branch_surfaceIsCalm_l2_b] := by
    have : Try.f53.body.map loopsOf = some [branch_surfaceIsCalm_l2_b] := by kernel_rfl
    rw [hc] at this
    injection this
  rw [hb] at hc'
  clear hb
  obtain rfl := List.mem_singleton.1 hc'
  have h6 : firstReg branch_surfaceIsCalm_l2_b = 2 := by kernel_rfl
  rw [h6] at hf
  obtain rfl := Option.some.inj hf
  exact branch_surfaceIsCalm_l2_tells
attribute [local irreducible] arun in
theorem branch_surfaceIsCalm_tells : Tells Try.prog 53 c_branch_surfaceIsCalm :=
  told_tells (E := branch_surfaceIsCalm_env) (enc := branch_surfaceIsCalm_enc) (av := branch_surfaceIsCalm_av) (outs := branch_surfaceIsCalm_outs) (t := fun p : SMine × (Sq Int) => branch_surfaceIsCalm_t p.1 p.2) (by kernel_rfl) branch_surfaceIsCalm_env_ok Try.func53 branch_surfaceIsCalm_loops branch_surfaceIsCalm_run
noncomputable def branch_surfaceIsCalm (m : SMine) (pressures : (Sq Int)) : Option (Bool) := gOfA branch_surfaceIsCalm_enc (fun p => (branch_surfaceIsCalm_t p.1 p.2).get) (branch_surfaceIsCalm_encC m pressures).1 (branch_surfaceIsCalm_encC m pressures).2
theorem branch_surfaceIsCalm_eq (m : SMine) (pressures : (Sq Int)) : branch_surfaceIsCalm m pressures = (branch_surfaceIsCalm_t m pressures).get := congrFun (gOfA_eq branch_surfaceIsCalm_inj (fun p => (branch_surfaceIsCalm_t p.1 p.2).get)) (m, pressures)

/-! ### minecontrol/branch.flowsFit -/
def branch_flowsFit_encC (a : SAir) (s : SSetting) (x : SState) : List AV × List Blk := ([.agg [.slc 2 a.Mine.Places.n (fun k2911 => (SPlace.enc (a.Mine.Places.f k2911))), .slc 10 a.Mine.Roads.n (fun k2912 => (SRoad.enc (a.Mine.Roads.f k2912))), .slc 4 a.Fans.n (fun k2913 => (SFan.enc (a.Fans.f k2913))), .slc 3 a.Doors.n (fun k2914 => (SDoor.enc (a.Doors.f k2914)))], .agg [.slc 1 s.Fans.n (fun k2915 => [.int .i64 (s.Fans.f k2915)]), .slc 1 s.Doors.n (fun k2916 => [.int .i64 (s.Doors.f k2916)])], .agg [.slc 1 x.Pressures.n (fun k2917 => [.int .i64 (x.Pressures.f k2917)]), .slc 1 x.Flows.n (fun k2918 => [.int .i64 (x.Flows.f k2918)])]], [])
def branch_flowsFit_enc (p : SAir × SSetting × SState) : List AV × List Blk := branch_flowsFit_encC p.1 p.2.1 p.2.2
theorem branch_flowsFit_inj (p q : SAir × SSetting × SState) (h : branch_flowsFit_enc p = branch_flowsFit_enc q) : p = q :=
  (Prod.ext (SAir.ext2 (SMine.ext2 (Sq.av_inj SPlace.inj (a := p.1.Mine.Places) (b := q.1.Mine.Places) (congrArg (fun x : List AV × List Blk => argC x.1 0 0) h)) (Sq.av_inj SRoad.inj (a := p.1.Mine.Roads) (b := q.1.Mine.Roads) (congrArg (fun x : List AV × List Blk => argC x.1 0 1) h))) (Sq.av_inj SFan.inj (a := p.1.Fans) (b := q.1.Fans) (congrArg (fun x : List AV × List Blk => argC x.1 0 2) h)) (Sq.av_inj SDoor.inj (a := p.1.Doors) (b := q.1.Doors) (congrArg (fun x : List AV × List Blk => argC x.1 0 3) h))) (Prod.ext (SSetting.ext2 (Sq.av_inj intE_i64 (a := p.2.1.Fans) (b := q.2.1.Fans) (congrArg (fun x : List AV × List Blk => argC x.1 1 0) h)) (Sq.av_inj intE_i64 (a := p.2.1.Doors) (b := q.2.1.Doors) (congrArg (fun x : List AV × List Blk => argC x.1 1 1) h))) (SState.ext2 (Sq.av_inj intE_i64 (a := p.2.2.Pressures) (b := q.2.2.Pressures) (congrArg (fun x : List AV × List Blk => argC x.1 2 0) h)) (Sq.av_inj intE_i64 (a := p.2.2.Flows) (b := q.2.2.Flows) (congrArg (fun x : List AV × List Blk => argC x.1 2 1) h)))))
def branch_flowsFit_l2_s (p : ((Sq SRoad) × (Sq SPlace) × (Sq SFan) × (Sq SDoor) × (Sq Int) × (Sq Int) × (Sq Int) × (Sq Int)) × (Int)) : St := ⟨[(3, .ptr 0 0), (4, .ptr 64 0), (5, .ptr 128 0), (13, .slc 10 p.1.1.n (fun k2919 => (SRoad.enc (p.1.1.f k2919)))), (14, .int .i64 ((p.1.1.n : Nat) : Int)), (15, .int .i64 p.2)], [(0, .var [.slc 2 p.1.2.1.n (fun k2920 => (SPlace.enc (p.1.2.1.f k2920))), .slc 10 p.1.1.n (fun k2921 => (SRoad.enc (p.1.1.f k2921))), .slc 4 p.1.2.2.1.n (fun k2922 => (SFan.enc (p.1.2.2.1.f k2922))), .slc 3 p.1.2.2.2.1.n (fun k2923 => (SDoor.enc (p.1.2.2.2.1.f k2923)))]), (64, .var [.slc 1 p.1.2.2.2.2.1.n (fun k2924 => [.int .i64 (p.1.2.2.2.2.1.f k2924)]), .slc 1 p.1.2.2.2.2.2.1.n (fun k2925 => [.int .i64 (p.1.2.2.2.2.2.1.f k2925)])]), (128, .var [.slc 1 p.1.2.2.2.2.2.2.1.n (fun k2926 => [.int .i64 (p.1.2.2.2.2.2.2.1.f k2926)]), .slc 1 p.1.2.2.2.2.2.2.2.n (fun k2927 => [.int .i64 (p.1.2.2.2.2.2.2.2.f k2927)])])], 576⟩
theorem branch_flowsFit_l2_inj (p q : ((Sq SRoad) × (Sq SPlace) × (Sq SFan) × (Sq SDoor) × (Sq Int) × (Sq Int) × (Sq Int) × (Sq Int)) × (Int)) (h : branch_flowsFit_l2_s p = branch_flowsFit_l2_s q) : p = q :=
  Prod.ext (Prod.ext (Sq.av_inj SRoad.inj (a := p.1.1) (b := q.1.1) (congrArg (fun x : St => aget x.tm 13) h)) (Prod.ext (Sq.av_inj SPlace.inj (a := p.1.2.1) (b := q.1.2.1) (congrArg (fun x : St => cellS x 0 0) h)) (Prod.ext (Sq.av_inj SFan.inj (a := p.1.2.2.1) (b := q.1.2.2.1) (congrArg (fun x : St => cellS x 0 2) h)) (Prod.ext (Sq.av_inj SDoor.inj (a := p.1.2.2.2.1) (b := q.1.2.2.2.1) (congrArg (fun x : St => cellS x 0 3) h)) (Prod.ext (Sq.av_inj intE_i64 (a := p.1.2.2.2.2.1) (b := q.1.2.2.2.2.1) (congrArg (fun x : St => cellS x 64 0) h)) (Prod.ext (Sq.av_inj intE_i64 (a := p.1.2.2.2.2.2.1) (b := q.1.2.2.2.2.2.1) (congrArg (fun x : St => cellS x 64 1) h)) (Prod.ext (Sq.av_inj intE_i64 (a := p.1.2.2.2.2.2.2.1) (b := q.1.2.2.2.2.2.2.1) (congrArg (fun x : St => cellS x 128 0) h)) (Sq.av_inj intE_i64 (a := p.1.2.2.2.2.2.2.2) (b := q.1.2.2.2.2.2.2.2) (congrArg (fun x : St => cellS x 128 1) h))))))))) (show p.2 = q.2 from congrArg intA (congrArg (fun x : St => aget x.tm 15) h))
noncomputable def branch_flowsFit_l2_step (v2_0 : (Sq SRoad)) (v2_2 : (Sq SPlace)) (v2_3 : (Sq SFan)) (v2_4 : (Sq SDoor)) (v2_5 : (Sq Int)) (v2_6 : (Sq Int)) (v2_7 : (Sq Int)) (v2_8 : (Sq Int)) (v2_9 : Int) : DT (LR (Int) (Unit) (Unit)) :=
  .ite (decide (v2_9 < ((v2_0.n : Nat) : Int))) (
    .ite (decide ((0 : Int) ≤ v2_9 ∧ v2_9 < ((v2_0.n : Nat) : Int))) (
      .ite (v2_0.f (Int.toNat v2_9)).Closed (
        .ite (decide ((0 : Int) ≤ v2_9 ∧ v2_9 < ((v2_8.n : Nat) : Int))) (
          .ite ((v2_8.f (Int.toNat v2_9)) != (0 : Int)) (
            .leaf (.r ())) (
            .leaf (.next (wr (v2_9 + (1 : Int)))))) (
          .fail)) (
        .bind (branch_airwayOf (SAir.mk (SMine.mk v2_2 v2_0) v2_3 v2_4) (SSetting.mk v2_5 v2_6) v2_9) fun z2227 =>
        .ite (decide ((0 : Int) ≤ v2_9 ∧ v2_9 < ((v2_8.n : Nat) : Int))) (
          .bind (branch_airway_drop z2227 (v2_8.f (Int.toNat v2_9))) fun z2228 =>
          .ite (decide ((0 : Int) ≤ (v2_0.f (Int.toNat v2_9)).From ∧ (v2_0.f (Int.toNat v2_9)).From < ((v2_7.n : Nat) : Int))) (
            .ite (decide ((0 : Int) ≤ (v2_0.f (Int.toNat v2_9)).To ∧ (v2_0.f (Int.toNat v2_9)).To < ((v2_7.n : Nat) : Int))) (
              .bind (branch_within (wr ((v2_7.f (Int.toNat (v2_0.f (Int.toNat v2_9)).From)) - (v2_7.f (Int.toNat (v2_0.f (Int.toNat v2_9)).To)))) z2228.Low z2228.High) fun z2229 =>
              .ite (!z2229) (
                .leaf (.r ())) (
                .leaf (.next (wr (v2_9 + (1 : Int)))))) (
              .fail)) (
            .fail)) (
          .fail))) (
      .fail)) (
    .leaf (.l ()))
def branch_flowsFit_l2_el (x : St) (_ : Unit) : St := ⟨[(6, .undef)], [(0, blkS x 0), (64, blkS x 64), (128, blkS x 128)], 576⟩
def branch_flowsFit_l2_er (x : St) (_ : Unit) : St := ⟨[(6, .bool false)], [(0, blkS x 0), (64, blkS x 64), (128, blkS x 128)], 576⟩
noncomputable def branch_flowsFit_l2_f (p : ((Sq SRoad) × (Sq SPlace) × (Sq SFan) × (Sq SDoor) × (Sq Int) × (Sq Int) × (Sq Int) × (Sq Int)) × (Int)) : Option ((Unit) ⊕ (Unit)) := fixO (fun v : Int => branch_flowsFit_l2_step p.1.1 p.1.2.1 p.1.2.2.1 p.1.2.2.2.1 p.1.2.2.2.2.1 p.1.2.2.2.2.2.1 p.1.2.2.2.2.2.2.1 p.1.2.2.2.2.2.2.2 v) p.2
noncomputable def branch_flowsFit_l2_c : St → Option LRes := loopM branch_flowsFit_l2_s branch_flowsFit_l2_f false (.exit 0) branch_flowsFit_l2_el .ret branch_flowsFit_l2_er
noncomputable def branch_flowsFit_l2 (v2_0 : (Sq SRoad)) (v2_2 : (Sq SPlace)) (v2_3 : (Sq SFan)) (v2_4 : (Sq SDoor)) (v2_5 : (Sq Int)) (v2_6 : (Sq Int)) (v2_7 : (Sq Int)) (v2_8 : (Sq Int)) (v2_9 : Int) : Option ((Unit) ⊕ (Unit)) := gOfS branch_flowsFit_l2_s branch_flowsFit_l2_f (branch_flowsFit_l2_s ((v2_0, v2_2, v2_3, v2_4, v2_5, v2_6, v2_7, v2_8), v2_9))
theorem branch_flowsFit_l2_eq (v2_0 : (Sq SRoad)) (v2_2 : (Sq SPlace)) (v2_3 : (Sq SFan)) (v2_4 : (Sq SDoor)) (v2_5 : (Sq Int)) (v2_6 : (Sq Int)) (v2_7 : (Sq Int)) (v2_8 : (Sq Int)) (v2_9 : Int) : branch_flowsFit_l2 v2_0 v2_2 v2_3 v2_4 v2_5 v2_6 v2_7 v2_8 v2_9 = fixO (fun v : Int => branch_flowsFit_l2_step v2_0 v2_2 v2_3 v2_4 v2_5 v2_6 v2_7 v2_8 v) v2_9 := gOfS_eq branch_flowsFit_l2_inj branch_flowsFit_l2_f ((v2_0, v2_2, v2_3, v2_4, v2_5, v2_6, v2_7, v2_8), v2_9)
noncomputable def branch_flowsFit_t (a : SAir) (s : SSetting) (x : SState) : DT (Bool) :=
  .sum (branch_flowsFit_l2 a.Mine.Roads a.Mine.Places a.Fans a.Doors s.Fans s.Doors x.Pressures x.Flows (0 : Int)) (fun _ =>
    .leaf true) (fun _ =>
    .leaf false)
def branch_flowsFit_av (r : Bool) : AV := .bool r
def branch_flowsFit_outs (_ : List Blk) (_ : Bool) : List Blk := []
noncomputable def c_branch_flowsFit : List AV → List Blk → Option Ans := told branch_flowsFit_enc (fun p => (branch_flowsFit_t p.1 p.2.1 p.2.2).get) branch_flowsFit_av branch_flowsFit_outs true (fun _ _ _ => ⟨rfl, fun b hb => by cases hb⟩)
noncomputable def branch_flowsFit_env : Env := { envS (fun f => match f with
  | 64 => c_branch_airwayOf
  | 44 => c_branch_airway_drop
  | 43 => c_branch_within
  | _ => fun _ _ => none) (fun r => match r with | 2 => some ([3, 4, 5, 13, 14, 15], [6]) | _ => none) with loops := fun r => match r with | 2 => some branch_flowsFit_l2_c | _ => none, gc := fun r => match r with | 2 => some [0, 64, 128] | _ => none, mm := some 0 }
theorem branch_flowsFit_env_ok : ∀ f, Tells Try.prog f (branch_flowsFit_env.fs f) := by
  intro f
  by_cases h0 : f = 64
  · subst h0; exact branch_airwayOf_tells
  by_cases h1 : f = 44
  · subst h1; exact branch_airway_drop_tells
  by_cases h2 : f = 43
  · subst h2; exact branch_within_tells
  have : branch_flowsFit_env.fs f = fun _ _ => none := by
    unfold branch_flowsFit_env envS
    dsimp only
    split
    · exact absurd rfl h0
    · exact absurd rfl h1
    · exact absurd rfl h2
    · rfl
  rw [this]
  exact Tells.none_ f
noncomputable def branch_flowsFit_e : Env := { branch_flowsFit_env with nt := 58 }
noncomputable def branch_flowsFit_l2_b : Code := loopOf 2 Try.f54
theorem branch_flowsFit_l2_round {R : Type} (fx : (Sq SRoad) × (Sq SPlace) × (Sq SFan) × (Sq SDoor) × (Sq Int) × (Sq Int) × (Sq Int) × (Sq Int)) (v : Int) (N : Nat) (K : AX → St → Option R) : aloop (fun s j => aexec branch_flowsFit_e branch_flowsFit_l2_b s j) (headOf branch_flowsFit_e branch_flowsFit_l2_b 576) (exitOf branch_flowsFit_e branch_flowsFit_l2_b 576) (N + 1) (branch_flowsFit_l2_s (fx, v)) K = (branch_flowsFit_l2_step fx.1 fx.2.1 fx.2.2.1 fx.2.2.2.1 fx.2.2.2.2.1 fx.2.2.2.2.2.1 fx.2.2.2.2.2.2.1 fx.2.2.2.2.2.2.2 v).run (LR.elim
    (fun v' => aloop (fun s j => aexec branch_flowsFit_e branch_flowsFit_l2_b s j) (headOf branch_flowsFit_e branch_flowsFit_l2_b 576) (exitOf branch_flowsFit_e branch_flowsFit_l2_b 576) N (branch_flowsFit_l2_s (fx, v')) K)
    (fun a => K (.exit 0) (branch_flowsFit_l2_el (branch_flowsFit_l2_s (fx, v)) a))
    (fun a => K .ret (branch_flowsFit_l2_er (branch_flowsFit_l2_s (fx, v)) a))) := by kernel_rfl
theorem branch_flowsFit_l2_tells : LoopTells branch_flowsFit_e branch_flowsFit_l2_b branch_flowsFit_l2_c :=
  loopM_tells (s := branch_flowsFit_l2_s) (stl := branch_flowsFit_l2_el) (str := branch_flowsFit_l2_er) (step := fun (fx : (Sq SRoad) × (Sq SPlace) × (Sq SFan) × (Sq SDoor) × (Sq Int) × (Sq Int) × (Sq Int) × (Sq Int)) (v : Int) => branch_flowsFit_l2_step fx.1 fx.2.1 fx.2.2.1 fx.2.2.2.1 fx.2.2.2.2.1 fx.2.2.2.2.2.1 fx.2.2.2.2.2.2.1 fx.2.2.2.2.2.2.2 v) (n := 576) (fun _ => rfl) (fun _ _ _ _ => rfl) (fun _ _ _ _ => rfl) branch_flowsFit_l2_round
theorem branch_flowsFit_run (p : SAir × SSetting × SState) : arun branch_flowsFit_env Try.f54 (branch_flowsFit_enc p).1 (branch_flowsFit_enc p).2 = (branch_flowsFit_t p.1 p.2.1 p.2.2).run fun r => some (branch_flowsFit_av r, branch_flowsFit_outs (branch_flowsFit_enc p).2 r) := by kernel_rfl
theorem branch_flowsFit_loops : ∀ c, Try.f54.body = some c → LoopsOK { branch_flowsFit_env with nt := Try.f54.ntmps } c := by
  intro c hc
  refine loops_of c fun c' hc' f hf => ?_
  have hb : loopsOf c = [branch_flowsFit_l2_b] := by
    have : Try.f54.body.map loopsOf = some [branch_flowsFit_l2_b] := by kernel_rfl
    rw [hc] at this
    injection this
  rw [hb] at hc'
  clear hb
  obtain rfl := List.mem_singleton.1 hc'
  have h6 : firstReg branch_flowsFit_l2_b = 2 := by kernel_rfl
  rw [h6] at hf
  obtain rfl := Option.some.inj hf
  exact branch_flowsFit_l2_tells
attribute [local irreducible] arun in
theorem branch_flowsFit_tells : Tells Try.prog 54 c_branch_flowsFit :=
  told_tells (E := branch_flowsFit_env) (enc := branch_flowsFit_enc) (av := branch_flowsFit_av) (outs := branch_flowsFit_outs) (t := fun p : SAir × SSetting × SState => branch_flowsFit_t p.1 p.2.1 p.2.2) (by kernel_rfl) branch_flowsFit_env_ok Try.func54 branch_flowsFit_loops branch_flowsFit_run
noncomputable def branch_flowsFit (a : SAir) (s : SSetting) (x : SState) : Option (Bool) := gOfA branch_flowsFit_enc (fun p => (branch_flowsFit_t p.1 p.2.1 p.2.2).get) (branch_flowsFit_encC a s x).1 (branch_flowsFit_encC a s x).2
theorem branch_flowsFit_eq (a : SAir) (s : SSetting) (x : SState) : branch_flowsFit a s x = (branch_flowsFit_t a s x).get := congrFun (gOfA_eq branch_flowsFit_inj (fun p => (branch_flowsFit_t p.1 p.2.1 p.2.2).get)) (a, s, x)

/-! ### minecontrol/branch.flowsAddUp -/
def branch_flowsAddUp_encC (m : SMine) (flows : (Sq Int)) : List AV × List Blk := ([.agg [.slc 2 m.Places.n (fun k2928 => (SPlace.enc (m.Places.f k2928))), .slc 10 m.Roads.n (fun k2929 => (SRoad.enc (m.Roads.f k2929)))], .slc 1 flows.n (fun k2930 => [.int .i64 (flows.f k2930)])], [])
def branch_flowsAddUp_enc (p : SMine × (Sq Int)) : List AV × List Blk := branch_flowsAddUp_encC p.1 p.2
theorem branch_flowsAddUp_inj (p q : SMine × (Sq Int)) (h : branch_flowsAddUp_enc p = branch_flowsAddUp_enc q) : p = q :=
  (Prod.ext (SMine.ext2 (Sq.av_inj SPlace.inj (a := p.1.Places) (b := q.1.Places) (congrArg (fun x : List AV × List Blk => argC x.1 0 0) h)) (Sq.av_inj SRoad.inj (a := p.1.Roads) (b := q.1.Roads) (congrArg (fun x : List AV × List Blk => argC x.1 0 1) h))) (Sq.av_inj intE_i64 (a := p.2) (b := q.2) (congrArg (fun x : List AV × List Blk => x.1.getD 1 .undef) h)))
def branch_flowsAddUp_l3_s (p : ((Sq Int) × (Sq SRoad) × (Sq SPlace)) × ((Sq Int) × Int)) : St := ⟨[(1, .slc 1 p.1.1.n (fun k2931 => [.int .i64 (p.1.1.f k2931)])), (2, .ptr 0 0), (5, .own 320 0), (15, .slc 10 p.1.2.1.n (fun k2932 => (SRoad.enc (p.1.2.1.f k2932)))), (16, .int .i64 ((p.1.2.1.n : Nat) : Int)), (17, .int .i64 p.2.2)], [(0, .var [.slc 2 p.1.2.2.n (fun k2933 => (SPlace.enc (p.1.2.2.f k2933))), .slc 10 p.1.2.1.n (fun k2934 => (SRoad.enc (p.1.2.1.f k2934)))]), (320, .row 0 1 p.2.1.n 3 (fun k2935 => [.int .i64 (p.2.1.f k2935)]))], 704⟩
theorem branch_flowsAddUp_l3_inj (p q : ((Sq Int) × (Sq SRoad) × (Sq SPlace)) × ((Sq Int) × Int)) (h : branch_flowsAddUp_l3_s p = branch_flowsAddUp_l3_s q) : p = q :=
  Prod.ext (Prod.ext (Sq.av_inj intE_i64 (a := p.1.1) (b := q.1.1) (congrArg (fun x : St => aget x.tm 1) h)) (Prod.ext (Sq.av_inj SRoad.inj (a := p.1.2.1) (b := q.1.2.1) (congrArg (fun x : St => aget x.tm 15) h)) (Sq.av_inj SPlace.inj (a := p.1.2.2) (b := q.1.2.2) (congrArg (fun x : St => cellS x 0 0) h)))) (Prod.ext (Sq.row_inj intE_i64 (a := p.2.1) (b := q.2.1) (congrArg (fun x : St => blkS x 320) h)) (show p.2.2 = q.2.2 from congrArg intA (congrArg (fun x : St => aget x.tm 17) h)))
noncomputable def branch_flowsAddUp_l3_step (flows_3_0 : (Sq Int)) (v3_1 : (Sq SRoad)) (_v3_3 : (Sq SPlace)) (v3_4 : (Sq Int)) (v3_5 : Int) : DT (LR ((Sq Int) × Int) ((Sq Int)) (Unit)) :=
  .ite (decide (v3_5 < ((v3_1.n : Nat) : Int))) (
    .ite (decide ((0 : Int) ≤ v3_5 ∧ v3_5 < ((v3_1.n : Nat) : Int))) (
      .ite (decide ((0 : Int) ≤ (v3_1.f (Int.toNat v3_5)).From ∧ (v3_1.f (Int.toNat v3_5)).From < ((v3_4.n : Nat) : Int))) (
        .ite (decide ((0 : Int) ≤ v3_5 ∧ v3_5 < ((flows_3_0.n : Nat) : Int))) (
          .ite (decide ((0 : Int) ≤ (v3_1.f (Int.toNat v3_5)).From ∧ (v3_1.f (Int.toNat v3_5)).From < ((v3_4.n : Nat) : Int))) (
            .ite (decide ((0 : Int) ≤ (v3_1.f (Int.toNat v3_5)).To ∧ (v3_1.f (Int.toNat v3_5)).To < ((v3_4.n : Nat) : Int))) (
              .ite (decide ((0 : Int) ≤ v3_5 ∧ v3_5 < ((flows_3_0.n : Nat) : Int))) (
                .ite (decide ((0 : Int) ≤ (v3_1.f (Int.toNat v3_5)).To ∧ (v3_1.f (Int.toNat v3_5)).To < ((v3_4.n : Nat) : Int))) (
                  .leaf (.next ((Sq.mk v3_4.n (fun k2258 => (cond (Nat.beq k2258 (Int.toNat (v3_1.f (Int.toNat v3_5)).To)) (wr ((cond (Nat.beq (Int.toNat (v3_1.f (Int.toNat v3_5)).To) (Int.toNat (v3_1.f (Int.toNat v3_5)).From)) (wr ((v3_4.f (Int.toNat (v3_1.f (Int.toNat v3_5)).From)) + (flows_3_0.f (Int.toNat v3_5)))) (v3_4.f (Int.toNat (v3_1.f (Int.toNat v3_5)).To))) - (flows_3_0.f (Int.toNat v3_5)))) (cond (Nat.beq k2258 (Int.toNat (v3_1.f (Int.toNat v3_5)).From)) (wr ((v3_4.f (Int.toNat (v3_1.f (Int.toNat v3_5)).From)) + (flows_3_0.f (Int.toNat v3_5)))) (v3_4.f k2258))))), (wr (v3_5 + (1 : Int)))))) (
                  .fail)) (
                .fail)) (
              .fail)) (
            .fail)) (
          .fail)) (
        .fail)) (
      .fail)) (
    .leaf (.l v3_4))
def branch_flowsAddUp_l3_el (x : St) (a : (Sq Int)) : St := ⟨[(2, .ptr 0 0), (5, .own 320 0)], [(0, blkS x 0), (320, .row 0 1 a.n 3 (fun k2936 => [.int .i64 (a.f k2936)]))], 704⟩
def branch_flowsAddUp_l3_er (_ : St) (_ : Unit) : St := ⟨[], [], 0⟩
noncomputable def branch_flowsAddUp_l3_f (p : ((Sq Int) × (Sq SRoad) × (Sq SPlace)) × ((Sq Int) × Int)) : Option (((Sq Int)) ⊕ (Unit)) := fixO (fun v : (Sq Int) × Int => branch_flowsAddUp_l3_step p.1.1 p.1.2.1 p.1.2.2 v.1 v.2) p.2
noncomputable def branch_flowsAddUp_l3_c : St → Option LRes := loopM branch_flowsAddUp_l3_s branch_flowsAddUp_l3_f true (.exit 0) branch_flowsAddUp_l3_el .ret branch_flowsAddUp_l3_er
noncomputable def branch_flowsAddUp_l3 (flows_3_0 : (Sq Int)) (v3_1 : (Sq SRoad)) (v3_3 : (Sq SPlace)) (v3_4 : (Sq Int)) (v3_5 : Int) : Option (((Sq Int)) ⊕ (Unit)) := gOfS branch_flowsAddUp_l3_s branch_flowsAddUp_l3_f (branch_flowsAddUp_l3_s ((flows_3_0, v3_1, v3_3), (v3_4, v3_5)))
theorem branch_flowsAddUp_l3_eq (flows_3_0 : (Sq Int)) (v3_1 : (Sq SRoad)) (v3_3 : (Sq SPlace)) (v3_4 : (Sq Int)) (v3_5 : Int) : branch_flowsAddUp_l3 flows_3_0 v3_1 v3_3 v3_4 v3_5 = fixO (fun v : (Sq Int) × Int => branch_flowsAddUp_l3_step flows_3_0 v3_1 v3_3 v.1 v.2) (v3_4, v3_5) := gOfS_eq branch_flowsAddUp_l3_inj branch_flowsAddUp_l3_f ((flows_3_0, v3_1, v3_3), (v3_4, v3_5))
def branch_flowsAddUp_l9_s (p : ((Sq SPlace) × (Sq Int)) × (Int)) : St := ⟨[(5, .own 320 0), (46, .slc 2 p.1.1.n (fun k2937 => (SPlace.enc (p.1.1.f k2937)))), (47, .int .i64 ((p.1.1.n : Nat) : Int)), (48, .int .i64 p.2)], [(320, .row 0 1 p.1.2.n 3 (fun k2938 => [.int .i64 (p.1.2.f k2938)]))], 960⟩
theorem branch_flowsAddUp_l9_inj (p q : ((Sq SPlace) × (Sq Int)) × (Int)) (h : branch_flowsAddUp_l9_s p = branch_flowsAddUp_l9_s q) : p = q :=
  Prod.ext (Prod.ext (Sq.av_inj SPlace.inj (a := p.1.1) (b := q.1.1) (congrArg (fun x : St => aget x.tm 46) h)) (Sq.row_inj intE_i64 (a := p.1.2) (b := q.1.2) (congrArg (fun x : St => blkS x 320) h))) (show p.2 = q.2 from congrArg intA (congrArg (fun x : St => aget x.tm 48) h))
noncomputable def branch_flowsAddUp_l9_step (v9_0 : (Sq SPlace)) (v9_2 : (Sq Int)) (v9_3 : Int) : DT (LR (Int) (Unit) (Unit)) :=
  .ite (decide (v9_3 < ((v9_0.n : Nat) : Int))) (
    .ite (decide ((0 : Int) ≤ v9_3 ∧ v9_3 < ((v9_0.n : Nat) : Int))) (
      .ite (!(v9_0.f (Int.toNat v9_3)).Surface) (
        .ite (decide ((0 : Int) ≤ v9_3 ∧ v9_3 < ((v9_2.n : Nat) : Int))) (
          .ite ((v9_2.f (Int.toNat v9_3)) != (0 : Int)) (
            .leaf (.r ())) (
            .leaf (.next (wr (v9_3 + (1 : Int)))))) (
          .fail)) (
        .leaf (.next (wr (v9_3 + (1 : Int)))))) (
      .fail)) (
    .leaf (.l ()))
def branch_flowsAddUp_l9_el (x : St) (_ : Unit) : St := ⟨[(4, .undef)], [(320, blkS x 320)], 960⟩
def branch_flowsAddUp_l9_er (x : St) (_ : Unit) : St := ⟨[(4, .bool false)], [(320, blkS x 320)], 960⟩
noncomputable def branch_flowsAddUp_l9_f (p : ((Sq SPlace) × (Sq Int)) × (Int)) : Option ((Unit) ⊕ (Unit)) := fixO (fun v : Int => branch_flowsAddUp_l9_step p.1.1 p.1.2 v) p.2
noncomputable def branch_flowsAddUp_l9_c : St → Option LRes := loopM branch_flowsAddUp_l9_s branch_flowsAddUp_l9_f false (.exit 2) branch_flowsAddUp_l9_el .ret branch_flowsAddUp_l9_er
noncomputable def branch_flowsAddUp_l9 (v9_0 : (Sq SPlace)) (v9_2 : (Sq Int)) (v9_3 : Int) : Option ((Unit) ⊕ (Unit)) := gOfS branch_flowsAddUp_l9_s branch_flowsAddUp_l9_f (branch_flowsAddUp_l9_s ((v9_0, v9_2), v9_3))
theorem branch_flowsAddUp_l9_eq (v9_0 : (Sq SPlace)) (v9_2 : (Sq Int)) (v9_3 : Int) : branch_flowsAddUp_l9 v9_0 v9_2 v9_3 = fixO (fun v : Int => branch_flowsAddUp_l9_step v9_0 v9_2 v) v9_3 := gOfS_eq branch_flowsAddUp_l9_inj branch_flowsAddUp_l9_f ((v9_0, v9_2), v9_3)
noncomputable def branch_flowsAddUp_t (m : SMine) (flows : (Sq Int)) : DT (Bool) :=
  .ite (decide ((0 : Int) ≤ ((m.Places.n : Nat) : Int) ∧ ((m.Places.n : Nat) : Int) ≤ ((m.Places.n : Nat) : Int) ∧ ((m.Places.n : Nat) : Int) * ((8 : Nat) : Int) ≤ 140737488355328 ∧ ((m.Places.n : Nat) : Int) ≤ 1099511627776)) (
    .sum (branch_flowsAddUp_l3 flows m.Roads m.Places (Sq.mk (Int.toNat ((m.Places.n : Nat) : Int)) (fun _ => (0 : Int))) (0 : Int)) (fun y2259 =>
      .sum (branch_flowsAddUp_l9 m.Places y2259 (0 : Int)) (fun _ =>
        .leaf true) (fun _ =>
        .leaf false)) (fun _ =>
      .fail)) (
    .fail)
def branch_flowsAddUp_av (r : Bool) : AV := .bool r
def branch_flowsAddUp_outs (_ : List Blk) (_ : Bool) : List Blk := []
noncomputable def c_branch_flowsAddUp : List AV → List Blk → Option Ans := told branch_flowsAddUp_enc (fun p => (branch_flowsAddUp_t p.1 p.2).get) branch_flowsAddUp_av branch_flowsAddUp_outs true (fun _ _ _ => ⟨rfl, fun b hb => by cases hb⟩)
noncomputable def branch_flowsAddUp_env : Env := { envS (fun _ _ _ => none) (fun r => match r with | 3 => some ([1, 2, 5, 15, 16, 17], [2, 5]) | 9 => some ([5, 46, 47, 48], [4]) | _ => none) with loops := fun r => match r with | 3 => some branch_flowsAddUp_l3_c | 9 => some branch_flowsAddUp_l9_c | _ => none, gc := fun r => match r with | 3 => some [0, 320] | 9 => some [320] | _ => none, mm := some 0 }
theorem branch_flowsAddUp_env_ok : ∀ f, Tells Try.prog f (branch_flowsAddUp_env.fs f) := fun f => Tells.none_ f

noncomputable def branch_flowsAddUp_e : Env := { branch_flowsAddUp_env with nt := 64 }
noncomputable def branch_flowsAddUp_l3_b : Code := loopOf 3 Try.f55
theorem branch_flowsAddUp_l3_round {R : Type} (fx : (Sq Int) × (Sq SRoad) × (Sq SPlace)) (v : (Sq Int) × Int) (N : Nat) (K : AX → St → Option R) : aloop (fun s j => aexec branch_flowsAddUp_e branch_flowsAddUp_l3_b s j) (headOf branch_flowsAddUp_e branch_flowsAddUp_l3_b 704) (exitOf branch_flowsAddUp_e branch_flowsAddUp_l3_b 704) (N + 1) (branch_flowsAddUp_l3_s (fx, v)) K = (branch_flowsAddUp_l3_step fx.1 fx.2.1 fx.2.2 v.1 v.2).run (LR.elim
    (fun v' => aloop (fun s j => aexec branch_flowsAddUp_e branch_flowsAddUp_l3_b s j) (headOf branch_flowsAddUp_e branch_flowsAddUp_l3_b 704) (exitOf branch_flowsAddUp_e branch_flowsAddUp_l3_b 704) N (branch_flowsAddUp_l3_s (fx, v')) K)
    (fun a => K (.exit 0) (branch_flowsAddUp_l3_el (branch_flowsAddUp_l3_s (fx, v)) a))
    (fun a => K .ret (branch_flowsAddUp_l3_er (branch_flowsAddUp_l3_s (fx, v)) a))) := by kernel_rfl
theorem branch_flowsAddUp_l3_tells : LoopTells branch_flowsAddUp_e branch_flowsAddUp_l3_b branch_flowsAddUp_l3_c :=
  loopM_tells (s := branch_flowsAddUp_l3_s) (stl := branch_flowsAddUp_l3_el) (str := branch_flowsAddUp_l3_er) (step := fun (fx : (Sq Int) × (Sq SRoad) × (Sq SPlace)) (v : (Sq Int) × Int) => branch_flowsAddUp_l3_step fx.1 fx.2.1 fx.2.2 v.1 v.2) (n := 704) (fun _ => rfl) (fun _ _ _ _ => rfl) (fun _ _ _ _ => rfl) branch_flowsAddUp_l3_round
noncomputable def branch_flowsAddUp_l9_b : Code := loopOf 9 Try.f55
theorem branch_flowsAddUp_l9_round {R : Type} (fx : (Sq SPlace) × (Sq Int)) (v : Int) (N : Nat) (K : AX → St → Option R) : aloop (fun s j => aexec branch_flowsAddUp_e branch_flowsAddUp_l9_b s j) (headOf branch_flowsAddUp_e branch_flowsAddUp_l9_b 960) (exitOf branch_flowsAddUp_e branch_flowsAddUp_l9_b 960) (N + 1) (branch_flowsAddUp_l9_s (fx, v)) K = (branch_flowsAddUp_l9_step fx.1 fx.2 v).run (LR.elim
    (fun v' => aloop (fun s j => aexec branch_flowsAddUp_e branch_flowsAddUp_l9_b s j) (headOf branch_flowsAddUp_e branch_flowsAddUp_l9_b 960) (exitOf branch_flowsAddUp_e branch_flowsAddUp_l9_b 960) N (branch_flowsAddUp_l9_s (fx, v')) K)
    (fun a => K (.exit 2) (branch_flowsAddUp_l9_el (branch_flowsAddUp_l9_s (fx, v)) a))
    (fun a => K .ret (branch_flowsAddUp_l9_er (branch_flowsAddUp_l9_s (fx, v)) a))) := by kernel_rfl
theorem branch_flowsAddUp_l9_tells : LoopTells branch_flowsAddUp_e branch_flowsAddUp_l9_b branch_flowsAddUp_l9_c :=
  loopM_tells (s := branch_flowsAddUp_l9_s) (stl := branch_flowsAddUp_l9_el) (str := branch_flowsAddUp_l9_er) (step := fun (fx : (Sq SPlace) × (Sq Int)) (v : Int) => branch_flowsAddUp_l9_step fx.1 fx.2 v) (n := 960) (fun _ => rfl) (fun _ _ _ _ => rfl) (fun _ _ _ _ => rfl) branch_flowsAddUp_l9_round
theorem branch_flowsAddUp_run (p : SMine × (Sq Int)) : arun branch_flowsAddUp_env Try.f55 (branch_flowsAddUp_enc p).1 (branch_flowsAddUp_enc p).2 = (branch_flowsAddUp_t p.1 p.2).run fun r => some (branch_flowsAddUp_av r, branch_flowsAddUp_outs (branch_flowsAddUp_enc p).2 r) := by kernel_rfl
theorem branch_flowsAddUp_loops : ∀ c, Try.f55.body = some c → LoopsOK { branch_flowsAddUp_env with nt := Try.f55.ntmps } c := by
  intro c hc
  refine loops_of c fun c' hc' f hf => ?_
  have hb : loopsOf c = [branch_flowsAddUp_l3_b, branch_flowsAddUp_l9_b] := by
    have : Try.f55.body.map loopsOf = some [branch_flowsAddUp_l3_b, branch_flowsAddUp_l9_b] := by kernel_rfl
    rw [hc] at this
    injection this
  rw [hb] at hc'
  clear hb
  rcases List.mem_cons.1 hc' with rfl | hc'
  ·
    have h6 : firstReg branch_flowsAddUp_l3_b = 3 := by kernel_rfl
    rw [h6] at hf
    obtain rfl := Option.some.inj hf
    exact branch_flowsAddUp_l3_tells
  obtain rfl := List.mem_singleton.1 hc'
  have h6 : firstReg branch_flowsAddUp_l9_b = 9 := by kernel_rfl
  rw [h6] at hf
  obtain rfl := Option.some.inj hf
  exact branch_flowsAddUp_l9_tells
attribute [local irreducible] arun in
theorem branch_flowsAddUp_tells : Tells Try.prog 55 c_branch_flowsAddUp :=
  told_tells (E := branch_flowsAddUp_env) (enc := branch_flowsAddUp_enc) (av := branch_flowsAddUp_av) (outs := branch_flowsAddUp_outs) (t := fun p : SMine × (Sq Int) => branch_flowsAddUp_t p.1 p.2) (by kernel_rfl) branch_flowsAddUp_env_ok Try.func55 branch_flowsAddUp_loops branch_flowsAddUp_run
noncomputable def branch_flowsAddUp (m : SMine) (flows : (Sq Int)) : Option (Bool) := gOfA branch_flowsAddUp_enc (fun p => (branch_flowsAddUp_t p.1 p.2).get) (branch_flowsAddUp_encC m flows).1 (branch_flowsAddUp_encC m flows).2
theorem branch_flowsAddUp_eq (m : SMine) (flows : (Sq Int)) : branch_flowsAddUp m flows = (branch_flowsAddUp_t m flows).get := congrFun (gOfA_eq branch_flowsAddUp_inj (fun p => (branch_flowsAddUp_t p.1 p.2).get)) (m, flows)

/-! ### minecontrol/branch.Fits -/
def branch_Fits_encC (a : SAir) (s : SSetting) (x : SState) : List AV × List Blk := ([.agg [.slc 2 a.Mine.Places.n (fun k2939 => (SPlace.enc (a.Mine.Places.f k2939))), .slc 10 a.Mine.Roads.n (fun k2940 => (SRoad.enc (a.Mine.Roads.f k2940))), .slc 4 a.Fans.n (fun k2941 => (SFan.enc (a.Fans.f k2941))), .slc 3 a.Doors.n (fun k2942 => (SDoor.enc (a.Doors.f k2942)))], .agg [.slc 1 s.Fans.n (fun k2943 => [.int .i64 (s.Fans.f k2943)]), .slc 1 s.Doors.n (fun k2944 => [.int .i64 (s.Doors.f k2944)])], .agg [.slc 1 x.Pressures.n (fun k2945 => [.int .i64 (x.Pressures.f k2945)]), .slc 1 x.Flows.n (fun k2946 => [.int .i64 (x.Flows.f k2946)])]], [])
def branch_Fits_enc (p : SAir × SSetting × SState) : List AV × List Blk := branch_Fits_encC p.1 p.2.1 p.2.2
theorem branch_Fits_inj (p q : SAir × SSetting × SState) (h : branch_Fits_enc p = branch_Fits_enc q) : p = q :=
  (Prod.ext (SAir.ext2 (SMine.ext2 (Sq.av_inj SPlace.inj (a := p.1.Mine.Places) (b := q.1.Mine.Places) (congrArg (fun x : List AV × List Blk => argC x.1 0 0) h)) (Sq.av_inj SRoad.inj (a := p.1.Mine.Roads) (b := q.1.Mine.Roads) (congrArg (fun x : List AV × List Blk => argC x.1 0 1) h))) (Sq.av_inj SFan.inj (a := p.1.Fans) (b := q.1.Fans) (congrArg (fun x : List AV × List Blk => argC x.1 0 2) h)) (Sq.av_inj SDoor.inj (a := p.1.Doors) (b := q.1.Doors) (congrArg (fun x : List AV × List Blk => argC x.1 0 3) h))) (Prod.ext (SSetting.ext2 (Sq.av_inj intE_i64 (a := p.2.1.Fans) (b := q.2.1.Fans) (congrArg (fun x : List AV × List Blk => argC x.1 1 0) h)) (Sq.av_inj intE_i64 (a := p.2.1.Doors) (b := q.2.1.Doors) (congrArg (fun x : List AV × List Blk => argC x.1 1 1) h))) (SState.ext2 (Sq.av_inj intE_i64 (a := p.2.2.Pressures) (b := q.2.2.Pressures) (congrArg (fun x : List AV × List Blk => argC x.1 2 0) h)) (Sq.av_inj intE_i64 (a := p.2.2.Flows) (b := q.2.2.Flows) (congrArg (fun x : List AV × List Blk => argC x.1 2 1) h)))))
noncomputable def branch_Fits_t (a : SAir) (s : SSetting) (x : SState) : DT (Int) :=
  .bind (branch_Check a) fun z2215 =>
  .ite (z2215 != (0 : Int)) (
    .leaf z2215) (
    .bind (branch_belongs a s) fun z2216 =>
    .ite (!z2216) (
      .leaf (21 : Int)) (
      .ite (((x.Pressures.n : Nat) : Int) != ((a.Mine.Places.n : Nat) : Int)) (
        .leaf (11 : Int)) (
        .ite (((x.Flows.n : Nat) : Int) != ((a.Mine.Roads.n : Nat) : Int)) (
          .leaf (11 : Int)) (
          .bind (branch_reachTo x.Pressures (70368744177664 : Int)) fun z2222 =>
          .ite (!z2222) (
            .leaf (1 : Int)) (
            .bind (branch_reachTo x.Flows (1048576 : Int)) fun z2223 =>
            .ite (!z2223) (
              .leaf (1 : Int)) (
              .bind (branch_surfaceIsCalm a.Mine x.Pressures) fun z2226 =>
              .ite (!z2226) (
                .leaf (10 : Int)) (
                .bind (branch_flowsFit a s x) fun z2232 =>
                .ite (!z2232) (
                  .leaf (10 : Int)) (
                  .bind (branch_flowsAddUp a.Mine x.Flows) fun z2262 =>
                  .ite (!z2262) (
                    .leaf (10 : Int)) (
                    .leaf (0 : Int))))))))))
def branch_Fits_av (r : Int) : AV := .int .i64 r
def branch_Fits_outs (_ : List Blk) (_ : Int) : List Blk := []
noncomputable def c_branch_Fits : List AV → List Blk → Option Ans := told branch_Fits_enc (fun p => (branch_Fits_t p.1 p.2.1 p.2.2).get) branch_Fits_av branch_Fits_outs true (fun _ _ _ => ⟨rfl, fun b hb => by cases hb⟩)
noncomputable def branch_Fits_env : Env := { envS (fun f => match f with
  | 17 => c_branch_Check
  | 41 => c_branch_belongs
  | 52 => c_branch_reachTo
  | 53 => c_branch_surfaceIsCalm
  | 54 => c_branch_flowsFit
  | 55 => c_branch_flowsAddUp
  | _ => fun _ _ => none) with mm := some 0 }
theorem branch_Fits_env_ok : ∀ f, Tells Try.prog f (branch_Fits_env.fs f) := by
  intro f
  by_cases h0 : f = 17
  · subst h0; exact branch_Check_tells
  by_cases h1 : f = 41
  · subst h1; exact branch_belongs_tells
  by_cases h2 : f = 52
  · subst h2; exact branch_reachTo_tells
  by_cases h3 : f = 53
  · subst h3; exact branch_surfaceIsCalm_tells
  by_cases h4 : f = 54
  · subst h4; exact branch_flowsFit_tells
  by_cases h5 : f = 55
  · subst h5; exact branch_flowsAddUp_tells
  have : branch_Fits_env.fs f = fun _ _ => none := by
    unfold branch_Fits_env envS
    dsimp only
    split
    · exact absurd rfl h0
    · exact absurd rfl h1
    · exact absurd rfl h2
    · exact absurd rfl h3
    · exact absurd rfl h4
    · exact absurd rfl h5
    · rfl
  rw [this]
  exact Tells.none_ f
theorem branch_Fits_run (p : SAir × SSetting × SState) : arun branch_Fits_env Try.f27 (branch_Fits_enc p).1 (branch_Fits_enc p).2 = (branch_Fits_t p.1 p.2.1 p.2.2).run fun r => some (branch_Fits_av r, branch_Fits_outs (branch_Fits_enc p).2 r) := by kernel_rfl
attribute [local irreducible] arun in
theorem branch_Fits_tells : Tells Try.prog 27 c_branch_Fits :=
  told_tells (E := branch_Fits_env) (enc := branch_Fits_enc) (av := branch_Fits_av) (outs := branch_Fits_outs) (t := fun p : SAir × SSetting × SState => branch_Fits_t p.1 p.2.1 p.2.2) (by kernel_rfl) branch_Fits_env_ok Try.func27 (fun c _ => loops_none (E := { branch_Fits_env with nt := Try.f27.ntmps }) (fun _ => rfl) c) branch_Fits_run
noncomputable def branch_Fits (a : SAir) (s : SSetting) (x : SState) : Option (Int) := gOfA branch_Fits_enc (fun p => (branch_Fits_t p.1 p.2.1 p.2.2).get) (branch_Fits_encC a s x).1 (branch_Fits_encC a s x).2
theorem branch_Fits_eq (a : SAir) (s : SSetting) (x : SState) : branch_Fits a s x = (branch_Fits_t a s x).get := congrFun (gOfA_eq branch_Fits_inj (fun p => (branch_Fits_t p.1 p.2.1 p.2.2).get)) (a, s, x)

/-! ### minecontrol/minecontrolref09.Fits -/
def ref09_Fits_encC (a : SAir) (s : SSetting) (x : SState) : List AV × List Blk := ([.agg [.slc 2 a.Mine.Places.n (fun k2947 => (SPlace.enc (a.Mine.Places.f k2947))), .slc 10 a.Mine.Roads.n (fun k2948 => (SRoad.enc (a.Mine.Roads.f k2948))), .slc 4 a.Fans.n (fun k2949 => (SFan.enc (a.Fans.f k2949))), .slc 3 a.Doors.n (fun k2950 => (SDoor.enc (a.Doors.f k2950)))], .agg [.slc 1 s.Fans.n (fun k2951 => [.int .i64 (s.Fans.f k2951)]), .slc 1 s.Doors.n (fun k2952 => [.int .i64 (s.Doors.f k2952)])], .agg [.slc 1 x.Pressures.n (fun k2953 => [.int .i64 (x.Pressures.f k2953)]), .slc 1 x.Flows.n (fun k2954 => [.int .i64 (x.Flows.f k2954)])]], [])
def ref09_Fits_enc (p : SAir × SSetting × SState) : List AV × List Blk := ref09_Fits_encC p.1 p.2.1 p.2.2
theorem ref09_Fits_inj (p q : SAir × SSetting × SState) (h : ref09_Fits_enc p = ref09_Fits_enc q) : p = q :=
  (Prod.ext (SAir.ext2 (SMine.ext2 (Sq.av_inj SPlace.inj (a := p.1.Mine.Places) (b := q.1.Mine.Places) (congrArg (fun x : List AV × List Blk => argC x.1 0 0) h)) (Sq.av_inj SRoad.inj (a := p.1.Mine.Roads) (b := q.1.Mine.Roads) (congrArg (fun x : List AV × List Blk => argC x.1 0 1) h))) (Sq.av_inj SFan.inj (a := p.1.Fans) (b := q.1.Fans) (congrArg (fun x : List AV × List Blk => argC x.1 0 2) h)) (Sq.av_inj SDoor.inj (a := p.1.Doors) (b := q.1.Doors) (congrArg (fun x : List AV × List Blk => argC x.1 0 3) h))) (Prod.ext (SSetting.ext2 (Sq.av_inj intE_i64 (a := p.2.1.Fans) (b := q.2.1.Fans) (congrArg (fun x : List AV × List Blk => argC x.1 1 0) h)) (Sq.av_inj intE_i64 (a := p.2.1.Doors) (b := q.2.1.Doors) (congrArg (fun x : List AV × List Blk => argC x.1 1 1) h))) (SState.ext2 (Sq.av_inj intE_i64 (a := p.2.2.Pressures) (b := q.2.2.Pressures) (congrArg (fun x : List AV × List Blk => argC x.1 2 0) h)) (Sq.av_inj intE_i64 (a := p.2.2.Flows) (b := q.2.2.Flows) (congrArg (fun x : List AV × List Blk => argC x.1 2 1) h)))))
def ref09_Fits_l9_s (p : ((Sq SPlace) × (Sq SRoad) × (Sq SFan) × (Sq SDoor) × (Sq Int) × (Sq Int) × (Sq Int) × (Sq Int)) × (Int)) : St := ⟨[(3, .ptr 0 0), (4, .ptr 64 0), (5, .ptr 128 0), (8, .int .i64 p.2)], [(0, .var [.slc 2 p.1.1.n (fun k2955 => (SPlace.enc (p.1.1.f k2955))), .slc 10 p.1.2.1.n (fun k2956 => (SRoad.enc (p.1.2.1.f k2956))), .slc 4 p.1.2.2.1.n (fun k2957 => (SFan.enc (p.1.2.2.1.f k2957))), .slc 3 p.1.2.2.2.1.n (fun k2958 => (SDoor.enc (p.1.2.2.2.1.f k2958)))]), (64, .var [.slc 1 p.1.2.2.2.2.1.n (fun k2959 => [.int .i64 (p.1.2.2.2.2.1.f k2959)]), .slc 1 p.1.2.2.2.2.2.1.n (fun k2960 => [.int .i64 (p.1.2.2.2.2.2.1.f k2960)])]), (128, .var [.slc 1 p.1.2.2.2.2.2.2.1.n (fun k2961 => [.int .i64 (p.1.2.2.2.2.2.2.1.f k2961)]), .slc 1 p.1.2.2.2.2.2.2.2.n (fun k2962 => [.int .i64 (p.1.2.2.2.2.2.2.2.f k2962)])])], 2304⟩
theorem ref09_Fits_l9_inj (p q : ((Sq SPlace) × (Sq SRoad) × (Sq SFan) × (Sq SDoor) × (Sq Int) × (Sq Int) × (Sq Int) × (Sq Int)) × (Int)) (h : ref09_Fits_l9_s p = ref09_Fits_l9_s q) : p = q :=
  Prod.ext (Prod.ext (Sq.av_inj SPlace.inj (a := p.1.1) (b := q.1.1) (congrArg (fun x : St => cellS x 0 0) h)) (Prod.ext (Sq.av_inj SRoad.inj (a := p.1.2.1) (b := q.1.2.1) (congrArg (fun x : St => cellS x 0 1) h)) (Prod.ext (Sq.av_inj SFan.inj (a := p.1.2.2.1) (b := q.1.2.2.1) (congrArg (fun x : St => cellS x 0 2) h)) (Prod.ext (Sq.av_inj SDoor.inj (a := p.1.2.2.2.1) (b := q.1.2.2.2.1) (congrArg (fun x : St => cellS x 0 3) h)) (Prod.ext (Sq.av_inj intE_i64 (a := p.1.2.2.2.2.1) (b := q.1.2.2.2.2.1) (congrArg (fun x : St => cellS x 64 0) h)) (Prod.ext (Sq.av_inj intE_i64 (a := p.1.2.2.2.2.2.1) (b := q.1.2.2.2.2.2.1) (congrArg (fun x : St => cellS x 64 1) h)) (Prod.ext (Sq.av_inj intE_i64 (a := p.1.2.2.2.2.2.2.1) (b := q.1.2.2.2.2.2.2.1) (congrArg (fun x : St => cellS x 128 0) h)) (Sq.av_inj intE_i64 (a := p.1.2.2.2.2.2.2.2) (b := q.1.2.2.2.2.2.2.2) (congrArg (fun x : St => cellS x 128 1) h))))))))) (show p.2 = q.2 from congrArg intA (congrArg (fun x : St => aget x.tm 8) h))
noncomputable def ref09_Fits_l9_step (_v9_0 : (Sq SPlace)) (_v9_1 : (Sq SRoad)) (_v9_2 : (Sq SFan)) (_v9_3 : (Sq SDoor)) (_v9_4 : (Sq Int)) (_v9_5 : (Sq Int)) (v9_6 : (Sq Int)) (_v9_7 : (Sq Int)) (i_9_8 : Int) : DT (LR (Int) (Unit) (Unit)) :=
  .ite (decide (i_9_8 < ((v9_6.n : Nat) : Int))) (
    .ite (decide ((0 : Int) ≤ i_9_8 ∧ i_9_8 < ((v9_6.n : Nat) : Int))) (
      .ite (decide ((v9_6.f (Int.toNat i_9_8)) < (-70368744177664 : Int))) (
        .leaf (.r ())) (
        .ite (decide ((0 : Int) ≤ i_9_8 ∧ i_9_8 < ((v9_6.n : Nat) : Int))) (
          .ite (decide ((v9_6.f (Int.toNat i_9_8)) > (70368744177664 : Int))) (
            .leaf (.r ())) (
            .leaf (.next (wr (i_9_8 + (1 : Int)))))) (
          .fail))) (
      .fail)) (
    .leaf (.l ()))
def ref09_Fits_l9_el (x : St) (_ : Unit) : St := ⟨[(3, .ptr 0 0), (4, .ptr 64 0), (5, .ptr 128 0), (6, .undef)], [(0, blkS x 0), (64, blkS x 64), (128, blkS x 128)], 2304⟩
def ref09_Fits_l9_er (x : St) (_ : Unit) : St := ⟨[(3, .ptr 0 0), (4, .ptr 64 0), (5, .ptr 128 0), (6, .int .i64 (1 : Int))], [(0, blkS x 0), (64, blkS x 64), (128, blkS x 128)], 2304⟩
noncomputable def ref09_Fits_l9_f (p : ((Sq SPlace) × (Sq SRoad) × (Sq SFan) × (Sq SDoor) × (Sq Int) × (Sq Int) × (Sq Int) × (Sq Int)) × (Int)) : Option ((Unit) ⊕ (Unit)) := fixO (fun v : Int => ref09_Fits_l9_step p.1.1 p.1.2.1 p.1.2.2.1 p.1.2.2.2.1 p.1.2.2.2.2.1 p.1.2.2.2.2.2.1 p.1.2.2.2.2.2.2.1 p.1.2.2.2.2.2.2.2 v) p.2
noncomputable def ref09_Fits_l9_c : St → Option LRes := loopM ref09_Fits_l9_s ref09_Fits_l9_f false (.exit 0) ref09_Fits_l9_el .ret ref09_Fits_l9_er
noncomputable def ref09_Fits_l9 (v9_0 : (Sq SPlace)) (v9_1 : (Sq SRoad)) (v9_2 : (Sq SFan)) (v9_3 : (Sq SDoor)) (v9_4 : (Sq Int)) (v9_5 : (Sq Int)) (v9_6 : (Sq Int)) (v9_7 : (Sq Int)) (i_9_8 : Int) : Option ((Unit) ⊕ (Unit)) := gOfS ref09_Fits_l9_s ref09_Fits_l9_f (ref09_Fits_l9_s ((v9_0, v9_1, v9_2, v9_3, v9_4, v9_5, v9_6, v9_7), i_9_8))
theorem ref09_Fits_l9_eq (v9_0 : (Sq SPlace)) (v9_1 : (Sq SRoad)) (v9_2 : (Sq SFan)) (v9_3 : (Sq SDoor)) (v9_4 : (Sq Int)) (v9_5 : (Sq Int)) (v9_6 : (Sq Int)) (v9_7 : (Sq Int)) (i_9_8 : Int) : ref09_Fits_l9 v9_0 v9_1 v9_2 v9_3 v9_4 v9_5 v9_6 v9_7 i_9_8 = fixO (fun v : Int => ref09_Fits_l9_step v9_0 v9_1 v9_2 v9_3 v9_4 v9_5 v9_6 v9_7 v) i_9_8 := gOfS_eq ref09_Fits_l9_inj ref09_Fits_l9_f ((v9_0, v9_1, v9_2, v9_3, v9_4, v9_5, v9_6, v9_7), i_9_8)
def ref09_Fits_l14_s (p : ((Sq SPlace) × (Sq SRoad) × (Sq SFan) × (Sq SDoor) × (Sq Int) × (Sq Int) × (Sq Int) × (Sq Int)) × (Int)) : St := ⟨[(3, .ptr 0 0), (4, .ptr 64 0), (5, .ptr 128 0), (9, .int .i64 p.2)], [(0, .var [.slc 2 p.1.1.n (fun k2963 => (SPlace.enc (p.1.1.f k2963))), .slc 10 p.1.2.1.n (fun k2964 => (SRoad.enc (p.1.2.1.f k2964))), .slc 4 p.1.2.2.1.n (fun k2965 => (SFan.enc (p.1.2.2.1.f k2965))), .slc 3 p.1.2.2.2.1.n (fun k2966 => (SDoor.enc (p.1.2.2.2.1.f k2966)))]), (64, .var [.slc 1 p.1.2.2.2.2.1.n (fun k2967 => [.int .i64 (p.1.2.2.2.2.1.f k2967)]), .slc 1 p.1.2.2.2.2.2.1.n (fun k2968 => [.int .i64 (p.1.2.2.2.2.2.1.f k2968)])]), (128, .var [.slc 1 p.1.2.2.2.2.2.2.1.n (fun k2969 => [.int .i64 (p.1.2.2.2.2.2.2.1.f k2969)]), .slc 1 p.1.2.2.2.2.2.2.2.n (fun k2970 => [.int .i64 (p.1.2.2.2.2.2.2.2.f k2970)])])], 2368⟩
theorem ref09_Fits_l14_inj (p q : ((Sq SPlace) × (Sq SRoad) × (Sq SFan) × (Sq SDoor) × (Sq Int) × (Sq Int) × (Sq Int) × (Sq Int)) × (Int)) (h : ref09_Fits_l14_s p = ref09_Fits_l14_s q) : p = q :=
  Prod.ext (Prod.ext (Sq.av_inj SPlace.inj (a := p.1.1) (b := q.1.1) (congrArg (fun x : St => cellS x 0 0) h)) (Prod.ext (Sq.av_inj SRoad.inj (a := p.1.2.1) (b := q.1.2.1) (congrArg (fun x : St => cellS x 0 1) h)) (Prod.ext (Sq.av_inj SFan.inj (a := p.1.2.2.1) (b := q.1.2.2.1) (congrArg (fun x : St => cellS x 0 2) h)) (Prod.ext (Sq.av_inj SDoor.inj (a := p.1.2.2.2.1) (b := q.1.2.2.2.1) (congrArg (fun x : St => cellS x 0 3) h)) (Prod.ext (Sq.av_inj intE_i64 (a := p.1.2.2.2.2.1) (b := q.1.2.2.2.2.1) (congrArg (fun x : St => cellS x 64 0) h)) (Prod.ext (Sq.av_inj intE_i64 (a := p.1.2.2.2.2.2.1) (b := q.1.2.2.2.2.2.1) (congrArg (fun x : St => cellS x 64 1) h)) (Prod.ext (Sq.av_inj intE_i64 (a := p.1.2.2.2.2.2.2.1) (b := q.1.2.2.2.2.2.2.1) (congrArg (fun x : St => cellS x 128 0) h)) (Sq.av_inj intE_i64 (a := p.1.2.2.2.2.2.2.2) (b := q.1.2.2.2.2.2.2.2) (congrArg (fun x : St => cellS x 128 1) h))))))))) (show p.2 = q.2 from congrArg intA (congrArg (fun x : St => aget x.tm 9) h))
noncomputable def ref09_Fits_l14_step (_v14_0 : (Sq SPlace)) (_v14_1 : (Sq SRoad)) (_v14_2 : (Sq SFan)) (_v14_3 : (Sq SDoor)) (_v14_4 : (Sq Int)) (_v14_5 : (Sq Int)) (_v14_6 : (Sq Int)) (v14_7 : (Sq Int)) (i_14_8 : Int) : DT (LR (Int) (Unit) (Unit)) :=
  .ite (decide (i_14_8 < ((v14_7.n : Nat) : Int))) (
    .ite (decide ((0 : Int) ≤ i_14_8 ∧ i_14_8 < ((v14_7.n : Nat) : Int))) (
      .ite (decide ((v14_7.f (Int.toNat i_14_8)) < (-1048576 : Int))) (
        .leaf (.r ())) (
        .ite (decide ((0 : Int) ≤ i_14_8 ∧ i_14_8 < ((v14_7.n : Nat) : Int))) (
          .ite (decide ((v14_7.f (Int.toNat i_14_8)) > (1048576 : Int))) (
            .leaf (.r ())) (
            .leaf (.next (wr (i_14_8 + (1 : Int)))))) (
          .fail))) (
      .fail)) (
    .leaf (.l ()))
def ref09_Fits_l14_el (x : St) (_ : Unit) : St := ⟨[(3, .ptr 0 0), (4, .ptr 64 0), (5, .ptr 128 0), (6, .undef)], [(0, blkS x 0), (64, blkS x 64), (128, blkS x 128)], 2368⟩
def ref09_Fits_l14_er (x : St) (_ : Unit) : St := ⟨[(3, .ptr 0 0), (4, .ptr 64 0), (5, .ptr 128 0), (6, .int .i64 (1 : Int))], [(0, blkS x 0), (64, blkS x 64), (128, blkS x 128)], 2368⟩
noncomputable def ref09_Fits_l14_f (p : ((Sq SPlace) × (Sq SRoad) × (Sq SFan) × (Sq SDoor) × (Sq Int) × (Sq Int) × (Sq Int) × (Sq Int)) × (Int)) : Option ((Unit) ⊕ (Unit)) := fixO (fun v : Int => ref09_Fits_l14_step p.1.1 p.1.2.1 p.1.2.2.1 p.1.2.2.2.1 p.1.2.2.2.2.1 p.1.2.2.2.2.2.1 p.1.2.2.2.2.2.2.1 p.1.2.2.2.2.2.2.2 v) p.2
noncomputable def ref09_Fits_l14_c : St → Option LRes := loopM ref09_Fits_l14_s ref09_Fits_l14_f false (.exit 2) ref09_Fits_l14_el .ret ref09_Fits_l14_er
noncomputable def ref09_Fits_l14 (v14_0 : (Sq SPlace)) (v14_1 : (Sq SRoad)) (v14_2 : (Sq SFan)) (v14_3 : (Sq SDoor)) (v14_4 : (Sq Int)) (v14_5 : (Sq Int)) (v14_6 : (Sq Int)) (v14_7 : (Sq Int)) (i_14_8 : Int) : Option ((Unit) ⊕ (Unit)) := gOfS ref09_Fits_l14_s ref09_Fits_l14_f (ref09_Fits_l14_s ((v14_0, v14_1, v14_2, v14_3, v14_4, v14_5, v14_6, v14_7), i_14_8))
theorem ref09_Fits_l14_eq (v14_0 : (Sq SPlace)) (v14_1 : (Sq SRoad)) (v14_2 : (Sq SFan)) (v14_3 : (Sq SDoor)) (v14_4 : (Sq Int)) (v14_5 : (Sq Int)) (v14_6 : (Sq Int)) (v14_7 : (Sq Int)) (i_14_8 : Int) : ref09_Fits_l14 v14_0 v14_1 v14_2 v14_3 v14_4 v14_5 v14_6 v14_7 i_14_8 = fixO (fun v : Int => ref09_Fits_l14_step v14_0 v14_1 v14_2 v14_3 v14_4 v14_5 v14_6 v14_7 v) i_14_8 := gOfS_eq ref09_Fits_l14_inj ref09_Fits_l14_f ((v14_0, v14_1, v14_2, v14_3, v14_4, v14_5, v14_6, v14_7), i_14_8)
def ref09_Fits_l20_s (p : ((Sq SPlace) × (Sq SRoad) × (Sq SFan) × (Sq SDoor) × (Sq Int) × (Sq Int) × (Sq Int) × (Sq Int)) × ((Sq Int) × Int)) : St := ⟨[(3, .ptr 0 0), (4, .ptr 64 0), (5, .ptr 128 0), (10, .own 2560 0), (11, .int .i64 p.2.2)], [(0, .var [.slc 2 p.1.1.n (fun k2971 => (SPlace.enc (p.1.1.f k2971))), .slc 10 p.1.2.1.n (fun k2972 => (SRoad.enc (p.1.2.1.f k2972))), .slc 4 p.1.2.2.1.n (fun k2973 => (SFan.enc (p.1.2.2.1.f k2973))), .slc 3 p.1.2.2.2.1.n (fun k2974 => (SDoor.enc (p.1.2.2.2.1.f k2974)))]), (64, .var [.slc 1 p.1.2.2.2.2.1.n (fun k2975 => [.int .i64 (p.1.2.2.2.2.1.f k2975)]), .slc 1 p.1.2.2.2.2.2.1.n (fun k2976 => [.int .i64 (p.1.2.2.2.2.2.1.f k2976)])]), (128, .var [.slc 1 p.1.2.2.2.2.2.2.1.n (fun k2977 => [.int .i64 (p.1.2.2.2.2.2.2.1.f k2977)]), .slc 1 p.1.2.2.2.2.2.2.2.n (fun k2978 => [.int .i64 (p.1.2.2.2.2.2.2.2.f k2978)])]), (2560, .row 0 1 p.2.1.n 3 (fun k2979 => [.int .i64 (p.2.1.f k2979)]))], 2752⟩
theorem ref09_Fits_l20_inj (p q : ((Sq SPlace) × (Sq SRoad) × (Sq SFan) × (Sq SDoor) × (Sq Int) × (Sq Int) × (Sq Int) × (Sq Int)) × ((Sq Int) × Int)) (h : ref09_Fits_l20_s p = ref09_Fits_l20_s q) : p = q :=
  Prod.ext (Prod.ext (Sq.av_inj SPlace.inj (a := p.1.1) (b := q.1.1) (congrArg (fun x : St => cellS x 0 0) h)) (Prod.ext (Sq.av_inj SRoad.inj (a := p.1.2.1) (b := q.1.2.1) (congrArg (fun x : St => cellS x 0 1) h)) (Prod.ext (Sq.av_inj SFan.inj (a := p.1.2.2.1) (b := q.1.2.2.1) (congrArg (fun x : St => cellS x 0 2) h)) (Prod.ext (Sq.av_inj SDoor.inj (a := p.1.2.2.2.1) (b := q.1.2.2.2.1) (congrArg (fun x : St => cellS x 0 3) h)) (Prod.ext (Sq.av_inj intE_i64 (a := p.1.2.2.2.2.1) (b := q.1.2.2.2.2.1) (congrArg (fun x : St => cellS x 64 0) h)) (Prod.ext (Sq.av_inj intE_i64 (a := p.1.2.2.2.2.2.1) (b := q.1.2.2.2.2.2.1) (congrArg (fun x : St => cellS x 64 1) h)) (Prod.ext (Sq.av_inj intE_i64 (a := p.1.2.2.2.2.2.2.1) (b := q.1.2.2.2.2.2.2.1) (congrArg (fun x : St => cellS x 128 0) h)) (Sq.av_inj intE_i64 (a := p.1.2.2.2.2.2.2.2) (b := q.1.2.2.2.2.2.2.2) (congrArg (fun x : St => cellS x 128 1) h))))))))) (Prod.ext (Sq.row_inj intE_i64 (a := p.2.1) (b := q.2.1) (congrArg (fun x : St => blkS x 2560) h)) (show p.2.2 = q.2.2 from congrArg intA (congrArg (fun x : St => aget x.tm 11) h)))
noncomputable def ref09_Fits_l20_step (v20_0 : (Sq SPlace)) (v20_1 : (Sq SRoad)) (v20_2 : (Sq SFan)) (v20_3 : (Sq SDoor)) (v20_4 : (Sq Int)) (v20_5 : (Sq Int)) (v20_6 : (Sq Int)) (v20_7 : (Sq Int)) (v20_8 : (Sq Int)) (i_20_9 : Int) : DT (LR ((Sq Int) × Int) ((Sq Int)) ((Sq Int))) :=
  .ite (decide (i_20_9 < ((v20_7.n : Nat) : Int))) (
    .ite (decide ((0 : Int) ≤ i_20_9 ∧ i_20_9 < ((v20_1.n : Nat) : Int))) (
      .ite (v20_1.f (Int.toNat i_20_9)).Closed (
        .ite (decide ((0 : Int) ≤ i_20_9 ∧ i_20_9 < ((v20_7.n : Nat) : Int))) (
          .ite ((v20_7.f (Int.toNat i_20_9)) != (0 : Int)) (
            .leaf (.r v20_8)) (
            .ite (decide ((0 : Int) ≤ (v20_1.f (Int.toNat i_20_9)).From ∧ (v20_1.f (Int.toNat i_20_9)).From < ((v20_6.n : Nat) : Int))) (
              .ite (decide ((0 : Int) ≤ (v20_1.f (Int.toNat i_20_9)).To ∧ (v20_1.f (Int.toNat i_20_9)).To < ((v20_6.n : Nat) : Int))) (
                .ite (decide ((0 : Int) ≤ i_20_9 ∧ i_20_9 < ((v20_7.n : Nat) : Int))) (
                  .bind (ref09_Drop (SAir.mk (SMine.mk v20_0 v20_1) v20_2 v20_3) (SSetting.mk v20_4 v20_5) i_20_9 (v20_7.f (Int.toNat i_20_9))) fun z2341 =>
                  .ite (!(v20_1.f (Int.toNat i_20_9)).Closed) (
                    .ite (decide ((wr ((v20_6.f (Int.toNat (v20_1.f (Int.toNat i_20_9)).From)) - (v20_6.f (Int.toNat (v20_1.f (Int.toNat i_20_9)).To)))) < z2341.Low)) (
                      .leaf (.r v20_8)) (
                      .ite (decide ((wr ((v20_6.f (Int.toNat (v20_1.f (Int.toNat i_20_9)).From)) - (v20_6.f (Int.toNat (v20_1.f (Int.toNat i_20_9)).To)))) > z2341.High)) (
                        .leaf (.r v20_8)) (
                        .ite (decide ((0 : Int) ≤ (v20_1.f (Int.toNat i_20_9)).From ∧ (v20_1.f (Int.toNat i_20_9)).From < ((v20_8.n : Nat) : Int))) (
                          .ite (decide ((0 : Int) ≤ i_20_9 ∧ i_20_9 < ((v20_7.n : Nat) : Int))) (
                            .ite (decide ((0 : Int) ≤ (v20_1.f (Int.toNat i_20_9)).From ∧ (v20_1.f (Int.toNat i_20_9)).From < ((v20_8.n : Nat) : Int))) (
                              .ite (decide ((0 : Int) ≤ (v20_1.f (Int.toNat i_20_9)).To ∧ (v20_1.f (Int.toNat i_20_9)).To < ((v20_8.n : Nat) : Int))) (
                                .ite (decide ((0 : Int) ≤ i_20_9 ∧ i_20_9 < ((v20_7.n : Nat) : Int))) (
                                  .ite (decide ((0 : Int) ≤ (v20_1.f (Int.toNat i_20_9)).To ∧ (v20_1.f (Int.toNat i_20_9)).To < ((v20_8.n : Nat) : Int))) (
                                    .leaf (.next ((Sq.mk v20_8.n (fun k2342 => (cond (Nat.beq k2342 (Int.toNat (v20_1.f (Int.toNat i_20_9)).To)) (wr ((cond (Nat.beq (Int.toNat (v20_1.f (Int.toNat i_20_9)).To) (Int.toNat (v20_1.f (Int.toNat i_20_9)).From)) (wr ((v20_8.f (Int.toNat (v20_1.f (Int.toNat i_20_9)).From)) + (v20_7.f (Int.toNat i_20_9)))) (v20_8.f (Int.toNat (v20_1.f (Int.toNat i_20_9)).To))) - (v20_7.f (Int.toNat i_20_9)))) (cond (Nat.beq k2342 (Int.toNat (v20_1.f (Int.toNat i_20_9)).From)) (wr ((v20_8.f (Int.toNat (v20_1.f (Int.toNat i_20_9)).From)) + (v20_7.f (Int.toNat i_20_9)))) (v20_8.f k2342))))), (wr (i_20_9 + (1 : Int)))))) (
                                    .fail)) (
                                  .fail)) (
                                .fail)) (
                              .fail)) (
                            .fail)) (
                          .fail)))) (
                    .ite (decide ((0 : Int) ≤ (v20_1.f (Int.toNat i_20_9)).From ∧ (v20_1.f (Int.toNat i_20_9)).From < ((v20_8.n : Nat) : Int))) (
                      .ite (decide ((0 : Int) ≤ i_20_9 ∧ i_20_9 < ((v20_7.n : Nat) : Int))) (
                        .ite (decide ((0 : Int) ≤ (v20_1.f (Int.toNat i_20_9)).From ∧ (v20_1.f (Int.toNat i_20_9)).From < ((v20_8.n : Nat) : Int))) (
                          .ite (decide ((0 : Int) ≤ (v20_1.f (Int.toNat i_20_9)).To ∧ (v20_1.f (Int.toNat i_20_9)).To < ((v20_8.n : Nat) : Int))) (
                            .ite (decide ((0 : Int) ≤ i_20_9 ∧ i_20_9 < ((v20_7.n : Nat) : Int))) (
                              .ite (decide ((0 : Int) ≤ (v20_1.f (Int.toNat i_20_9)).To ∧ (v20_1.f (Int.toNat i_20_9)).To < ((v20_8.n : Nat) : Int))) (
                                .leaf (.next ((Sq.mk v20_8.n (fun k2343 => (cond (Nat.beq k2343 (Int.toNat (v20_1.f (Int.toNat i_20_9)).To)) (wr ((cond (Nat.beq (Int.toNat (v20_1.f (Int.toNat i_20_9)).To) (Int.toNat (v20_1.f (Int.toNat i_20_9)).From)) (wr ((v20_8.f (Int.toNat (v20_1.f (Int.toNat i_20_9)).From)) + (v20_7.f (Int.toNat i_20_9)))) (v20_8.f (Int.toNat (v20_1.f (Int.toNat i_20_9)).To))) - (v20_7.f (Int.toNat i_20_9)))) (cond (Nat.beq k2343 (Int.toNat (v20_1.f (Int.toNat i_20_9)).From)) (wr ((v20_8.f (Int.toNat (v20_1.f (Int.toNat i_20_9)).From)) + (v20_7.f (Int.toNat i_20_9)))) (v20_8.f k2343))))), (wr (i_20_9 + (1 : Int)))))) (
                                .fail)) (
                              .fail)) (
                            .fail)) (
                          .fail)) (
                        .fail)) (
                      .fail))) (
                  .fail)) (
                .fail)) (
              .fail))) (
          .fail)) (
        .ite (decide ((0 : Int) ≤ (v20_1.f (Int.toNat i_20_9)).From ∧ (v20_1.f (Int.toNat i_20_9)).From < ((v20_6.n : Nat) : Int))) (
          .ite (decide ((0 : Int) ≤ (v20_1.f (Int.toNat i_20_9)).To ∧ (v20_1.f (Int.toNat i_20_9)).To < ((v20_6.n : Nat) : Int))) (
            .ite (decide ((0 : Int) ≤ i_20_9 ∧ i_20_9 < ((v20_7.n : Nat) : Int))) (
              .bind (ref09_Drop (SAir.mk (SMine.mk v20_0 v20_1) v20_2 v20_3) (SSetting.mk v20_4 v20_5) i_20_9 (v20_7.f (Int.toNat i_20_9))) fun z2344 =>
              .ite (!(v20_1.f (Int.toNat i_20_9)).Closed) (
                .ite (decide ((wr ((v20_6.f (Int.toNat (v20_1.f (Int.toNat i_20_9)).From)) - (v20_6.f (Int.toNat (v20_1.f (Int.toNat i_20_9)).To)))) < z2344.Low)) (
                  .leaf (.r v20_8)) (
                  .ite (decide ((wr ((v20_6.f (Int.toNat (v20_1.f (Int.toNat i_20_9)).From)) - (v20_6.f (Int.toNat (v20_1.f (Int.toNat i_20_9)).To)))) > z2344.High)) (
                    .leaf (.r v20_8)) (
                    .ite (decide ((0 : Int) ≤ (v20_1.f (Int.toNat i_20_9)).From ∧ (v20_1.f (Int.toNat i_20_9)).From < ((v20_8.n : Nat) : Int))) (
                      .ite (decide ((0 : Int) ≤ i_20_9 ∧ i_20_9 < ((v20_7.n : Nat) : Int))) (
                        .ite (decide ((0 : Int) ≤ (v20_1.f (Int.toNat i_20_9)).From ∧ (v20_1.f (Int.toNat i_20_9)).From < ((v20_8.n : Nat) : Int))) (
                          .ite (decide ((0 : Int) ≤ (v20_1.f (Int.toNat i_20_9)).To ∧ (v20_1.f (Int.toNat i_20_9)).To < ((v20_8.n : Nat) : Int))) (
                            .ite (decide ((0 : Int) ≤ i_20_9 ∧ i_20_9 < ((v20_7.n : Nat) : Int))) (
                              .ite (decide ((0 : Int) ≤ (v20_1.f (Int.toNat i_20_9)).To ∧ (v20_1.f (Int.toNat i_20_9)).To < ((v20_8.n : Nat) : Int))) (
                                .leaf (.next ((Sq.mk v20_8.n (fun k2345 => (cond (Nat.beq k2345 (Int.toNat (v20_1.f (Int.toNat i_20_9)).To)) (wr ((cond (Nat.beq (Int.toNat (v20_1.f (Int.toNat i_20_9)).To) (Int.toNat (v20_1.f (Int.toNat i_20_9)).From)) (wr ((v20_8.f (Int.toNat (v20_1.f (Int.toNat i_20_9)).From)) + (v20_7.f (Int.toNat i_20_9)))) (v20_8.f (Int.toNat (v20_1.f (Int.toNat i_20_9)).To))) - (v20_7.f (Int.toNat i_20_9)))) (cond (Nat.beq k2345 (Int.toNat (v20_1.f (Int.toNat i_20_9)).From)) (wr ((v20_8.f (Int.toNat (v20_1.f (Int.toNat i_20_9)).From)) + (v20_7.f (Int.toNat i_20_9)))) (v20_8.f k2345))))), (wr (i_20_9 + (1 : Int)))))) (
                                .fail)) (
                              .fail)) (
                            .fail)) (
                          .fail)) (
                        .fail)) (
                      .fail)))) (
                .ite (decide ((0 : Int) ≤ (v20_1.f (Int.toNat i_20_9)).From ∧ (v20_1.f (Int.toNat i_20_9)).From < ((v20_8.n : Nat) : Int))) (
                  .ite (decide ((0 : Int) ≤ i_20_9 ∧ i_20_9 < ((v20_7.n : Nat) : Int))) (
                    .ite (decide ((0 : Int) ≤ (v20_1.f (Int.toNat i_20_9)).From ∧ (v20_1.f (Int.toNat i_20_9)).From < ((v20_8.n : Nat) : Int))) (
                      .ite (decide ((0 : Int) ≤ (v20_1.f (Int.toNat i_20_9)).To ∧ (v20_1.f (Int.toNat i_20_9)).To < ((v20_8.n : Nat) : Int))) (
                        .ite (decide ((0 : Int) ≤ i_20_9 ∧ i_20_9 < ((v20_7.n : Nat) : Int))) (
                          .ite (decide ((0 : Int) ≤ (v20_1.f (Int.toNat i_20_9)).To ∧ (v20_1.f (Int.toNat i_20_9)).To < ((v20_8.n : Nat) : Int))) (
                            .leaf (.next ((Sq.mk v20_8.n (fun k2346 => (cond (Nat.beq k2346 (Int.toNat (v20_1.f (Int.toNat i_20_9)).To)) (wr ((cond (Nat.beq (Int.toNat (v20_1.f (Int.toNat i_20_9)).To) (Int.toNat (v20_1.f (Int.toNat i_20_9)).From)) (wr ((v20_8.f (Int.toNat (v20_1.f (Int.toNat i_20_9)).From)) + (v20_7.f (Int.toNat i_20_9)))) (v20_8.f (Int.toNat (v20_1.f (Int.toNat i_20_9)).To))) - (v20_7.f (Int.toNat i_20_9)))) (cond (Nat.beq k2346 (Int.toNat (v20_1.f (Int.toNat i_20_9)).From)) (wr ((v20_8.f (Int.toNat (v20_1.f (Int.toNat i_20_9)).From)) + (v20_7.f (Int.toNat i_20_9)))) (v20_8.f k2346))))), (wr (i_20_9 + (1 : Int)))))) (
                            .fail)) (
                          .fail)) (
                        .fail)) (
                      .fail)) (
                    .fail)) (
                  .fail))) (
              .fail)) (
            .fail)) (
          .fail))) (
      .fail)) (
    .leaf (.l v20_8))
def ref09_Fits_l20_el (x : St) (a : (Sq Int)) : St := ⟨[(3, .ptr 0 0), (5, .ptr 128 0), (6, .undef), (10, .own 2560 0)], [(0, blkS x 0), (64, blkS x 64), (128, blkS x 128), (2560, .row 0 1 a.n 3 (fun k2980 => [.int .i64 (a.f k2980)]))], 2752⟩
def ref09_Fits_l20_er (x : St) (a : (Sq Int)) : St := ⟨[(3, .ptr 0 0), (5, .ptr 128 0), (6, .int .i64 (10 : Int)), (10, .own 2560 0)], [(0, blkS x 0), (64, blkS x 64), (128, blkS x 128), (2560, .row 0 1 a.n 3 (fun k2981 => [.int .i64 (a.f k2981)]))], 2752⟩
noncomputable def ref09_Fits_l20_f (p : ((Sq SPlace) × (Sq SRoad) × (Sq SFan) × (Sq SDoor) × (Sq Int) × (Sq Int) × (Sq Int) × (Sq Int)) × ((Sq Int) × Int)) : Option (((Sq Int)) ⊕ ((Sq Int))) := fixO (fun v : (Sq Int) × Int => ref09_Fits_l20_step p.1.1 p.1.2.1 p.1.2.2.1 p.1.2.2.2.1 p.1.2.2.2.2.1 p.1.2.2.2.2.2.1 p.1.2.2.2.2.2.2.1 p.1.2.2.2.2.2.2.2 v.1 v.2) p.2
noncomputable def ref09_Fits_l20_c : St → Option LRes := loopM ref09_Fits_l20_s ref09_Fits_l20_f false (.exit 4) ref09_Fits_l20_el .ret ref09_Fits_l20_er
noncomputable def ref09_Fits_l20 (v20_0 : (Sq SPlace)) (v20_1 : (Sq SRoad)) (v20_2 : (Sq SFan)) (v20_3 : (Sq SDoor)) (v20_4 : (Sq Int)) (v20_5 : (Sq Int)) (v20_6 : (Sq Int)) (v20_7 : (Sq Int)) (v20_8 : (Sq Int)) (i_20_9 : Int) : Option (((Sq Int)) ⊕ ((Sq Int))) := gOfS ref09_Fits_l20_s ref09_Fits_l20_f (ref09_Fits_l20_s ((v20_0, v20_1, v20_2, v20_3, v20_4, v20_5, v20_6, v20_7), (v20_8, i_20_9)))
theorem ref09_Fits_l20_eq (v20_0 : (Sq SPlace)) (v20_1 : (Sq SRoad)) (v20_2 : (Sq SFan)) (v20_3 : (Sq SDoor)) (v20_4 : (Sq Int)) (v20_5 : (Sq Int)) (v20_6 : (Sq Int)) (v20_7 : (Sq Int)) (v20_8 : (Sq Int)) (i_20_9 : Int) : ref09_Fits_l20 v20_0 v20_1 v20_2 v20_3 v20_4 v20_5 v20_6 v20_7 v20_8 i_20_9 = fixO (fun v : (Sq Int) × Int => ref09_Fits_l20_step v20_0 v20_1 v20_2 v20_3 v20_4 v20_5 v20_6 v20_7 v.1 v.2) (v20_8, i_20_9) := gOfS_eq ref09_Fits_l20_inj ref09_Fits_l20_f ((v20_0, v20_1, v20_2, v20_3, v20_4, v20_5, v20_6, v20_7), (v20_8, i_20_9))
def ref09_Fits_l32_s (p : ((Sq SPlace) × (Sq SRoad) × (Sq SFan) × (Sq SDoor) × (Sq Int) × (Sq Int) × (Sq Int)) × (Int)) : St := ⟨[(3, .ptr 0 0), (5, .ptr 128 0), (10, .own 2560 0), (15, .int .i64 p.2)], [(0, .var [.slc 2 p.1.1.n (fun k2982 => (SPlace.enc (p.1.1.f k2982))), .slc 10 p.1.2.1.n (fun k2983 => (SRoad.enc (p.1.2.1.f k2983))), .slc 4 p.1.2.2.1.n (fun k2984 => (SFan.enc (p.1.2.2.1.f k2984))), .slc 3 p.1.2.2.2.1.n (fun k2985 => (SDoor.enc (p.1.2.2.2.1.f k2985)))]), (128, .var [.slc 1 p.1.2.2.2.2.1.n (fun k2986 => [.int .i64 (p.1.2.2.2.2.1.f k2986)]), .slc 1 p.1.2.2.2.2.2.1.n (fun k2987 => [.int .i64 (p.1.2.2.2.2.2.1.f k2987)])]), (2560, .row 0 1 p.1.2.2.2.2.2.2.n 3 (fun k2988 => [.int .i64 (p.1.2.2.2.2.2.2.f k2988)]))], 2816⟩
theorem ref09_Fits_l32_inj (p q : ((Sq SPlace) × (Sq SRoad) × (Sq SFan) × (Sq SDoor) × (Sq Int) × (Sq Int) × (Sq Int)) × (Int)) (h : ref09_Fits_l32_s p = ref09_Fits_l32_s q) : p = q :=
  Prod.ext (Prod.ext (Sq.av_inj SPlace.inj (a := p.1.1) (b := q.1.1) (congrArg (fun x : St => cellS x 0 0) h)) (Prod.ext (Sq.av_inj SRoad.inj (a := p.1.2.1) (b := q.1.2.1) (congrArg (fun x : St => cellS x 0 1) h)) (Prod.ext (Sq.av_inj SFan.inj (a := p.1.2.2.1) (b := q.1.2.2.1) (congrArg (fun x : St => cellS x 0 2) h)) (Prod.ext (Sq.av_inj SDoor.inj (a := p.1.2.2.2.1) (b := q.1.2.2.2.1) (congrArg (fun x : St => cellS x 0 3) h)) (Prod.ext (Sq.av_inj intE_i64 (a := p.1.2.2.2.2.1) (b := q.1.2.2.2.2.1) (congrArg (fun x : St => cellS x 128 0) h)) (Prod.ext (Sq.av_inj intE_i64 (a := p.1.2.2.2.2.2.1) (b := q.1.2.2.2.2.2.1) (congrArg (fun x : St => cellS x 128 1) h)) (Sq.row_inj intE_i64 (a := p.1.2.2.2.2.2.2) (b := q.1.2.2.2.2.2.2) (congrArg (fun x : St => blkS x 2560) h)))))))) (show p.2 = q.2 from congrArg intA (congrArg (fun x : St => aget x.tm 15) h))
noncomputable def ref09_Fits_l32_step (v32_0 : (Sq SPlace)) (_v32_1 : (Sq SRoad)) (_v32_2 : (Sq SFan)) (_v32_3 : (Sq SDoor)) (v32_4 : (Sq Int)) (_v32_5 : (Sq Int)) (v32_6 : (Sq Int)) (i_32_7 : Int) : DT (LR (Int) (Unit) (Unit)) :=
  .ite (decide (i_32_7 < ((v32_6.n : Nat) : Int))) (
    .ite (decide ((0 : Int) ≤ i_32_7 ∧ i_32_7 < ((v32_0.n : Nat) : Int))) (
      .ite (v32_0.f (Int.toNat i_32_7)).Surface (
        .ite (decide ((0 : Int) ≤ i_32_7 ∧ i_32_7 < ((v32_4.n : Nat) : Int))) (
          .ite ((v32_4.f (Int.toNat i_32_7)) != (0 : Int)) (
            .leaf (.r ())) (
            .ite (decide ((0 : Int) ≤ i_32_7 ∧ i_32_7 < ((v32_0.n : Nat) : Int))) (
              .ite (!(v32_0.f (Int.toNat i_32_7)).Surface) (
                .ite (decide ((0 : Int) ≤ i_32_7 ∧ i_32_7 < ((v32_6.n : Nat) : Int))) (
                  .ite ((v32_6.f (Int.toNat i_32_7)) != (0 : Int)) (
                    .leaf (.r ())) (
                    .leaf (.next (wr (i_32_7 + (1 : Int)))))) (
                  .fail)) (
                .leaf (.next (wr (i_32_7 + (1 : Int)))))) (
              .fail))) (
          .fail)) (
        .ite (decide ((0 : Int) ≤ i_32_7 ∧ i_32_7 < ((v32_0.n : Nat) : Int))) (
          .ite (!(v32_0.f (Int.toNat i_32_7)).Surface) (
            .ite (decide ((0 : Int) ≤ i_32_7 ∧ i_32_7 < ((v32_6.n : Nat) : Int))) (
              .ite ((v32_6.f (Int.toNat i_32_7)) != (0 : Int)) (
                .leaf (.r ())) (
                .leaf (.next (wr (i_32_7 + (1 : Int)))))) (
              .fail)) (
            .leaf (.next (wr (i_32_7 + (1 : Int)))))) (
          .fail))) (
      .fail)) (
    .leaf (.l ()))
def ref09_Fits_l32_el (x : St) (_ : Unit) : St := ⟨[(6, .undef)], [(0, blkS x 0), (128, blkS x 128), (2560, blkS x 2560)], 2816⟩
def ref09_Fits_l32_er (x : St) (_ : Unit) : St := ⟨[(6, .int .i64 (10 : Int))], [(0, blkS x 0), (128, blkS x 128), (2560, blkS x 2560)], 2816⟩
noncomputable def ref09_Fits_l32_f (p : ((Sq SPlace) × (Sq SRoad) × (Sq SFan) × (Sq SDoor) × (Sq Int) × (Sq Int) × (Sq Int)) × (Int)) : Option ((Unit) ⊕ (Unit)) := fixO (fun v : Int => ref09_Fits_l32_step p.1.1 p.1.2.1 p.1.2.2.1 p.1.2.2.2.1 p.1.2.2.2.2.1 p.1.2.2.2.2.2.1 p.1.2.2.2.2.2.2 v) p.2
noncomputable def ref09_Fits_l32_c : St → Option LRes := loopM ref09_Fits_l32_s ref09_Fits_l32_f false (.exit 6) ref09_Fits_l32_el .ret ref09_Fits_l32_er
noncomputable def ref09_Fits_l32 (v32_0 : (Sq SPlace)) (v32_1 : (Sq SRoad)) (v32_2 : (Sq SFan)) (v32_3 : (Sq SDoor)) (v32_4 : (Sq Int)) (v32_5 : (Sq Int)) (v32_6 : (Sq Int)) (i_32_7 : Int) : Option ((Unit) ⊕ (Unit)) := gOfS ref09_Fits_l32_s ref09_Fits_l32_f (ref09_Fits_l32_s ((v32_0, v32_1, v32_2, v32_3, v32_4, v32_5, v32_6), i_32_7))
theorem ref09_Fits_l32_eq (v32_0 : (Sq SPlace)) (v32_1 : (Sq SRoad)) (v32_2 : (Sq SFan)) (v32_3 : (Sq SDoor)) (v32_4 : (Sq Int)) (v32_5 : (Sq Int)) (v32_6 : (Sq Int)) (i_32_7 : Int) : ref09_Fits_l32 v32_0 v32_1 v32_2 v32_3 v32_4 v32_5 v32_6 i_32_7 = fixO (fun v : Int => ref09_Fits_l32_step v32_0 v32_1 v32_2 v32_3 v32_4 v32_5 v32_6 v) i_32_7 := gOfS_eq ref09_Fits_l32_inj ref09_Fits_l32_f ((v32_0, v32_1, v32_2, v32_3, v32_4, v32_5, v32_6), i_32_7)
noncomputable def ref09_Fits_t (a : SAir) (s : SSetting) (x : SState) : DT (Int) :=
  .bind (ref09_Check a) fun z2334 =>
  .ite (z2334 != (0 : Int)) (
    .leaf z2334) (
    .bind (ref09_Right a s) fun z2335 =>
    .ite (!z2335) (
      .leaf (21 : Int)) (
      .ite (((x.Pressures.n : Nat) : Int) != ((a.Mine.Places.n : Nat) : Int)) (
        .leaf (11 : Int)) (
        .ite (((x.Flows.n : Nat) : Int) != ((a.Mine.Roads.n : Nat) : Int)) (
          .leaf (11 : Int)) (
          .sum (ref09_Fits_l9 a.Mine.Places a.Mine.Roads a.Fans a.Doors s.Fans s.Doors x.Pressures x.Flows (0 : Int)) (fun _ =>
            .sum (ref09_Fits_l14 a.Mine.Places a.Mine.Roads a.Fans a.Doors s.Fans s.Doors x.Pressures x.Flows (0 : Int)) (fun _ =>
              .ite (decide ((0 : Int) ≤ ((x.Pressures.n : Nat) : Int) ∧ ((x.Pressures.n : Nat) : Int) ≤ ((x.Pressures.n : Nat) : Int) ∧ ((x.Pressures.n : Nat) : Int) * ((8 : Nat) : Int) ≤ 140737488355328 ∧ ((x.Pressures.n : Nat) : Int) ≤ 1099511627776)) (
                .sum (ref09_Fits_l20 a.Mine.Places a.Mine.Roads a.Fans a.Doors s.Fans s.Doors x.Pressures x.Flows (Sq.mk (Int.toNat ((x.Pressures.n : Nat) : Int)) (fun _ => (0 : Int))) (0 : Int)) (fun y2347 =>
                  .sum (ref09_Fits_l32 a.Mine.Places a.Mine.Roads a.Fans a.Doors x.Pressures x.Flows y2347 (0 : Int)) (fun _ =>
                    .leaf (0 : Int)) (fun _ =>
                    .leaf (10 : Int))) (fun _ =>
                  .leaf (10 : Int))) (
                .fail)) (fun _ =>
              .leaf (1 : Int))) (fun _ =>
            .leaf (1 : Int))))))
def ref09_Fits_av (r : Int) : AV := .int .i64 r
def ref09_Fits_outs (_ : List Blk) (_ : Int) : List Blk := []
noncomputable def c_ref09_Fits : List AV → List Blk → Option Ans := told ref09_Fits_enc (fun p => (ref09_Fits_t p.1 p.2.1 p.2.2).get) ref09_Fits_av ref09_Fits_outs true (fun _ _ _ => ⟨rfl, fun b hb => by cases hb⟩)
noncomputable def ref09_Fits_env : Env := { envS (fun f => match f with
  | 18 => c_ref09_Check
  | 20 => c_ref09_Right
  | 24 => c_ref09_Drop
  | _ => fun _ _ => none) (fun r => match r with | 9 => some ([3, 4, 5, 8], [3, 4, 5, 6]) | 14 => some ([3, 4, 5, 9], [3, 4, 5, 6]) | 20 => some ([3, 4, 5, 10, 11], [3, 5, 6, 10]) | 32 => some ([3, 5, 10, 15], [6]) | _ => none) with loops := fun r => match r with | 9 => some ref09_Fits_l9_c | 14 => some ref09_Fits_l14_c | 20 => some ref09_Fits_l20_c | 32 => some ref09_Fits_l32_c | _ => none, gc := fun r => match r with | 9 => some [0, 64, 128] | 14 => some [0, 64, 128] | 20 => some [0, 64, 128, 2560] | 32 => some [0, 128, 2560] | _ => none, mm := some 0 }
theorem ref09_Fits_env_ok : ∀ f, Tells Try.prog f (ref09_Fits_env.fs f) := by
  intro f
  by_cases h0 : f = 18
  · subst h0; exact ref09_Check_tells
  by_cases h1 : f = 20
  · subst h1; exact ref09_Right_tells
  by_cases h2 : f = 24
  · subst h2; exact ref09_Drop_tells
  have : ref09_Fits_env.fs f = fun _ _ => none := by
    unfold ref09_Fits_env envS
    dsimp only
    split
    · exact absurd rfl h0
    · exact absurd rfl h1
    · exact absurd rfl h2
    · rfl
  rw [this]
  exact Tells.none_ f
noncomputable def ref09_Fits_e : Env := { ref09_Fits_env with nt := 211 }
noncomputable def ref09_Fits_l9_b : Code := loopOf 9 Try.f28
theorem ref09_Fits_l9_round {R : Type} (fx : (Sq SPlace) × (Sq SRoad) × (Sq SFan) × (Sq SDoor) × (Sq Int) × (Sq Int) × (Sq Int) × (Sq Int)) (v : Int) (N : Nat) (K : AX → St → Option R) : aloop (fun s j => aexec ref09_Fits_e ref09_Fits_l9_b s j) (headOf ref09_Fits_e ref09_Fits_l9_b 2304) (exitOf ref09_Fits_e ref09_Fits_l9_b 2304) (N + 1) (ref09_Fits_l9_s (fx, v)) K = (ref09_Fits_l9_step fx.1 fx.2.1 fx.2.2.1 fx.2.2.2.1 fx.2.2.2.2.1 fx.2.2.2.2.2.1 fx.2.2.2.2.2.2.1 fx.2.2.2.2.2.2.2 v).run (LR.elim
    (fun v' => aloop (fun s j => aexec ref09_Fits_e ref09_Fits_l9_b s j) (headOf ref09_Fits_e ref09_Fits_l9_b 2304) (exitOf ref09_Fits_e ref09_Fits_l9_b 2304) N (ref09_Fits_l9_s (fx, v')) K)
    (fun a => K (.exit 0) (ref09_Fits_l9_el (ref09_Fits_l9_s (fx, v)) a))
    (fun a => K .ret (ref09_Fits_l9_er (ref09_Fits_l9_s (fx, v)) a))) := by kernel_rfl
theorem ref09_Fits_l9_tells : LoopTells ref09_Fits_e ref09_Fits_l9_b ref09_Fits_l9_c :=
  loopM_tells (s := ref09_Fits_l9_s) (stl := ref09_Fits_l9_el) (str := ref09_Fits_l9_er) (step := fun (fx : (Sq SPlace) × (Sq SRoad) × (Sq SFan) × (Sq SDoor) × (Sq Int) × (Sq Int) × (Sq Int) × (Sq Int)) (v : Int) => ref09_Fits_l9_step fx.1 fx.2.1 fx.2.2.1 fx.2.2.2.1 fx.2.2.2.2.1 fx.2.2.2.2.2.1 fx.2.2.2.2.2.2.1 fx.2.2.2.2.2.2.2 v) (n := 2304) (fun _ => rfl) (fun _ _ _ _ => rfl) (fun _ _ _ _ => rfl) ref09_Fits_l9_round
noncomputable def ref09_Fits_l14_b : Code := loopOf 14 Try.f28
theorem ref09_Fits_l14_round {R : Type} (fx : (Sq SPlace) × (Sq SRoad) × (Sq SFan) × (Sq SDoor) × (Sq Int) × (Sq Int) × (Sq Int) × (Sq Int)) (v : Int) (N : Nat) (K : AX → St → Option R) : aloop (fun s j => aexec ref09_Fits_e ref09_Fits_l14_b s j) (headOf ref09_Fits_e ref09_Fits_l14_b 2368) (exitOf ref09_Fits_e ref09_Fits_l14_b 2368) (N + 1) (ref09_Fits_l14_s (fx, v)) K = (ref09_Fits_l14_step fx.1 fx.2.1 fx.2.2.1 fx.2.2.2.1 fx.2.2.2.2.1 fx.2.2.2.2.2.1 fx.2.2.2.2.2.2.1 fx.2.2.2.2.2.2.2 v).run (LR.elim
    (fun v' => aloop (fun s j => aexec ref09_Fits_e ref09_Fits_l14_b s j) (headOf ref09_Fits_e ref09_Fits_l14_b 2368) (exitOf ref09_Fits_e ref09_Fits_l14_b 2368) N (ref09_Fits_l14_s (fx, v')) K)
    (fun a => K (.exit 2) (ref09_Fits_l14_el (ref09_Fits_l14_s (fx, v)) a))
    (fun a => K .ret (ref09_Fits_l14_er (ref09_Fits_l14_s (fx, v)) a))) := by kernel_rfl
theorem ref09_Fits_l14_tells : LoopTells ref09_Fits_e ref09_Fits_l14_b ref09_Fits_l14_c :=
  loopM_tells (s := ref09_Fits_l14_s) (stl := ref09_Fits_l14_el) (str := ref09_Fits_l14_er) (step := fun (fx : (Sq SPlace) × (Sq SRoad) × (Sq SFan) × (Sq SDoor) × (Sq Int) × (Sq Int) × (Sq Int) × (Sq Int)) (v : Int) => ref09_Fits_l14_step fx.1 fx.2.1 fx.2.2.1 fx.2.2.2.1 fx.2.2.2.2.1 fx.2.2.2.2.2.1 fx.2.2.2.2.2.2.1 fx.2.2.2.2.2.2.2 v) (n := 2368) (fun _ => rfl) (fun _ _ _ _ => rfl) (fun _ _ _ _ => rfl) ref09_Fits_l14_round
noncomputable def ref09_Fits_l20_b : Code := loopOf 20 Try.f28
theorem ref09_Fits_l20_round {R : Type} (fx : (Sq SPlace) × (Sq SRoad) × (Sq SFan) × (Sq SDoor) × (Sq Int) × (Sq Int) × (Sq Int) × (Sq Int)) (v : (Sq Int) × Int) (N : Nat) (K : AX → St → Option R) : aloop (fun s j => aexec ref09_Fits_e ref09_Fits_l20_b s j) (headOf ref09_Fits_e ref09_Fits_l20_b 2752) (exitOf ref09_Fits_e ref09_Fits_l20_b 2752) (N + 1) (ref09_Fits_l20_s (fx, v)) K = (ref09_Fits_l20_step fx.1 fx.2.1 fx.2.2.1 fx.2.2.2.1 fx.2.2.2.2.1 fx.2.2.2.2.2.1 fx.2.2.2.2.2.2.1 fx.2.2.2.2.2.2.2 v.1 v.2).run (LR.elim
    (fun v' => aloop (fun s j => aexec ref09_Fits_e ref09_Fits_l20_b s j) (headOf ref09_Fits_e ref09_Fits_l20_b 2752) (exitOf ref09_Fits_e ref09_Fits_l20_b 2752) N (ref09_Fits_l20_s (fx, v')) K)
    (fun a => K (.exit 4) (ref09_Fits_l20_el (ref09_Fits_l20_s (fx, v)) a))
    (fun a => K .ret (ref09_Fits_l20_er (ref09_Fits_l20_s (fx, v)) a))) := by kernel_rfl
theorem ref09_Fits_l20_tells : LoopTells ref09_Fits_e ref09_Fits_l20_b ref09_Fits_l20_c :=
  loopM_tells (s := ref09_Fits_l20_s) (stl := ref09_Fits_l20_el) (str := ref09_Fits_l20_er) (step := fun (fx : (Sq SPlace) × (Sq SRoad) × (Sq SFan) × (Sq SDoor) × (Sq Int) × (Sq Int) × (Sq Int) × (Sq Int)) (v : (Sq Int) × Int) => ref09_Fits_l20_step fx.1 fx.2.1 fx.2.2.1 fx.2.2.2.1 fx.2.2.2.2.1 fx.2.2.2.2.2.1 fx.2.2.2.2.2.2.1 fx.2.2.2.2.2.2.2 v.1 v.2) (n := 2752) (fun _ => rfl) (fun _ _ _ _ => rfl) (fun _ _ _ _ => rfl) ref09_Fits_l20_round
noncomputable def ref09_Fits_l32_b : Code := loopOf 32 Try.f28
theorem ref09_Fits_l32_round {R : Type} (fx : (Sq SPlace) × (Sq SRoad) × (Sq SFan) × (Sq SDoor) × (Sq Int) × (Sq Int) × (Sq Int)) (v : Int) (N : Nat) (K : AX → St → Option R) : aloop (fun s j => aexec ref09_Fits_e ref09_Fits_l32_b s j) (headOf ref09_Fits_e ref09_Fits_l32_b 2816) (exitOf ref09_Fits_e ref09_Fits_l32_b 2816) (N + 1) (ref09_Fits_l32_s (fx, v)) K = (ref09_Fits_l32_step fx.1 fx.2.1 fx.2.2.1 fx.2.2.2.1 fx.2.2.2.2.1 fx.2.2.2.2.2.1 fx.2.2.2.2.2.2 v).run (LR.elim
    (fun v' => aloop (fun s j => aexec ref09_Fits_e ref09_Fits_l32_b s j) (headOf ref09_Fits_e ref09_Fits_l32_b 2816) (exitOf ref09_Fits_e ref09_Fits_l32_b 2816) N (ref09_Fits_l32_s (fx, v')) K)
    (fun a => K (.exit 6) (ref09_Fits_l32_el (ref09_Fits_l32_s (fx, v)) a))
    (fun a => K .ret (ref09_Fits_l32_er (ref09_Fits_l32_s (fx, v)) a))) := by kernel_rfl
theorem ref09_Fits_l32_tells : LoopTells ref09_Fits_e ref09_Fits_l32_b ref09_Fits_l32_c :=
  loopM_tells (s := ref09_Fits_l32_s) (stl := ref09_Fits_l32_el) (str := ref09_Fits_l32_er) (step := fun (fx : (Sq SPlace) × (Sq SRoad) × (Sq SFan) × (Sq SDoor) × (Sq Int) × (Sq Int) × (Sq Int)) (v : Int) => ref09_Fits_l32_step fx.1 fx.2.1 fx.2.2.1 fx.2.2.2.1 fx.2.2.2.2.1 fx.2.2.2.2.2.1 fx.2.2.2.2.2.2 v) (n := 2816) (fun _ => rfl) (fun _ _ _ _ => rfl) (fun _ _ _ _ => rfl) ref09_Fits_l32_round
theorem ref09_Fits_run (p : SAir × SSetting × SState) : arun ref09_Fits_env Try.f28 (ref09_Fits_enc p).1 (ref09_Fits_enc p).2 = (ref09_Fits_t p.1 p.2.1 p.2.2).run fun r => some (ref09_Fits_av r, ref09_Fits_outs (ref09_Fits_enc p).2 r) := by kernel_rfl
theorem ref09_Fits_loops : ∀ c, Try.f28.body = some c → LoopsOK { ref09_Fits_env with nt := Try.f28.ntmps } c := by
  intro c hc
  refine loops_of c fun c' hc' f hf => ?_
  have hb : loopsOf c = [ref09_Fits_l9_b, ref09_Fits_l14_b, ref09_Fits_l20_b, ref09_Fits_l32_b] := by
    have : Try.f28.body.map loopsOf = some [ref09_Fits_l9_b, ref09_Fits_l14_b, ref09_Fits_l20_b, ref09_Fits_l32_b] := by kernel_rfl
    rw [hc] at this
    injection this
  rw [hb] at hc'
  clear hb
  rcases List.mem_cons.1 hc' with rfl | hc'
  ·
    have h6 : firstReg ref09_Fits_l9_b = 9 := by kernel_rfl
    rw [h6] at hf
    obtain rfl := Option.some.inj hf
    exact ref09_Fits_l9_tells
  rcases List.mem_cons.1 hc' with rfl | hc'
  ·
    have h6 : firstReg ref09_Fits_l14_b = 14 := by kernel_rfl
    rw [h6] at hf
    obtain rfl := Option.some.inj hf
    exact ref09_Fits_l14_tells
  rcases List.mem_cons.1 hc' with rfl | hc'
  ·
    have h6 : firstReg ref09_Fits_l20_b = 20 := by kernel_rfl
    rw [h6] at hf
    obtain rfl := Option.some.inj hf
    exact ref09_Fits_l20_tells
  obtain rfl := List.mem_singleton.1 hc'
  have h6 : firstReg ref09_Fits_l32_b = 32 := by kernel_rfl
  rw [h6] at hf
  obtain rfl := Option.some.inj hf
  exact ref09_Fits_l32_tells
attribute [local irreducible] arun in
theorem ref09_Fits_tells : Tells Try.prog 28 c_ref09_Fits :=
  told_tells (E := ref09_Fits_env) (enc := ref09_Fits_enc) (av := ref09_Fits_av) (outs := ref09_Fits_outs) (t := fun p : SAir × SSetting × SState => ref09_Fits_t p.1 p.2.1 p.2.2) (by kernel_rfl) ref09_Fits_env_ok Try.func28 ref09_Fits_loops ref09_Fits_run
noncomputable def ref09_Fits (a : SAir) (s : SSetting) (x : SState) : Option (Int) := gOfA ref09_Fits_enc (fun p => (ref09_Fits_t p.1 p.2.1 p.2.2).get) (ref09_Fits_encC a s x).1 (ref09_Fits_encC a s x).2
theorem ref09_Fits_eq (a : SAir) (s : SSetting) (x : SState) : ref09_Fits a s x = (ref09_Fits_t a s x).get := congrFun (gOfA_eq ref09_Fits_inj (fun p => (ref09_Fits_t p.1 p.2.1 p.2.2).get)) (a, s, x)
end Go.Proofs.Ytbmbhgkjpdpcjaa.Ab
