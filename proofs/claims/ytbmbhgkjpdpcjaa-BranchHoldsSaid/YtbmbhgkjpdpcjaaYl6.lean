/- Mirrors of code, stage 9: BranchHolds. -/
import Derived.Test.YtbmbhgkjpdpcjaaYc
namespace Go.Proofs.Ytbmbhgkjpdpcjaa.Ab
open Go

/-! ### minecontrol/minecontrollaw09.BranchHolds -/
def law09_BranchHolds_encC (codes : (Sq Int)) (road : Int) (pressure : Int) : List AV × List Blk := ([.slc 1 codes.n (fun k2993 => [.int .u8 (codes.f k2993)]), .int .i64 road, .int .i64 pressure], [])
def law09_BranchHolds_enc (p : (Sq Int) × Int × Int) : List AV × List Blk := law09_BranchHolds_encC p.1 p.2.1 p.2.2
theorem law09_BranchHolds_inj (p q : (Sq Int) × Int × Int) (h : law09_BranchHolds_enc p = law09_BranchHolds_enc q) : p = q :=
  (Prod.ext (Sq.av_inj intE_u8 (a := p.1) (b := q.1) (congrArg (fun x : List AV × List Blk => x.1.getD 0 .undef) h)) (Prod.ext (show p.2.1 = q.2.1 from congrArg intA (congrArg (fun x : List AV × List Blk => x.1.getD 1 .undef) h)) (show p.2.2 = q.2.2 from congrArg intA (congrArg (fun x : List AV × List Blk => x.1.getD 2 .undef) h))))
def law09_BranchHolds_l3_s (p : (Int × Int × (Sq SPlace) × (Sq SRoad) × (Sq SFan) × (Sq SDoor) × (Sq Int) × (Sq Int) × (Sq Int) × (Sq Int)) × (Int)) : St := ⟨[(1, .int .i64 p.1.1), (2, .int .i64 p.1.2.1), (7, .ptr 512 0), (8, .ptr 576 0), (9, .ptr 640 0), (25, .own 193 0), (26, .int .i64 ((p.1.2.2.2.1.n : Nat) : Int)), (27, .int .i64 p.2)], [(192, .row 0 2 p.1.2.2.1.n 70 (fun k2994 => (SPlace.enc (p.1.2.2.1.f k2994)))), (193, .row 0 10 p.1.2.2.2.1.n 64 (fun k2995 => (SRoad.enc (p.1.2.2.2.1.f k2995)))), (194, .row 0 4 p.1.2.2.2.2.1.n 44 (fun k2996 => (SFan.enc (p.1.2.2.2.2.1.f k2996)))), (195, .row 0 3 p.1.2.2.2.2.2.1.n 46 (fun k2997 => (SDoor.enc (p.1.2.2.2.2.2.1.f k2997)))), (196, .row 0 1 p.1.2.2.2.2.2.2.1.n 3 (fun k2998 => [.int .i64 (p.1.2.2.2.2.2.2.1.f k2998)])), (197, .row 0 1 p.1.2.2.2.2.2.2.2.1.n 3 (fun k2999 => [.int .i64 (p.1.2.2.2.2.2.2.2.1.f k2999)])), (512, .var [.own 192 0, .own 193 0, .own 194 0, .own 195 0]), (576, .var [.own 196 0, .own 197 0]), (640, .var [.slc 1 p.1.2.2.2.2.2.2.2.2.1.n (fun k3000 => [.int .i64 (p.1.2.2.2.2.2.2.2.2.1.f k3000)]), .slc 1 p.1.2.2.2.2.2.2.2.2.2.n (fun k3001 => [.int .i64 (p.1.2.2.2.2.2.2.2.2.2.f k3001)])])], 1216⟩
theorem law09_BranchHolds_l3_inj (p q : (Int × Int × (Sq SPlace) × (Sq SRoad) × (Sq SFan) × (Sq SDoor) × (Sq Int) × (Sq Int) × (Sq Int) × (Sq Int)) × (Int)) (h : law09_BranchHolds_l3_s p = law09_BranchHolds_l3_s q) : p = q :=
  Prod.ext (Prod.ext (show p.1.1 = q.1.1 from congrArg intA (congrArg (fun x : St => aget x.tm 1) h)) (Prod.ext (show p.1.2.1 = q.1.2.1 from congrArg intA (congrArg (fun x : St => aget x.tm 2) h)) (Prod.ext (Sq.row_inj SPlace.inj (a := p.1.2.2.1) (b := q.1.2.2.1) (congrArg (fun x : St => blkS x 192) h)) (Prod.ext (Sq.row_inj SRoad.inj (a := p.1.2.2.2.1) (b := q.1.2.2.2.1) (congrArg (fun x : St => blkS x 193) h)) (Prod.ext (Sq.row_inj SFan.inj (a := p.1.2.2.2.2.1) (b := q.1.2.2.2.2.1) (congrArg (fun x : St => blkS x 194) h)) (Prod.ext (Sq.row_inj SDoor.inj (a := p.1.2.2.2.2.2.1) (b := q.1.2.2.2.2.2.1) (congrArg (fun x : St => blkS x 195) h)) (Prod.ext (Sq.row_inj intE_i64 (a := p.1.2.2.2.2.2.2.1) (b := q.1.2.2.2.2.2.2.1) (congrArg (fun x : St => blkS x 196) h)) (Prod.ext (Sq.row_inj intE_i64 (a := p.1.2.2.2.2.2.2.2.1) (b := q.1.2.2.2.2.2.2.2.1) (congrArg (fun x : St => blkS x 197) h)) (Prod.ext (Sq.av_inj intE_i64 (a := p.1.2.2.2.2.2.2.2.2.1) (b := q.1.2.2.2.2.2.2.2.2.1) (congrArg (fun x : St => cellS x 640 0) h)) (Sq.av_inj intE_i64 (a := p.1.2.2.2.2.2.2.2.2.2) (b := q.1.2.2.2.2.2.2.2.2.2) (congrArg (fun x : St => cellS x 640 1) h))))))))))) (show p.2 = q.2 from congrArg intA (congrArg (fun x : St => aget x.tm 27) h))
noncomputable def law09_BranchHolds_l3_step (_road_3_0 : Int) (_pressure_3_1 : Int) (v3_3 : (Sq SPlace)) (v3_4 : (Sq SRoad)) (v3_5 : (Sq SFan)) (v3_6 : (Sq SDoor)) (v3_7 : (Sq Int)) (v3_8 : (Sq Int)) (v3_9 : (Sq Int)) (v3_10 : (Sq Int)) (v3_11 : Int) : DT (LR (Int) (Unit) (Unit)) :=
  .ite (decide (v3_11 < ((v3_4.n : Nat) : Int))) (
    .ite (decide ((0 : Int) ≤ v3_11 ∧ v3_11 < ((v3_4.n : Nat) : Int))) (
      .ite (decide ((0 : Int) ≤ (v3_4.f (Int.toNat v3_11)).From ∧ (v3_4.f (Int.toNat v3_11)).From < ((v3_9.n : Nat) : Int))) (
        .ite (decide ((0 : Int) ≤ (v3_4.f (Int.toNat v3_11)).To ∧ (v3_4.f (Int.toNat v3_11)).To < ((v3_9.n : Nat) : Int))) (
          .bind (branch_Flow (SAir.mk (SMine.mk v3_3 v3_4) v3_5 v3_6) (SSetting.mk v3_7 v3_8) v3_11 (wr ((v3_9.f (Int.toNat (v3_4.f (Int.toNat v3_11)).From)) - (v3_9.f (Int.toNat (v3_4.f (Int.toNat v3_11)).To))))) fun z2391 =>
          .ite (decide ((0 : Int) ≤ v3_11 ∧ v3_11 < ((v3_10.n : Nat) : Int))) (
            .ite (decide ((v3_10.f (Int.toNat v3_11)) < z2391.Low)) (
              .leaf (.r ())) (
              .ite (decide ((0 : Int) ≤ v3_11 ∧ v3_11 < ((v3_10.n : Nat) : Int))) (
                .ite (decide ((v3_10.f (Int.toNat v3_11)) > z2391.High)) (
                  .leaf (.r ())) (
                  .leaf (.next (wr (v3_11 + (1 : Int)))))) (
                .fail))) (
            .fail)) (
          .fail)) (
        .fail)) (
      .fail)) (
    .leaf (.l ()))
def law09_BranchHolds_l3_el (x : St) (_ : Unit) : St := ⟨[(1, aget x.tm 1), (2, aget x.tm 2), (6, .undef), (7, .ptr 512 0), (8, .ptr 576 0)], [(192, blkS x 192), (193, blkS x 193), (194, blkS x 194), (195, blkS x 195), (196, blkS x 196), (197, blkS x 197), (512, .var [.own 192 0, .own 193 0, .own 194 0, .own 195 0]), (576, .var [.own 196 0, .own 197 0]), (640, blkS x 640)], 1216⟩
def law09_BranchHolds_l3_er (x : St) (_ : Unit) : St := ⟨[(1, aget x.tm 1), (2, aget x.tm 2), (6, .bool false), (7, .ptr 512 0), (8, .ptr 576 0)], [(192, blkS x 192), (193, blkS x 193), (194, blkS x 194), (195, blkS x 195), (196, blkS x 196), (197, blkS x 197), (512, .var [.own 192 0, .own 193 0, .own 194 0, .own 195 0]), (576, .var [.own 196 0, .own 197 0]), (640, blkS x 640)], 1216⟩
noncomputable def law09_BranchHolds_l3_f (p : (Int × Int × (Sq SPlace) × (Sq SRoad) × (Sq SFan) × (Sq SDoor) × (Sq Int) × (Sq Int) × (Sq Int) × (Sq Int)) × (Int)) : Option ((Unit) ⊕ (Unit)) := fixO (fun v : Int => law09_BranchHolds_l3_step p.1.1 p.1.2.1 p.1.2.2.1 p.1.2.2.2.1 p.1.2.2.2.2.1 p.1.2.2.2.2.2.1 p.1.2.2.2.2.2.2.1 p.1.2.2.2.2.2.2.2.1 p.1.2.2.2.2.2.2.2.2.1 p.1.2.2.2.2.2.2.2.2.2 v) p.2
noncomputable def law09_BranchHolds_l3_c : St → Option LRes := loopM law09_BranchHolds_l3_s law09_BranchHolds_l3_f false (.exit 0) law09_BranchHolds_l3_el .ret law09_BranchHolds_l3_er
noncomputable def law09_BranchHolds_l3 (road_3_0 : Int) (pressure_3_1 : Int) (v3_3 : (Sq SPlace)) (v3_4 : (Sq SRoad)) (v3_5 : (Sq SFan)) (v3_6 : (Sq SDoor)) (v3_7 : (Sq Int)) (v3_8 : (Sq Int)) (v3_9 : (Sq Int)) (v3_10 : (Sq Int)) (v3_11 : Int) : Option ((Unit) ⊕ (Unit)) := gOfS law09_BranchHolds_l3_s law09_BranchHolds_l3_f (law09_BranchHolds_l3_s ((road_3_0, pressure_3_1, v3_3, v3_4, v3_5, v3_6, v3_7, v3_8, v3_9, v3_10), v3_11))
theorem law09_BranchHolds_l3_eq (road_3_0 : Int) (pressure_3_1 : Int) (v3_3 : (Sq SPlace)) (v3_4 : (Sq SRoad)) (v3_5 : (Sq SFan)) (v3_6 : (Sq SDoor)) (v3_7 : (Sq Int)) (v3_8 : (Sq Int)) (v3_9 : (Sq Int)) (v3_10 : (Sq Int)) (v3_11 : Int) : law09_BranchHolds_l3 road_3_0 pressure_3_1 v3_3 v3_4 v3_5 v3_6 v3_7 v3_8 v3_9 v3_10 v3_11 = fixO (fun v : Int => law09_BranchHolds_l3_step road_3_0 pressure_3_1 v3_3 v3_4 v3_5 v3_6 v3_7 v3_8 v3_9 v3_10 v) v3_11 := gOfS_eq law09_BranchHolds_l3_inj law09_BranchHolds_l3_f ((road_3_0, pressure_3_1, v3_3, v3_4, v3_5, v3_6, v3_7, v3_8, v3_9, v3_10), v3_11)
noncomputable def law09_BranchHolds_t (codes : (Sq Int)) (road : Int) (pressure : Int) : DT (Bool) :=
  .bind (New codes) fun z2389 =>
  .bind (Codes_Made z2389) fun z2390 =>
  .sum (law09_BranchHolds_l3 road pressure z2390.1.Mine.Places z2390.1.Mine.Roads z2390.1.Fans z2390.1.Doors z2390.2.1.Fans z2390.2.1.Doors z2390.2.2.1.Pressures z2390.2.2.1.Flows (0 : Int)) (fun _ =>
    .ite (((z2390.1.Mine.Roads.n : Nat) : Int) == (0 : Int)) (
      .leaf true) (
      .bind (Mod road ((z2390.1.Mine.Roads.n : Nat) : Int)) fun z2393 =>
      .ite (decide ((0 : Int) ≤ z2393 ∧ z2393 < ((z2390.1.Mine.Roads.n : Nat) : Int))) (
        .ite (z2390.1.Mine.Roads.f (Int.toNat z2393)).Closed (
          .leaf true) (
          .bind (Mod pressure (200000 : Int)) fun z2394 =>
          .bind (branch_Flow z2390.1 z2390.2.1 z2393 (wr (z2394 - (100000 : Int)))) fun z2395 =>
          .bind (branch_Drop z2390.1 z2390.2.1 z2393 z2395.Low) fun z2396 =>
          .ite (decide (z2396.High ≤ (wr (z2394 - (100000 : Int))))) (
            .bind (branch_Drop z2390.1 z2390.2.1 z2393 (wr (z2395.Low + (1 : Int)))) fun z2397 =>
            .ite (decide (z2397.High > (wr (z2394 - (100000 : Int))))) (
              .bind (branch_Drop z2390.1 z2390.2.1 z2393 z2395.High) fun z2398 =>
              .ite (decide (z2398.Low ≥ (wr (z2394 - (100000 : Int))))) (
                .bind (branch_Drop z2390.1 z2390.2.1 z2393 (wr (z2395.High - (1 : Int)))) fun z2399 =>
                .ite (decide (z2399.Low < (wr (z2394 - (100000 : Int))))) (
                  .leaf true) (
                  .leaf false)) (
                .leaf false)) (
              .leaf false)) (
            .leaf false))) (
        .fail))) (fun _ =>
    .leaf false)
def law09_BranchHolds_av (r : Bool) : AV := .bool r
def law09_BranchHolds_outs (_ : List Blk) (_ : Bool) : List Blk := []
noncomputable def c_law09_BranchHolds : List AV → List Blk → Option Ans := told law09_BranchHolds_enc (fun p => (law09_BranchHolds_t p.1 p.2.1 p.2.2).get) law09_BranchHolds_av law09_BranchHolds_outs true (fun _ _ _ => ⟨rfl, fun b hb => by cases hb⟩)
noncomputable def law09_BranchHolds_env : Env := { envS (fun f => match f with
  | 10 => c_New
  | 11 => c_Codes_Made
  | 25 => c_branch_Flow
  | 16 => awake?
  | 22 => c_Mod
  | 23 => c_branch_Drop
  | _ => fun _ _ => none) (fun r => match r with | 3 => some ([1, 2, 7, 8, 9, 25, 26, 27], [1, 2, 6, 7, 8]) | _ => none) with loops := fun r => match r with | 3 => some law09_BranchHolds_l3_c | _ => none, gc := fun r => match r with | 3 => some [192, 193, 194, 195, 196, 197, 512, 576, 640] | _ => none, mm := some 0 }
theorem law09_BranchHolds_env_ok : ∀ f, Tells Try.prog f (law09_BranchHolds_env.fs f) := by
  intro f
  by_cases h0 : f = 10
  · subst h0; exact New_tells
  by_cases h1 : f = 11
  · subst h1; exact Codes_Made_tells
  by_cases h2 : f = 25
  · subst h2; exact branch_Flow_tells
  by_cases h3 : f = 16
  · subst h3; exact tells_awake
  by_cases h4 : f = 22
  · subst h4; exact Mod_tells
  by_cases h5 : f = 23
  · subst h5; exact branch_Drop_tells
  have : law09_BranchHolds_env.fs f = fun _ _ => none := by
    unfold law09_BranchHolds_env envS
    dsimp only
    split
    · exact absurd rfl h0
    · exact absurd rfl h1
    · exact absurd rfl h2
    · exact absurd rfl h3
    · exact absurd rfl h4
    · exact absurd rfl h5
    · rfl
  rw [this]
  exact Tells.none_ f
noncomputable def law09_BranchHolds_e : Env := { law09_BranchHolds_env with nt := 143 }
noncomputable def law09_BranchHolds_l3_b : Code := loopOf 3 Try.f8
theorem law09_BranchHolds_l3_round {R : Type} (fx : Int × Int × (Sq SPlace) × (Sq SRoad) × (Sq SFan) × (Sq SDoor) × (Sq Int) × (Sq Int) × (Sq Int) × (Sq Int)) (v : Int) (N : Nat) (K : AX → St → Option R) : aloop (fun s j => aexec law09_BranchHolds_e law09_BranchHolds_l3_b s j) (headOf law09_BranchHolds_e law09_BranchHolds_l3_b 1216) (exitOf law09_BranchHolds_e law09_BranchHolds_l3_b 1216) (N + 1) (law09_BranchHolds_l3_s (fx, v)) K = (law09_BranchHolds_l3_step fx.1 fx.2.1 fx.2.2.1 fx.2.2.2.1 fx.2.2.2.2.1 fx.2.2.2.2.2.1 fx.2.2.2.2.2.2.1 fx.2.2.2.2.2.2.2.1 fx.2.2.2.2.2.2.2.2.1 fx.2.2.2.2.2.2.2.2.2 v).run (LR.elim
    (fun v' => aloop (fun s j => aexec law09_BranchHolds_e law09_BranchHolds_l3_b s j) (headOf law09_BranchHolds_e law09_BranchHolds_l3_b 1216) (exitOf law09_BranchHolds_e law09_BranchHolds_l3_b 1216) N (law09_BranchHolds_l3_s (fx, v')) K)
    (fun a => K (.exit 0) (law09_BranchHolds_l3_el (law09_BranchHolds_l3_s (fx, v)) a))
    (fun a => K .ret (law09_BranchHolds_l3_er (law09_BranchHolds_l3_s (fx, v)) a))) := by kernel_rfl
theorem law09_BranchHolds_l3_tells : LoopTells law09_BranchHolds_e law09_BranchHolds_l3_b law09_BranchHolds_l3_c :=
  loopM_tells (s := law09_BranchHolds_l3_s) (stl := law09_BranchHolds_l3_el) (str := law09_BranchHolds_l3_er) (step := fun (fx : Int × Int × (Sq SPlace) × (Sq SRoad) × (Sq SFan) × (Sq SDoor) × (Sq Int) × (Sq Int) × (Sq Int) × (Sq Int)) (v : Int) => law09_BranchHolds_l3_step fx.1 fx.2.1 fx.2.2.1 fx.2.2.2.1 fx.2.2.2.2.1 fx.2.2.2.2.2.1 fx.2.2.2.2.2.2.1 fx.2.2.2.2.2.2.2.1 fx.2.2.2.2.2.2.2.2.1 fx.2.2.2.2.2.2.2.2.2 v) (n := 1216) (fun _ => rfl) (fun _ _ _ _ => rfl) (fun _ _ _ _ => rfl) law09_BranchHolds_l3_round
theorem law09_BranchHolds_run (p : (Sq Int) × Int × Int) : arun law09_BranchHolds_env Try.f8 (law09_BranchHolds_enc p).1 (law09_BranchHolds_enc p).2 = (law09_BranchHolds_t p.1 p.2.1 p.2.2).run fun r => some (law09_BranchHolds_av r, law09_BranchHolds_outs (law09_BranchHolds_enc p).2 r) := by kernel_rfl
theorem law09_BranchHolds_loops : ∀ c, Try.f8.body = some c → LoopsOK { law09_BranchHolds_env with nt := Try.f8.ntmps } c := by
  intro c hc
  refine loops_of c fun c' hc' f hf => ?_
  have hb : loopsOf c = [law09_BranchHolds_l3_b] := by
    have : Try.f8.body.map loopsOf = some [law09_BranchHolds_l3_b] := by kernel_rfl
    rw [hc] at this
    injection this
  rw [hb] at hc'
  clear hb
  obtain rfl := List.mem_singleton.1 hc'
  have h6 : firstReg law09_BranchHolds_l3_b = 3 := by kernel_rfl
  rw [h6] at hf
  obtain rfl := Option.some.inj hf
  exact law09_BranchHolds_l3_tells
attribute [local irreducible] arun in
theorem law09_BranchHolds_tells : Tells Try.prog 8 c_law09_BranchHolds :=
  told_tells (E := law09_BranchHolds_env) (enc := law09_BranchHolds_enc) (av := law09_BranchHolds_av) (outs := law09_BranchHolds_outs) (t := fun p : (Sq Int) × Int × Int => law09_BranchHolds_t p.1 p.2.1 p.2.2) (by kernel_rfl) law09_BranchHolds_env_ok Try.func8 law09_BranchHolds_loops law09_BranchHolds_run
noncomputable def law09_BranchHolds (codes : (Sq Int)) (road : Int) (pressure : Int) : Option (Bool) := gOfA law09_BranchHolds_enc (fun p => (law09_BranchHolds_t p.1 p.2.1 p.2.2).get) (law09_BranchHolds_encC codes road pressure).1 (law09_BranchHolds_encC codes road pressure).2
theorem law09_BranchHolds_eq (codes : (Sq Int)) (road : Int) (pressure : Int) : law09_BranchHolds codes road pressure = (law09_BranchHolds_t codes road pressure).get := congrFun (gOfA_eq law09_BranchHolds_inj (fun p => (law09_BranchHolds_t p.1 p.2.1 p.2.2).get)) (codes, road, pressure)
end Go.Proofs.Ytbmbhgkjpdpcjaa.Ab
