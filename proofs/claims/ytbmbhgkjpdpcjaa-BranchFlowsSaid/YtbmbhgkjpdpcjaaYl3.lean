/- Mirrors of code, stage 9: BranchFlows. -/
import Derived.Test.YtbmbhgkjpdpcjaaYc
namespace Go.Proofs.Ytbmbhgkjpdpcjaa.Ab
open Go

/-! ### minecontrol/minecontrollaw09.BranchFlows -/
def law09_BranchFlows_encC (codes : (Sq Int)) (road : Int) (pressure : Int) : List AV × List Blk := ([.slc 1 codes.n (fun k2894 => [.int .u8 (codes.f k2894)]), .int .i64 road, .int .i64 pressure], [])
def law09_BranchFlows_enc (p : (Sq Int) × Int × Int) : List AV × List Blk := law09_BranchFlows_encC p.1 p.2.1 p.2.2
theorem law09_BranchFlows_inj (p q : (Sq Int) × Int × Int) (h : law09_BranchFlows_enc p = law09_BranchFlows_enc q) : p = q :=
  (Prod.ext (Sq.av_inj intE_u8 (a := p.1) (b := q.1) (congrArg (fun x : List AV × List Blk => x.1.getD 0 .undef) h)) (Prod.ext (show p.2.1 = q.2.1 from congrArg intA (congrArg (fun x : List AV × List Blk => x.1.getD 1 .undef) h)) (show p.2.2 = q.2.2 from congrArg intA (congrArg (fun x : List AV × List Blk => x.1.getD 2 .undef) h))))
def law09_BranchFlows_l6_s (p : (Int × Int × (Sq Int) × (Sq Int) × (Sq SPlace) × (Sq SRoad) × (Sq SFan) × (Sq SDoor) × (Sq Int) × (Sq Int) × (Sq Int)) × (Int)) : St := ⟨[(1, .int .i64 p.1.1), (8, .ptr 640 0), (9, .ptr 704 0), (11, .ptr 1216 0), (12, .int .i64 p.1.2.1), (39, .own 2240 0), (40, .int .i64 (4 : Int)), (41, .int .i64 p.2)], [(324, .row 0 1 p.1.2.2.1.n 3 (fun k2895 => [.int .i64 (p.1.2.2.1.f k2895)])), (325, .row 0 1 p.1.2.2.2.1.n 3 (fun k2896 => [.int .i64 (p.1.2.2.2.1.f k2896)])), (640, .var [.slc 2 p.1.2.2.2.2.1.n (fun k2897 => (SPlace.enc (p.1.2.2.2.2.1.f k2897))), .slc 10 p.1.2.2.2.2.2.1.n (fun k2898 => (SRoad.enc (p.1.2.2.2.2.2.1.f k2898))), .slc 4 p.1.2.2.2.2.2.2.1.n (fun k2899 => (SFan.enc (p.1.2.2.2.2.2.2.1.f k2899))), .slc 3 p.1.2.2.2.2.2.2.2.1.n (fun k2900 => (SDoor.enc (p.1.2.2.2.2.2.2.2.1.f k2900)))]), (704, .var [.own 324 0, .own 325 0]), (1152, .row 0 1 p.1.2.2.2.2.2.2.2.2.1.n 3 (fun k2901 => [.int .i64 (p.1.2.2.2.2.2.2.2.2.1.f k2901)])), (1153, .row 0 1 p.1.2.2.2.2.2.2.2.2.2.1.n 3 (fun k2902 => [.int .i64 (p.1.2.2.2.2.2.2.2.2.2.1.f k2902)])), (1216, .var [.own 1152 0, .own 1153 0]), (2240, .row 0 1 p.1.2.2.2.2.2.2.2.2.2.2.n 3 (fun k2903 => [.int .i64 (p.1.2.2.2.2.2.2.2.2.2.2.f k2903)]))], 2432⟩
theorem law09_BranchFlows_l6_inj (p q : (Int × Int × (Sq Int) × (Sq Int) × (Sq SPlace) × (Sq SRoad) × (Sq SFan) × (Sq SDoor) × (Sq Int) × (Sq Int) × (Sq Int)) × (Int)) (h : law09_BranchFlows_l6_s p = law09_BranchFlows_l6_s q) : p = q :=
  Prod.ext (Prod.ext (show p.1.1 = q.1.1 from congrArg intA (congrArg (fun x : St => aget x.tm 1) h)) (Prod.ext (show p.1.2.1 = q.1.2.1 from congrArg intA (congrArg (fun x : St => aget x.tm 12) h)) (Prod.ext (Sq.row_inj intE_i64 (a := p.1.2.2.1) (b := q.1.2.2.1) (congrArg (fun x : St => blkS x 324) h)) (Prod.ext (Sq.row_inj intE_i64 (a := p.1.2.2.2.1) (b := q.1.2.2.2.1) (congrArg (fun x : St => blkS x 325) h)) (Prod.ext (Sq.av_inj SPlace.inj (a := p.1.2.2.2.2.1) (b := q.1.2.2.2.2.1) (congrArg (fun x : St => cellS x 640 0) h)) (Prod.ext (Sq.av_inj SRoad.inj (a := p.1.2.2.2.2.2.1) (b := q.1.2.2.2.2.2.1) (congrArg (fun x : St => cellS x 640 1) h)) (Prod.ext (Sq.av_inj SFan.inj (a := p.1.2.2.2.2.2.2.1) (b := q.1.2.2.2.2.2.2.1) (congrArg (fun x : St => cellS x 640 2) h)) (Prod.ext (Sq.av_inj SDoor.inj (a := p.1.2.2.2.2.2.2.2.1) (b := q.1.2.2.2.2.2.2.2.1) (congrArg (fun x : St => cellS x 640 3) h)) (Prod.ext (Sq.row_inj intE_i64 (a := p.1.2.2.2.2.2.2.2.2.1) (b := q.1.2.2.2.2.2.2.2.2.1) (congrArg (fun x : St => blkS x 1152) h)) (Prod.ext (Sq.row_inj intE_i64 (a := p.1.2.2.2.2.2.2.2.2.2.1) (b := q.1.2.2.2.2.2.2.2.2.2.1) (congrArg (fun x : St => blkS x 1153) h)) (Sq.row_inj intE_i64 (a := p.1.2.2.2.2.2.2.2.2.2.2) (b := q.1.2.2.2.2.2.2.2.2.2.2) (congrArg (fun x : St => blkS x 2240) h)))))))))))) (show p.2 = q.2 from congrArg intA (congrArg (fun x : St => aget x.tm 41) h))
noncomputable def law09_BranchFlows_l6_step (_road_6_0 : Int) (k_6_1 : Int) (v6_2 : (Sq Int)) (v6_3 : (Sq Int)) (v6_4 : (Sq SPlace)) (v6_5 : (Sq SRoad)) (v6_6 : (Sq SFan)) (v6_7 : (Sq SDoor)) (v6_8 : (Sq Int)) (v6_9 : (Sq Int)) (v6_10 : (Sq Int)) (v6_11 : Int) : DT (LR (Int) (Unit) (Unit)) :=
  .ite (decide (v6_11 < (4 : Int))) (
    .ite (decide ((0 : Int) ≤ v6_11 ∧ v6_11 < ((v6_10.n : Nat) : Int))) (
      .bind (branch_Flow (SAir.mk (SMine.mk v6_4 v6_5) v6_6 v6_7) (SSetting.mk v6_2 v6_3) k_6_1 (v6_10.f (Int.toNat v6_11))) fun z2205 =>
      .bind (ref09_Flow (SAir.mk (SMine.mk v6_4 v6_5) v6_6 v6_7) (SSetting.mk v6_2 v6_3) k_6_1 (v6_10.f (Int.toNat v6_11))) fun z2206 =>
      .ite (!((z2205.Low == z2206.Low) && ((z2205.High == z2206.High) && true))) (
        .leaf (.r ())) (
        .bind (branch_Flow (SAir.mk (SMine.mk v6_4 v6_5) v6_6 v6_7) (SSetting.mk v6_8 v6_9) k_6_1 (v6_10.f (Int.toNat v6_11))) fun z2207 =>
        .bind (ref09_Flow (SAir.mk (SMine.mk v6_4 v6_5) v6_6 v6_7) (SSetting.mk v6_8 v6_9) k_6_1 (v6_10.f (Int.toNat v6_11))) fun z2208 =>
        .ite (!((z2207.Low == z2208.Low) && ((z2207.High == z2208.High) && true))) (
          .leaf (.r ())) (
          .leaf (.next (wr (v6_11 + (1 : Int))))))) (
      .fail)) (
    .leaf (.l ()))
def law09_BranchFlows_l6_el (x : St) (_ : Unit) : St := ⟨[(1, aget x.tm 1), (6, .undef), (8, .ptr 640 0), (9, .ptr 704 0)], [(324, blkS x 324), (325, blkS x 325), (640, blkS x 640), (704, .var [.own 324 0, .own 325 0]), (1152, blkS x 1152), (1153, blkS x 1153), (1216, .var [.own 1152 0, .own 1153 0]), (2240, blkS x 2240)], 2432⟩
def law09_BranchFlows_l6_er (x : St) (_ : Unit) : St := ⟨[(1, aget x.tm 1), (6, .bool false), (8, .ptr 640 0), (9, .ptr 704 0)], [(324, blkS x 324), (325, blkS x 325), (640, blkS x 640), (704, .var [.own 324 0, .own 325 0]), (1152, blkS x 1152), (1153, blkS x 1153), (1216, .var [.own 1152 0, .own 1153 0]), (2240, blkS x 2240)], 2432⟩
noncomputable def law09_BranchFlows_l6_f (p : (Int × Int × (Sq Int) × (Sq Int) × (Sq SPlace) × (Sq SRoad) × (Sq SFan) × (Sq SDoor) × (Sq Int) × (Sq Int) × (Sq Int)) × (Int)) : Option ((Unit) ⊕ (Unit)) := fixO (fun v : Int => law09_BranchFlows_l6_step p.1.1 p.1.2.1 p.1.2.2.1 p.1.2.2.2.1 p.1.2.2.2.2.1 p.1.2.2.2.2.2.1 p.1.2.2.2.2.2.2.1 p.1.2.2.2.2.2.2.2.1 p.1.2.2.2.2.2.2.2.2.1 p.1.2.2.2.2.2.2.2.2.2.1 p.1.2.2.2.2.2.2.2.2.2.2 v) p.2
noncomputable def law09_BranchFlows_l6_c : St → Option LRes := loopM law09_BranchFlows_l6_s law09_BranchFlows_l6_f false (.exit 0) law09_BranchFlows_l6_el .ret law09_BranchFlows_l6_er
noncomputable def law09_BranchFlows_l6 (road_6_0 : Int) (k_6_1 : Int) (v6_2 : (Sq Int)) (v6_3 : (Sq Int)) (v6_4 : (Sq SPlace)) (v6_5 : (Sq SRoad)) (v6_6 : (Sq SFan)) (v6_7 : (Sq SDoor)) (v6_8 : (Sq Int)) (v6_9 : (Sq Int)) (v6_10 : (Sq Int)) (v6_11 : Int) : Option ((Unit) ⊕ (Unit)) := gOfS law09_BranchFlows_l6_s law09_BranchFlows_l6_f (law09_BranchFlows_l6_s ((road_6_0, k_6_1, v6_2, v6_3, v6_4, v6_5, v6_6, v6_7, v6_8, v6_9, v6_10), v6_11))
theorem law09_BranchFlows_l6_eq (road_6_0 : Int) (k_6_1 : Int) (v6_2 : (Sq Int)) (v6_3 : (Sq Int)) (v6_4 : (Sq SPlace)) (v6_5 : (Sq SRoad)) (v6_6 : (Sq SFan)) (v6_7 : (Sq SDoor)) (v6_8 : (Sq Int)) (v6_9 : (Sq Int)) (v6_10 : (Sq Int)) (v6_11 : Int) : law09_BranchFlows_l6 road_6_0 k_6_1 v6_2 v6_3 v6_4 v6_5 v6_6 v6_7 v6_8 v6_9 v6_10 v6_11 = fixO (fun v : Int => law09_BranchFlows_l6_step road_6_0 k_6_1 v6_2 v6_3 v6_4 v6_5 v6_6 v6_7 v6_8 v6_9 v6_10 v) v6_11 := gOfS_eq law09_BranchFlows_l6_inj law09_BranchFlows_l6_f ((road_6_0, k_6_1, v6_2, v6_3, v6_4, v6_5, v6_6, v6_7, v6_8, v6_9, v6_10), v6_11)
noncomputable def law09_BranchFlows_t (codes : (Sq Int)) (road : Int) (pressure : Int) : DT (Bool) :=
  .bind (New codes) fun z2196 =>
  .bind (Codes_Made z2196) fun z2197 =>
  .bind (Codes_Setting (SCodes.mk z2196.l_ z2197.2.2.2) z2197.1) fun z2198 =>
  .bind (Mod road (wr (((z2197.1.Mine.Roads.n : Nat) : Int) + (1 : Int)))) fun z2199 =>
  .bind (Mod pressure (100000 : Int)) fun z2200 =>
  .bind (Mod pressure (281474976710657 : Int)) fun z2201 =>
  .sum (law09_BranchFlows_l6 road z2199 z2197.2.1.Fans z2197.2.1.Doors z2197.1.Mine.Places z2197.1.Mine.Roads z2197.1.Fans z2197.1.Doors z2198.1.Fans z2198.1.Doors (Sq.mk 4 (fun k2202 => (cond (Nat.beq k2202 0) (wr (z2200 - (50000 : Int))) (cond (Nat.beq (k2202 - 1) 0) (wr (z2201 - (140737488355328 : Int))) (cond (Nat.beq ((k2202 - 1) - 1) 0) (140737488355328 : Int) (-140737488355328 : Int)))))) (0 : Int)) (fun _ =>
    .bind (branch_Flow z2197.1 z2197.2.1 road (0 : Int)) fun z2210 =>
    .bind (ref09_Flow z2197.1 z2197.2.1 road (0 : Int)) fun z2211 =>
    .ite ((z2210.Low == z2211.Low) && ((z2210.High == z2211.High) && true)) (
      .leaf true) (
      .leaf false)) (fun _ =>
    .leaf false)
def law09_BranchFlows_av (r : Bool) : AV := .bool r
def law09_BranchFlows_outs (_ : List Blk) (_ : Bool) : List Blk := []
noncomputable def c_law09_BranchFlows : List AV → List Blk → Option Ans := told law09_BranchFlows_enc (fun p => (law09_BranchFlows_t p.1 p.2.1 p.2.2).get) law09_BranchFlows_av law09_BranchFlows_outs true (fun _ _ _ => ⟨rfl, fun b hb => by cases hb⟩)
noncomputable def law09_BranchFlows_env : Env := { envS (fun f => match f with
  | 10 => c_New
  | 11 => c_Codes_Made
  | 21 => c_Codes_Setting
  | 22 => c_Mod
  | 25 => c_branch_Flow
  | 26 => c_ref09_Flow
  | 16 => awake?
  | _ => fun _ _ => none) (fun r => match r with | 6 => some ([1, 8, 9, 11, 12, 39, 40, 41], [1, 6, 8, 9]) | _ => none) with loops := fun r => match r with | 6 => some law09_BranchFlows_l6_c | _ => none, pre := fun r => match r with | 3 => [.freeze 320, .freeze 321, .freeze 322, .freeze 323] | _ => [], gc := fun r => match r with | 6 => some [324, 325, 640, 704, 1152, 1153, 1216, 2240] | _ => none, mm := some 0 }
theorem law09_BranchFlows_env_ok : ∀ f, Tells Try.prog f (law09_BranchFlows_env.fs f) := by
  intro f
  by_cases h0 : f = 10
  · subst h0; exact New_tells
  by_cases h1 : f = 11
  · subst h1; exact Codes_Made_tells
  by_cases h2 : f = 21
  · subst h2; exact Codes_Setting_tells
  by_cases h3 : f = 22
  · subst h3; exact Mod_tells
  by_cases h4 : f = 25
  · subst h4; exact branch_Flow_tells
  by_cases h5 : f = 26
  · subst h5; exact ref09_Flow_tells
  by_cases h6 : f = 16
  · subst h6; exact tells_awake
  have : law09_BranchFlows_env.fs f = fun _ _ => none := by
    unfold law09_BranchFlows_env envS
    dsimp only
    split
    · exact absurd rfl h0
    · exact absurd rfl h1
    · exact absurd rfl h2
    · exact absurd rfl h3
    · exact absurd rfl h4
    · exact absurd rfl h5
    · exact absurd rfl h6
    · rfl
  rw [this]
  exact Tells.none_ f
noncomputable def law09_BranchFlows_e : Env := { law09_BranchFlows_env with nt := 82 }
noncomputable def law09_BranchFlows_l6_b : Code := loopOf 6 Try.f5
theorem law09_BranchFlows_l6_round {R : Type} (fx : Int × Int × (Sq Int) × (Sq Int) × (Sq SPlace) × (Sq SRoad) × (Sq SFan) × (Sq SDoor) × (Sq Int) × (Sq Int) × (Sq Int)) (v : Int) (N : Nat) (K : AX → St → Option R) : aloop (fun s j => aexec law09_BranchFlows_e law09_BranchFlows_l6_b s j) (headOf law09_BranchFlows_e law09_BranchFlows_l6_b 2432) (exitOf law09_BranchFlows_e law09_BranchFlows_l6_b 2432) (N + 1) (law09_BranchFlows_l6_s (fx, v)) K = (law09_BranchFlows_l6_step fx.1 fx.2.1 fx.2.2.1 fx.2.2.2.1 fx.2.2.2.2.1 fx.2.2.2.2.2.1 fx.2.2.2.2.2.2.1 fx.2.2.2.2.2.2.2.1 fx.2.2.2.2.2.2.2.2.1 fx.2.2.2.2.2.2.2.2.2.1 fx.2.2.2.2.2.2.2.2.2.2 v).run (LR.elim
    (fun v' => aloop (fun s j => aexec law09_BranchFlows_e law09_BranchFlows_l6_b s j) (headOf law09_BranchFlows_e law09_BranchFlows_l6_b 2432) (exitOf law09_BranchFlows_e law09_BranchFlows_l6_b 2432) N (law09_BranchFlows_l6_s (fx, v')) K)
    (fun a => K (.exit 0) (law09_BranchFlows_l6_el (law09_BranchFlows_l6_s (fx, v)) a))
    (fun a => K .ret (law09_BranchFlows_l6_er (law09_BranchFlows_l6_s (fx, v)) a))) := by kernel_rfl
theorem law09_BranchFlows_l6_tells : LoopTells law09_BranchFlows_e law09_BranchFlows_l6_b law09_BranchFlows_l6_c :=
  loopM_tells (s := law09_BranchFlows_l6_s) (stl := law09_BranchFlows_l6_el) (str := law09_BranchFlows_l6_er) (step := fun (fx : Int × Int × (Sq Int) × (Sq Int) × (Sq SPlace) × (Sq SRoad) × (Sq SFan) × (Sq SDoor) × (Sq Int) × (Sq Int) × (Sq Int)) (v : Int) => law09_BranchFlows_l6_step fx.1 fx.2.1 fx.2.2.1 fx.2.2.2.1 fx.2.2.2.2.1 fx.2.2.2.2.2.1 fx.2.2.2.2.2.2.1 fx.2.2.2.2.2.2.2.1 fx.2.2.2.2.2.2.2.2.1 fx.2.2.2.2.2.2.2.2.2.1 fx.2.2.2.2.2.2.2.2.2.2 v) (n := 2432) (fun _ => rfl) (fun _ _ _ _ => rfl) (fun _ _ _ _ => rfl) law09_BranchFlows_l6_round
theorem law09_BranchFlows_run (p : (Sq Int) × Int × Int) : arun law09_BranchFlows_env Try.f5 (law09_BranchFlows_enc p).1 (law09_BranchFlows_enc p).2 = (law09_BranchFlows_t p.1 p.2.1 p.2.2).run fun r => some (law09_BranchFlows_av r, law09_BranchFlows_outs (law09_BranchFlows_enc p).2 r) := by kernel_rfl
theorem law09_BranchFlows_loops : ∀ c, Try.f5.body = some c → LoopsOK { law09_BranchFlows_env with nt := Try.f5.ntmps } c := by
  intro c hc
  refine loops_of c fun c' hc' f hf => ?_
  have hb : loopsOf c = [law09_BranchFlows_l6_b] := by
    have : Try.f5.body.map loopsOf = some [law09_BranchFlows_l6_b] := by kernel_rfl
    rw [hc] at this
    injection this
  rw [hb] at hc'
  clear hb
  obtain rfl := List.mem_singleton.1 hc'
  have h6 : firstReg law09_BranchFlows_l6_b = 6 := by kernel_rfl
  rw [h6] at hf
  obtain rfl := Option.some.inj hf
  exact law09_BranchFlows_l6_tells
attribute [local irreducible] arun in
theorem law09_BranchFlows_tells : Tells Try.prog 5 c_law09_BranchFlows :=
  told_tells (E := law09_BranchFlows_env) (enc := law09_BranchFlows_enc) (av := law09_BranchFlows_av) (outs := law09_BranchFlows_outs) (t := fun p : (Sq Int) × Int × Int => law09_BranchFlows_t p.1 p.2.1 p.2.2) (by kernel_rfl) law09_BranchFlows_env_ok Try.func5 law09_BranchFlows_loops law09_BranchFlows_run
noncomputable def law09_BranchFlows (codes : (Sq Int)) (road : Int) (pressure : Int) : Option (Bool) := gOfA law09_BranchFlows_enc (fun p => (law09_BranchFlows_t p.1 p.2.1 p.2.2).get) (law09_BranchFlows_encC codes road pressure).1 (law09_BranchFlows_encC codes road pressure).2
theorem law09_BranchFlows_eq (codes : (Sq Int)) (road : Int) (pressure : Int) : law09_BranchFlows codes road pressure = (law09_BranchFlows_t codes road pressure).get := congrFun (gOfA_eq law09_BranchFlows_inj (fun p => (law09_BranchFlows_t p.1 p.2.1 p.2.2).get)) (codes, road, pressure)
end Go.Proofs.Ytbmbhgkjpdpcjaa.Ab
