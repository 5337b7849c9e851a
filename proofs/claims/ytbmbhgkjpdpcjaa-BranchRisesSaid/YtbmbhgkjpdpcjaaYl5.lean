/- Mirrors of code, stage 9: BranchRises. -/
import Derived.Test.YtbmbhgkjpdpcjaaYc
namespace Go.Proofs.Ytbmbhgkjpdpcjaa.Ab
open Go

/-! ### minecontrol/minecontrollaw09.BranchRises -/
def law09_BranchRises_encC (codes : (Sq Int)) (road : Int) (flow : Int) (more : Int) (pressure : Int) (by_ : Int) : List AV × List Blk := ([.slc 1 codes.n (fun k2992 => [.int .u8 (codes.f k2992)]), .int .i64 road, .int .i64 flow, .int .u8 more, .int .i64 pressure, .int .u16 by_], [])
def law09_BranchRises_enc (p : (Sq Int) × Int × Int × Int × Int × Int) : List AV × List Blk := law09_BranchRises_encC p.1 p.2.1 p.2.2.1 p.2.2.2.1 p.2.2.2.2.1 p.2.2.2.2.2
theorem law09_BranchRises_inj (p q : (Sq Int) × Int × Int × Int × Int × Int) (h : law09_BranchRises_enc p = law09_BranchRises_enc q) : p = q :=
  (Prod.ext (Sq.av_inj intE_u8 (a := p.1) (b := q.1) (congrArg (fun x : List AV × List Blk => x.1.getD 0 .undef) h)) (Prod.ext (show p.2.1 = q.2.1 from congrArg intA (congrArg (fun x : List AV × List Blk => x.1.getD 1 .undef) h)) (Prod.ext (show p.2.2.1 = q.2.2.1 from congrArg intA (congrArg (fun x : List AV × List Blk => x.1.getD 2 .undef) h)) (Prod.ext (show p.2.2.2.1 = q.2.2.2.1 from congrArg intA (congrArg (fun x : List AV × List Blk => x.1.getD 3 .undef) h)) (Prod.ext (show p.2.2.2.2.1 = q.2.2.2.2.1 from congrArg intA (congrArg (fun x : List AV × List Blk => x.1.getD 4 .undef) h)) (show p.2.2.2.2.2 = q.2.2.2.2.2 from congrArg intA (congrArg (fun x : List AV × List Blk => x.1.getD 5 .undef) h)))))))
noncomputable def law09_BranchRises_t (codes : (Sq Int)) (road : Int) (flow : Int) (more : Int) (pressure : Int) (by_ : Int) : DT (Bool) :=
  .bind (New codes) fun z2371 =>
  .bind (Codes_Made z2371) fun z2372 =>
  .bind (Codes_Setting (SCodes.mk z2371.l_ z2372.2.2.2) z2372.1) fun z2373 =>
  .ite (((z2372.1.Mine.Roads.n : Nat) : Int) == (0 : Int)) (
    .leaf true) (
    .bind (Mod road ((z2372.1.Mine.Roads.n : Nat) : Int)) fun z2374 =>
    .bind (Mod flow (600 : Int)) fun z2375 =>
    .ite (decide ((0 : Int) ≤ z2374 ∧ z2374 < ((z2372.1.Mine.Roads.n : Nat) : Int))) (
      .ite (z2372.1.Mine.Roads.f (Int.toNat z2374)).Closed (
        .bind (branch_Drop z2372.1 z2373.1 z2374 (wr (z2375 - (300 : Int)))) fun z2376 =>
        .ite ((z2376.Low == (0 : Int)) && ((z2376.High == (0 : Int)) && true)) (
          .bind (branch_Flow z2372.1 z2373.1 z2374 (Int.tmod pressure (100000 : Int))) fun z2377 =>
          .ite ((z2377.Low == (0 : Int)) && ((z2377.High == (0 : Int)) && true)) (
            .leaf true) (
            .leaf false)) (
          .leaf false)) (
        .bind (branch_Drop z2372.1 z2373.1 z2374 (wr (z2375 - (300 : Int)))) fun z2378 =>
        .bind (branch_Drop z2372.1 z2373.1 z2374 (wr ((wr ((wr (z2375 - (300 : Int))) + (1 : Int))) + (wr more)))) fun z2379 =>
        .ite (decide (z2378.Low > z2378.High)) (
          .leaf false) (
          .ite (decide (z2379.Low ≤ z2378.Low)) (
            .leaf false) (
            .ite (decide (z2379.High ≤ z2378.High)) (
              .leaf false) (
              .bind (Mod pressure (200000 : Int)) fun z2380 =>
              .bind (branch_Flow z2372.1 z2373.1 z2374 (wr (z2380 - (100000 : Int)))) fun z2381 =>
              .bind (branch_Flow z2372.1 z2373.1 z2374 (wr ((wr (z2380 - (100000 : Int))) + (wr by_)))) fun z2382 =>
              .ite (decide (z2381.Low ≤ z2381.High)) (
                .ite (decide (z2382.Low ≥ z2381.Low)) (
                  .ite (decide (z2382.High ≥ z2381.High)) (
                    .leaf true) (
                    .leaf false)) (
                  .leaf false)) (
                .leaf false)))))) (
      .fail))
def law09_BranchRises_av (r : Bool) : AV := .bool r
def law09_BranchRises_outs (_ : List Blk) (_ : Bool) : List Blk := []
noncomputable def c_law09_BranchRises : List AV → List Blk → Option Ans := told law09_BranchRises_enc (fun p => (law09_BranchRises_t p.1 p.2.1 p.2.2.1 p.2.2.2.1 p.2.2.2.2.1 p.2.2.2.2.2).get) law09_BranchRises_av law09_BranchRises_outs true (fun _ _ _ => ⟨rfl, fun b hb => by cases hb⟩)
noncomputable def law09_BranchRises_env : Env := { envS (fun f => match f with
  | 10 => c_New
  | 11 => c_Codes_Made
  | 21 => c_Codes_Setting
  | 16 => awake?
  | 22 => c_Mod
  | 23 => c_branch_Drop
  | 25 => c_branch_Flow
  | _ => fun _ _ => none) with pre := fun r => match r with | 3 => [.freeze 320, .freeze 321, .freeze 322, .freeze 323] | _ => [], mm := some 0 }
theorem law09_BranchRises_env_ok : ∀ f, Tells Try.prog f (law09_BranchRises_env.fs f) := by
  intro f
  by_cases h0 : f = 10
  · subst h0; exact New_tells
  by_cases h1 : f = 11
  · subst h1; exact Codes_Made_tells
  by_cases h2 : f = 21
  · subst h2; exact Codes_Setting_tells
  by_cases h3 : f = 16
  · subst h3; exact tells_awake
  by_cases h4 : f = 22
  · subst h4; exact Mod_tells
  by_cases h5 : f = 23
  · subst h5; exact branch_Drop_tells
  by_cases h6 : f = 25
  · subst h6; exact branch_Flow_tells
  have : law09_BranchRises_env.fs f = fun _ _ => none := by
    unfold law09_BranchRises_env envS
    dsimp only
    split
    · exact absurd rfl h0
    · exact absurd rfl h1
    · exact absurd rfl h2
    · exact absurd rfl h3
    · exact absurd rfl h4
    · exact absurd rfl h5
    · exact absurd rfl h6
    · rfl
  rw [this]
  exact Tells.none_ f
theorem law09_BranchRises_run (p : (Sq Int) × Int × Int × Int × Int × Int) : arun law09_BranchRises_env Try.f7 (law09_BranchRises_enc p).1 (law09_BranchRises_enc p).2 = (law09_BranchRises_t p.1 p.2.1 p.2.2.1 p.2.2.2.1 p.2.2.2.2.1 p.2.2.2.2.2).run fun r => some (law09_BranchRises_av r, law09_BranchRises_outs (law09_BranchRises_enc p).2 r) := by kernel_rfl
attribute [local irreducible] arun in
theorem law09_BranchRises_tells : Tells Try.prog 7 c_law09_BranchRises :=
  told_tells (E := law09_BranchRises_env) (enc := law09_BranchRises_enc) (av := law09_BranchRises_av) (outs := law09_BranchRises_outs) (t := fun p : (Sq Int) × Int × Int × Int × Int × Int => law09_BranchRises_t p.1 p.2.1 p.2.2.1 p.2.2.2.1 p.2.2.2.2.1 p.2.2.2.2.2) (by kernel_rfl) law09_BranchRises_env_ok Try.func7 (fun c _ => loops_none (E := { law09_BranchRises_env with nt := Try.f7.ntmps }) (fun _ => rfl) c) law09_BranchRises_run
noncomputable def law09_BranchRises (codes : (Sq Int)) (road : Int) (flow : Int) (more : Int) (pressure : Int) (by_ : Int) : Option (Bool) := gOfA law09_BranchRises_enc (fun p => (law09_BranchRises_t p.1 p.2.1 p.2.2.1 p.2.2.2.1 p.2.2.2.2.1 p.2.2.2.2.2).get) (law09_BranchRises_encC codes road flow more pressure by_).1 (law09_BranchRises_encC codes road flow more pressure by_).2
theorem law09_BranchRises_eq (codes : (Sq Int)) (road : Int) (flow : Int) (more : Int) (pressure : Int) (by_ : Int) : law09_BranchRises codes road flow more pressure by_ = (law09_BranchRises_t codes road flow more pressure by_).get := congrFun (gOfA_eq law09_BranchRises_inj (fun p => (law09_BranchRises_t p.1 p.2.1 p.2.2.1 p.2.2.2.1 p.2.2.2.2.1 p.2.2.2.2.2).get)) (codes, road, flow, more, pressure, by_)
end Go.Proofs.Ytbmbhgkjpdpcjaa.Ab
