/- Mirrors of code, stage 9: BranchFits. -/
import Derived.Test.YtbmbhgkjpdpcjaaYc
namespace Go.Proofs.Ytbmbhgkjpdpcjaa.Ab
open Go

/-! ### minecontrol/minecontrollaw09.BranchFits -/
def law09_BranchFits_encC (codes : (Sq Int)) (raw : SState) (at__ : Int) (by_ : Int) : List AV × List Blk := ([.slc 1 codes.n (fun k2989 => [.int .u8 (codes.f k2989)]), .agg [.slc 1 raw.Pressures.n (fun k2990 => [.int .i64 (raw.Pressures.f k2990)]), .slc 1 raw.Flows.n (fun k2991 => [.int .i64 (raw.Flows.f k2991)])], .int .i64 at__, .int .i64 by_], [])
def law09_BranchFits_enc (p : (Sq Int) × SState × Int × Int) : List AV × List Blk := law09_BranchFits_encC p.1 p.2.1 p.2.2.1 p.2.2.2
theorem law09_BranchFits_inj (p q : (Sq Int) × SState × Int × Int) (h : law09_BranchFits_enc p = law09_BranchFits_enc q) : p = q :=
  (Prod.ext (Sq.av_inj intE_u8 (a := p.1) (b := q.1) (congrArg (fun x : List AV × List Blk => x.1.getD 0 .undef) h)) (Prod.ext (SState.ext2 (Sq.av_inj intE_i64 (a := p.2.1.Pressures) (b := q.2.1.Pressures) (congrArg (fun x : List AV × List Blk => argC x.1 1 0) h)) (Sq.av_inj intE_i64 (a := p.2.1.Flows) (b := q.2.1.Flows) (congrArg (fun x : List AV × List Blk => argC x.1 1 1) h))) (Prod.ext (show p.2.2.1 = q.2.2.1 from congrArg intA (congrArg (fun x : List AV × List Blk => x.1.getD 2 .undef) h)) (show p.2.2.2 = q.2.2.2 from congrArg intA (congrArg (fun x : List AV × List Blk => x.1.getD 3 .undef) h)))))
noncomputable def law09_BranchFits_t (codes : (Sq Int)) (raw : SState) (at__ : Int) (by_ : Int) : DT (Bool) :=
  .bind (New codes) fun z2213 =>
  .bind (Codes_Made z2213) fun z2214 =>
  .bind (branch_Fits z2214.1 z2214.2.1 z2214.2.2.1) fun z2263 =>
  .ite (z2263 != (0 : Int)) (
    .leaf false) (
    .ite (decide (z2214.2.2.1.Pressures.n * 8 ≤ 140737488355328 ∧ z2214.2.2.1.Pressures.n ≤ 1099511627776)) (
      .ite (decide (z2214.2.2.1.Flows.n * 8 ≤ 140737488355328 ∧ z2214.2.2.1.Flows.n ≤ 1099511627776)) (
        .bind (Mod at__ (wr (((z2214.2.2.1.Pressures.n : Nat) : Int) + ((z2214.2.2.1.Flows.n : Nat) : Int)))) fun z2264 =>
        .ite (decide (z2264 < ((z2214.2.2.1.Pressures.n : Nat) : Int))) (
          .ite (decide ((0 : Int) ≤ z2264 ∧ z2264 < ((z2214.2.2.1.Pressures.n : Nat) : Int))) (
            .bind (Mod by_ (200 : Int)) fun z2265 =>
            .ite (decide ((0 : Int) ≤ z2264 ∧ z2264 < ((z2214.2.2.1.Pressures.n : Nat) : Int))) (
              .bind (branch_Fits z2214.1 z2214.2.1 (SState.mk (Sq.mk z2214.2.2.1.Pressures.n (fun k2266 => (cond (Nat.beq k2266 (Int.toNat z2264)) (wr ((z2214.2.2.1.Pressures.f (Int.toNat z2264)) + (wr (z2265 - (100 : Int))))) (z2214.2.2.1.Pressures.f k2266)))) z2214.2.2.1.Flows)) fun z2267 =>
              .bind (ref09_Fits z2214.1 z2214.2.1 (SState.mk (Sq.mk z2214.2.2.1.Pressures.n (fun k2268 => (cond (Nat.beq k2268 (Int.toNat z2264)) (wr ((z2214.2.2.1.Pressures.f (Int.toNat z2264)) + (wr (z2265 - (100 : Int))))) (z2214.2.2.1.Pressures.f k2268)))) z2214.2.2.1.Flows)) fun z2353 =>
              .ite (z2267 == z2353) (
                .bind (branch_Fits z2214.1 z2214.2.1 raw) fun z2354 =>
                .bind (ref09_Fits z2214.1 z2214.2.1 raw) fun z2355 =>
                .ite (z2354 == z2355) (
                  .leaf true) (
                  .leaf false)) (
                .leaf false)) (
              .fail)) (
            .fail)) (
          .ite (decide ((0 : Int) ≤ (wr (z2264 - ((z2214.2.2.1.Pressures.n : Nat) : Int))) ∧ (wr (z2264 - ((z2214.2.2.1.Pressures.n : Nat) : Int))) < ((z2214.2.2.1.Flows.n : Nat) : Int))) (
            .bind (Mod by_ (5 : Int)) fun z2356 =>
            .ite (decide ((0 : Int) ≤ (wr (z2264 - ((z2214.2.2.1.Pressures.n : Nat) : Int))) ∧ (wr (z2264 - ((z2214.2.2.1.Pressures.n : Nat) : Int))) < ((z2214.2.2.1.Flows.n : Nat) : Int))) (
              .bind (branch_Fits z2214.1 z2214.2.1 (SState.mk z2214.2.2.1.Pressures (Sq.mk z2214.2.2.1.Flows.n (fun k2357 => (cond (Nat.beq k2357 (Int.toNat (wr (z2264 - ((z2214.2.2.1.Pressures.n : Nat) : Int))))) (wr ((z2214.2.2.1.Flows.f (Int.toNat (wr (z2264 - ((z2214.2.2.1.Pressures.n : Nat) : Int))))) + (wr (z2356 - (2 : Int))))) (z2214.2.2.1.Flows.f k2357)))))) fun z2358 =>
              .bind (ref09_Fits z2214.1 z2214.2.1 (SState.mk z2214.2.2.1.Pressures (Sq.mk z2214.2.2.1.Flows.n (fun k2359 => (cond (Nat.beq k2359 (Int.toNat (wr (z2264 - ((z2214.2.2.1.Pressures.n : Nat) : Int))))) (wr ((z2214.2.2.1.Flows.f (Int.toNat (wr (z2264 - ((z2214.2.2.1.Pressures.n : Nat) : Int))))) + (wr (z2356 - (2 : Int))))) (z2214.2.2.1.Flows.f k2359)))))) fun z2360 =>
              .ite (z2358 == z2360) (
                .bind (branch_Fits z2214.1 z2214.2.1 raw) fun z2361 =>
                .bind (ref09_Fits z2214.1 z2214.2.1 raw) fun z2362 =>
                .ite (z2361 == z2362) (
                  .leaf true) (
                  .leaf false)) (
                .leaf false)) (
              .fail)) (
            .fail))) (
        .fail)) (
      .fail))
def law09_BranchFits_av (r : Bool) : AV := .bool r
def law09_BranchFits_outs (_ : List Blk) (_ : Bool) : List Blk := []
noncomputable def c_law09_BranchFits : List AV → List Blk → Option Ans := told law09_BranchFits_enc (fun p => (law09_BranchFits_t p.1 p.2.1 p.2.2.1 p.2.2.2).get) law09_BranchFits_av law09_BranchFits_outs true (fun _ _ _ => ⟨rfl, fun b hb => by cases hb⟩)
noncomputable def law09_BranchFits_env : Env := { envS (fun f => match f with
  | 10 => c_New
  | 11 => c_Codes_Made
  | 27 => c_branch_Fits
  | 22 => c_Mod
  | 28 => c_ref09_Fits
  | 16 => awake?
  | _ => fun _ _ => none) with mm := some 0 }
theorem law09_BranchFits_env_ok : ∀ f, Tells Try.prog f (law09_BranchFits_env.fs f) := by
  intro f
  by_cases h0 : f = 10
  · subst h0; exact New_tells
  by_cases h1 : f = 11
  · subst h1; exact Codes_Made_tells
  by_cases h2 : f = 27
  · subst h2; exact branch_Fits_tells
  by_cases h3 : f = 22
  · subst h3; exact Mod_tells
  by_cases h4 : f = 28
  · subst h4; exact ref09_Fits_tells
  by_cases h5 : f = 16
  · subst h5; exact tells_awake
  have : law09_BranchFits_env.fs f = fun _ _ => none := by
    unfold law09_BranchFits_env envS
    dsimp only
    split
    · exact absurd rfl h0
    · exact absurd rfl h1
    · exact absurd rfl h2
    · exact absurd rfl h3
    · exact absurd rfl h4
    · exact absurd rfl h5
    · rfl
  rw [this]
  exact Tells.none_ f
theorem law09_BranchFits_run (p : (Sq Int) × SState × Int × Int) : arun law09_BranchFits_env Try.f6 (law09_BranchFits_enc p).1 (law09_BranchFits_enc p).2 = (law09_BranchFits_t p.1 p.2.1 p.2.2.1 p.2.2.2).run fun r => some (law09_BranchFits_av r, law09_BranchFits_outs (law09_BranchFits_enc p).2 r) := by kernel_rfl
attribute [local irreducible] arun in
theorem law09_BranchFits_tells : Tells Try.prog 6 c_law09_BranchFits :=
  told_tells (E := law09_BranchFits_env) (enc := law09_BranchFits_enc) (av := law09_BranchFits_av) (outs := law09_BranchFits_outs) (t := fun p : (Sq Int) × SState × Int × Int => law09_BranchFits_t p.1 p.2.1 p.2.2.1 p.2.2.2) (by kernel_rfl) law09_BranchFits_env_ok Try.func6 (fun c _ => loops_none (E := { law09_BranchFits_env with nt := Try.f6.ntmps }) (fun _ => rfl) c) law09_BranchFits_run
noncomputable def law09_BranchFits (codes : (Sq Int)) (raw : SState) (at__ : Int) (by_ : Int) : Option (Bool) := gOfA law09_BranchFits_enc (fun p => (law09_BranchFits_t p.1 p.2.1 p.2.2.1 p.2.2.2).get) (law09_BranchFits_encC codes raw at__ by_).1 (law09_BranchFits_encC codes raw at__ by_).2
theorem law09_BranchFits_eq (codes : (Sq Int)) (raw : SState) (at__ : Int) (by_ : Int) : law09_BranchFits codes raw at__ by_ = (law09_BranchFits_t codes raw at__ by_).get := congrFun (gOfA_eq law09_BranchFits_inj (fun p => (law09_BranchFits_t p.1 p.2.1 p.2.2.1 p.2.2.2).get)) (codes, raw, at__, by_)
end Go.Proofs.Ytbmbhgkjpdpcjaa.Ab
