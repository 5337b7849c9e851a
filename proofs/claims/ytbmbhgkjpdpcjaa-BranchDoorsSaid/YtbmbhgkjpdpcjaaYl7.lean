/- Mirrors of code, stage 9: BranchDoors. -/
import Derived.Test.YtbmbhgkjpdpcjaaYc
namespace Go.Proofs.Ytbmbhgkjpdpcjaa.Ab
open Go

/-! ### minecontrol/minecontrollaw09.BranchDoors -/
def law09_BranchDoors_encC (codes : (Sq Int)) (door : Int) (state : Int) (pressure : Int) (flow : Int) : List AV × List Blk := ([.slc 1 codes.n (fun k3002 => [.int .u8 (codes.f k3002)]), .int .i64 door, .int .i64 state, .int .i64 pressure, .int .i64 flow], [])
def law09_BranchDoors_enc (p : (Sq Int) × Int × Int × Int × Int) : List AV × List Blk := law09_BranchDoors_encC p.1 p.2.1 p.2.2.1 p.2.2.2.1 p.2.2.2.2
theorem law09_BranchDoors_inj (p q : (Sq Int) × Int × Int × Int × Int) (h : law09_BranchDoors_enc p = law09_BranchDoors_enc q) : p = q :=
  (Prod.ext (Sq.av_inj intE_u8 (a := p.1) (b := q.1) (congrArg (fun x : List AV × List Blk => x.1.getD 0 .undef) h)) (Prod.ext (show p.2.1 = q.2.1 from congrArg intA (congrArg (fun x : List AV × List Blk => x.1.getD 1 .undef) h)) (Prod.ext (show p.2.2.1 = q.2.2.1 from congrArg intA (congrArg (fun x : List AV × List Blk => x.1.getD 2 .undef) h)) (Prod.ext (show p.2.2.2.1 = q.2.2.2.1 from congrArg intA (congrArg (fun x : List AV × List Blk => x.1.getD 3 .undef) h)) (show p.2.2.2.2 = q.2.2.2.2 from congrArg intA (congrArg (fun x : List AV × List Blk => x.1.getD 4 .undef) h))))))
noncomputable def law09_BranchDoors_t (codes : (Sq Int)) (door : Int) (state : Int) (pressure : Int) (flow : Int) : DT (Bool) :=
  .bind (New codes) fun z2425 =>
  .bind (Codes_Made z2425) fun z2426 =>
  .ite (((z2426.1.Mine.Roads.n : Nat) : Int) == (0 : Int)) (
    .leaf true) (
    .bind (Mod door ((z2426.1.Mine.Roads.n : Nat) : Int)) fun z2427 =>
    .bind (Codes_Door (SCodes.mk z2425.l_ z2426.2.2.2) z2427) fun z2428 =>
    .ite (decide ((z2426.1.Doors.n + 1) * 40 ≤ 140737488355328 ∧ (z2426.1.Doors.n + 1) ≤ 1099511627776)) (
      .bind (Codes_Setting (SCodes.mk z2425.l_ z2428.2) (SAir.mk z2426.1.Mine z2426.1.Fans (Sq.mk (z2426.1.Doors.n + 1) (fun k2429 => (SDoor.mk (cond (Nat.blt k2429 z2426.1.Doors.n) (z2426.1.Doors.f k2429).Road z2428.1.Road) (cond (Nat.blt k2429 z2426.1.Doors.n) (z2426.1.Doors.f k2429).Other z2428.1.Other) (Sq.mk (cond (Nat.blt k2429 z2426.1.Doors.n) (z2426.1.Doors.f k2429).Rests.n z2428.1.Rests.n) (fun k2430 => (cond (Nat.blt k2429 z2426.1.Doors.n) ((z2426.1.Doors.f k2429).Rests.f k2430) (z2428.1.Rests.f k2430))))))))) fun z2431 =>
      .ite (decide ((0 : Int) ≤ (wr ((((z2426.1.Doors.n + 1) : Nat) : Int) - (1 : Int))) ∧ (wr ((((z2426.1.Doors.n + 1) : Nat) : Int) - (1 : Int))) < (((z2426.1.Doors.n + 1) : Nat) : Int))) (
        .ite (decide ((0 : Int) ≤ (wr ((((z2426.1.Doors.n + 1) : Nat) : Int) - (1 : Int))) ∧ (wr ((((z2426.1.Doors.n + 1) : Nat) : Int) - (1 : Int))) < (((z2426.1.Doors.n + 1) : Nat) : Int))) (
          .bind (Mod state (wr ((((cond (Nat.blt (Int.toNat (wr ((((z2426.1.Doors.n + 1) : Nat) : Int) - (1 : Int)))) z2426.1.Doors.n) (z2426.1.Doors.f (Int.toNat (wr ((((z2426.1.Doors.n + 1) : Nat) : Int) - (1 : Int))))).Rests.n z2428.1.Rests.n) : Nat) : Int) - (1 : Int)))) fun z2432 =>
          .ite (decide ((0 : Int) ≤ (wr ((((z2426.1.Doors.n + 1) : Nat) : Int) - (1 : Int))) ∧ (wr ((((z2426.1.Doors.n + 1) : Nat) : Int) - (1 : Int))) < ((z2431.1.Doors.n : Nat) : Int))) (
            .ite (decide (z2431.1.Doors.n * 8 ≤ 140737488355328 ∧ z2431.1.Doors.n ≤ 1099511627776)) (
              .ite (decide ((0 : Int) ≤ (wr ((((z2426.1.Doors.n + 1) : Nat) : Int) - (1 : Int))) ∧ (wr ((((z2426.1.Doors.n + 1) : Nat) : Int) - (1 : Int))) < ((z2431.1.Doors.n : Nat) : Int))) (
                .ite (decide (z2431.1.Doors.n * 8 ≤ 140737488355328 ∧ z2431.1.Doors.n ≤ 1099511627776)) (
                  .ite (decide ((0 : Int) ≤ (wr ((((z2426.1.Doors.n + 1) : Nat) : Int) - (1 : Int))) ∧ (wr ((((z2426.1.Doors.n + 1) : Nat) : Int) - (1 : Int))) < ((z2431.1.Doors.n : Nat) : Int))) (
                    .bind (Mod pressure (200000 : Int)) fun z2433 =>
                    .bind (branch_Flow (SAir.mk z2426.1.Mine z2426.1.Fans (Sq.mk (z2426.1.Doors.n + 1) (fun k2434 => (SDoor.mk (cond (Nat.blt k2434 z2426.1.Doors.n) (z2426.1.Doors.f k2434).Road z2428.1.Road) (cond (Nat.blt k2434 z2426.1.Doors.n) (z2426.1.Doors.f k2434).Other z2428.1.Other) (Sq.mk (cond (Nat.blt k2434 z2426.1.Doors.n) (z2426.1.Doors.f k2434).Rests.n z2428.1.Rests.n) (fun k2435 => (cond (Nat.blt k2434 z2426.1.Doors.n) ((z2426.1.Doors.f k2434).Rests.f k2435) (z2428.1.Rests.f k2435)))))))) (SSetting.mk z2431.1.Fans (Sq.mk z2431.1.Doors.n (fun k2436 => (cond (Nat.beq k2436 (Int.toNat (wr ((((z2426.1.Doors.n + 1) : Nat) : Int) - (1 : Int))))) z2432 (z2431.1.Doors.f k2436))))) (cond (Nat.blt (Int.toNat (wr ((((z2426.1.Doors.n + 1) : Nat) : Int) - (1 : Int)))) z2426.1.Doors.n) (z2426.1.Doors.f (Int.toNat (wr ((((z2426.1.Doors.n + 1) : Nat) : Int) - (1 : Int))))).Road z2428.1.Road) (wr (z2433 - (100000 : Int)))) fun z2437 =>
                    .bind (branch_Flow (SAir.mk z2426.1.Mine z2426.1.Fans (Sq.mk (z2426.1.Doors.n + 1) (fun k2438 => (SDoor.mk (cond (Nat.blt k2438 z2426.1.Doors.n) (z2426.1.Doors.f k2438).Road z2428.1.Road) (cond (Nat.blt k2438 z2426.1.Doors.n) (z2426.1.Doors.f k2438).Other z2428.1.Other) (Sq.mk (cond (Nat.blt k2438 z2426.1.Doors.n) (z2426.1.Doors.f k2438).Rests.n z2428.1.Rests.n) (fun k2439 => (cond (Nat.blt k2438 z2426.1.Doors.n) ((z2426.1.Doors.f k2438).Rests.f k2439) (z2428.1.Rests.f k2439)))))))) (SSetting.mk z2431.1.Fans (Sq.mk z2431.1.Doors.n (fun k2440 => (cond (Nat.beq k2440 (Int.toNat (wr ((((z2426.1.Doors.n + 1) : Nat) : Int) - (1 : Int))))) (wr (z2432 + (1 : Int))) (cond (Nat.beq k2440 (Int.toNat (wr ((((z2426.1.Doors.n + 1) : Nat) : Int) - (1 : Int))))) z2432 (z2431.1.Doors.f k2440)))))) (cond (Nat.blt (Int.toNat (wr ((((z2426.1.Doors.n + 1) : Nat) : Int) - (1 : Int)))) z2426.1.Doors.n) (z2426.1.Doors.f (Int.toNat (wr ((((z2426.1.Doors.n + 1) : Nat) : Int) - (1 : Int))))).Road z2428.1.Road) (wr (z2433 - (100000 : Int)))) fun z2441 =>
                    .bind (branch_Flow (SAir.mk z2426.1.Mine z2426.1.Fans (Sq.mk (z2426.1.Doors.n + 1) (fun k2442 => (SDoor.mk (cond (Nat.blt k2442 z2426.1.Doors.n) (z2426.1.Doors.f k2442).Road z2428.1.Road) (cond (Nat.blt k2442 z2426.1.Doors.n) (z2426.1.Doors.f k2442).Other z2428.1.Other) (Sq.mk (cond (Nat.blt k2442 z2426.1.Doors.n) (z2426.1.Doors.f k2442).Rests.n z2428.1.Rests.n) (fun k2443 => (cond (Nat.blt k2442 z2426.1.Doors.n) ((z2426.1.Doors.f k2442).Rests.f k2443) (z2428.1.Rests.f k2443)))))))) (SSetting.mk z2431.1.Fans (Sq.mk z2431.1.Doors.n (fun k2444 => (cond (Nat.beq k2444 (Int.toNat (wr ((((z2426.1.Doors.n + 1) : Nat) : Int) - (1 : Int))))) (-1 : Int) (cond (Nat.beq k2444 (Int.toNat (wr ((((z2426.1.Doors.n + 1) : Nat) : Int) - (1 : Int))))) z2432 (z2431.1.Doors.f k2444)))))) (cond (Nat.blt (Int.toNat (wr ((((z2426.1.Doors.n + 1) : Nat) : Int) - (1 : Int)))) z2426.1.Doors.n) (z2426.1.Doors.f (Int.toNat (wr ((((z2426.1.Doors.n + 1) : Nat) : Int) - (1 : Int))))).Road z2428.1.Road) (wr (z2433 - (100000 : Int)))) fun z2445 =>
                    .ite (decide (z2437.Low > (0 : Int))) (
                      .ite (decide (z2441.Low < z2437.Low)) (
                        .leaf false) (
                        .ite (decide (z2437.High < (0 : Int))) (
                          .ite (decide (z2441.High > z2437.High)) (
                            .leaf false) (
                            .ite (decide (z2445.Low > z2437.Low)) (
                              .leaf false) (
                              .ite (decide (z2445.Low > z2441.Low)) (
                                .leaf false) (
                                .ite (decide (z2445.High < z2437.High)) (
                                  .leaf false) (
                                  .ite (decide (z2445.High < z2441.High)) (
                                    .leaf false) (
                                    .bind (Mod flow (400 : Int)) fun z2446 =>
                                    .bind (branch_Drop (SAir.mk z2426.1.Mine z2426.1.Fans (Sq.mk (z2426.1.Doors.n + 1) (fun k2447 => (SDoor.mk (cond (Nat.blt k2447 z2426.1.Doors.n) (z2426.1.Doors.f k2447).Road z2428.1.Road) (cond (Nat.blt k2447 z2426.1.Doors.n) (z2426.1.Doors.f k2447).Other z2428.1.Other) (Sq.mk (cond (Nat.blt k2447 z2426.1.Doors.n) (z2426.1.Doors.f k2447).Rests.n z2428.1.Rests.n) (fun k2448 => (cond (Nat.blt k2447 z2426.1.Doors.n) ((z2426.1.Doors.f k2447).Rests.f k2448) (z2428.1.Rests.f k2448)))))))) (SSetting.mk z2431.1.Fans (Sq.mk z2431.1.Doors.n (fun k2449 => (cond (Nat.beq k2449 (Int.toNat (wr ((((z2426.1.Doors.n + 1) : Nat) : Int) - (1 : Int))))) z2432 (z2431.1.Doors.f k2449))))) (cond (Nat.blt (Int.toNat (wr ((((z2426.1.Doors.n + 1) : Nat) : Int) - (1 : Int)))) z2426.1.Doors.n) (z2426.1.Doors.f (Int.toNat (wr ((((z2426.1.Doors.n + 1) : Nat) : Int) - (1 : Int))))).Road z2428.1.Road) (wr (z2446 - (200 : Int)))) fun z2450 =>
                                    .bind (branch_Drop (SAir.mk z2426.1.Mine z2426.1.Fans (Sq.mk (z2426.1.Doors.n + 1) (fun k2451 => (SDoor.mk (cond (Nat.blt k2451 z2426.1.Doors.n) (z2426.1.Doors.f k2451).Road z2428.1.Road) (cond (Nat.blt k2451 z2426.1.Doors.n) (z2426.1.Doors.f k2451).Other z2428.1.Other) (Sq.mk (cond (Nat.blt k2451 z2426.1.Doors.n) (z2426.1.Doors.f k2451).Rests.n z2428.1.Rests.n) (fun k2452 => (cond (Nat.blt k2451 z2426.1.Doors.n) ((z2426.1.Doors.f k2451).Rests.f k2452) (z2428.1.Rests.f k2452)))))))) (SSetting.mk z2431.1.Fans (Sq.mk z2431.1.Doors.n (fun k2453 => (cond (Nat.beq k2453 (Int.toNat (wr ((((z2426.1.Doors.n + 1) : Nat) : Int) - (1 : Int))))) (-1 : Int) (cond (Nat.beq k2453 (Int.toNat (wr ((((z2426.1.Doors.n + 1) : Nat) : Int) - (1 : Int))))) z2432 (z2431.1.Doors.f k2453)))))) (cond (Nat.blt (Int.toNat (wr ((((z2426.1.Doors.n + 1) : Nat) : Int) - (1 : Int)))) z2426.1.Doors.n) (z2426.1.Doors.f (Int.toNat (wr ((((z2426.1.Doors.n + 1) : Nat) : Int) - (1 : Int))))).Road z2428.1.Road) (wr (z2446 - (200 : Int)))) fun z2454 =>
                                    .ite (decide (z2454.Low ≤ z2450.Low)) (
                                      .ite (decide (z2454.High ≥ z2450.High)) (
                                        .leaf true) (
                                        .leaf false)) (
                                      .leaf false))))))) (
                          .ite (decide (z2445.Low > z2437.Low)) (
                            .leaf false) (
                            .ite (decide (z2445.Low > z2441.Low)) (
                              .leaf false) (
                              .ite (decide (z2445.High < z2437.High)) (
                                .leaf false) (
                                .ite (decide (z2445.High < z2441.High)) (
                                  .leaf false) (
                                  .bind (Mod flow (400 : Int)) fun z2455 =>
                                  .bind (branch_Drop (SAir.mk z2426.1.Mine z2426.1.Fans (Sq.mk (z2426.1.Doors.n + 1) (fun k2456 => (SDoor.mk (cond (Nat.blt k2456 z2426.1.Doors.n) (z2426.1.Doors.f k2456).Road z2428.1.Road) (cond (Nat.blt k2456 z2426.1.Doors.n) (z2426.1.Doors.f k2456).Other z2428.1.Other) (Sq.mk (cond (Nat.blt k2456 z2426.1.Doors.n) (z2426.1.Doors.f k2456).Rests.n z2428.1.Rests.n) (fun k2457 => (cond (Nat.blt k2456 z2426.1.Doors.n) ((z2426.1.Doors.f k2456).Rests.f k2457) (z2428.1.Rests.f k2457)))))))) (SSetting.mk z2431.1.Fans (Sq.mk z2431.1.Doors.n (fun k2458 => (cond (Nat.beq k2458 (Int.toNat (wr ((((z2426.1.Doors.n + 1) : Nat) : Int) - (1 : Int))))) z2432 (z2431.1.Doors.f k2458))))) (cond (Nat.blt (Int.toNat (wr ((((z2426.1.Doors.n + 1) : Nat) : Int) - (1 : Int)))) z2426.1.Doors.n) (z2426.1.Doors.f (Int.toNat (wr ((((z2426.1.Doors.n + 1) : Nat) : Int) - (1 : Int))))).Road z2428.1.Road) (wr (z2455 - (200 : Int)))) fun z2459 =>
                                  .bind (branch_Drop (SAir.mk z2426.1.Mine z2426.1.Fans (Sq.mk (z2426.1.Doors.n + 1) (fun k2460 => (SDoor.mk (cond (Nat.blt k2460 z2426.1.Doors.n) (z2426.1.Doors.f k2460).Road z2428.1.Road) (cond (Nat.blt k2460 z2426.1.Doors.n) (z2426.1.Doors.f k2460).Other z2428.1.Other) (Sq.mk (cond (Nat.blt k2460 z2426.1.Doors.n) (z2426.1.Doors.f k2460).Rests.n z2428.1.Rests.n) (fun k2461 => (cond (Nat.blt k2460 z2426.1.Doors.n) ((z2426.1.Doors.f k2460).Rests.f k2461) (z2428.1.Rests.f k2461)))))))) (SSetting.mk z2431.1.Fans (Sq.mk z2431.1.Doors.n (fun k2462 => (cond (Nat.beq k2462 (Int.toNat (wr ((((z2426.1.Doors.n + 1) : Nat) : Int) - (1 : Int))))) (-1 : Int) (cond (Nat.beq k2462 (Int.toNat (wr ((((z2426.1.Doors.n + 1) : Nat) : Int) - (1 : Int))))) z2432 (z2431.1.Doors.f k2462)))))) (cond (Nat.blt (Int.toNat (wr ((((z2426.1.Doors.n + 1) : Nat) : Int) - (1 : Int)))) z2426.1.Doors.n) (z2426.1.Doors.f (Int.toNat (wr ((((z2426.1.Doors.n + 1) : Nat) : Int) - (1 : Int))))).Road z2428.1.Road) (wr (z2455 - (200 : Int)))) fun z2463 =>
                                  .ite (decide (z2463.Low ≤ z2459.Low)) (
                                    .ite (decide (z2463.High ≥ z2459.High)) (
                                      .leaf true) (
                                      .leaf false)) (
                                    .leaf false)))))))) (
                      .ite (decide (z2437.High < (0 : Int))) (
                        .ite (decide (z2441.High > z2437.High)) (
                          .leaf false) (
                          .ite (decide (z2445.Low > z2437.Low)) (
                            .leaf false) (
                            .ite (decide (z2445.Low > z2441.Low)) (
                              .leaf false) (
                              .ite (decide (z2445.High < z2437.High)) (
                                .leaf false) (
                                .ite (decide (z2445.High < z2441.High)) (
                                  .leaf false) (
                                  .bind (Mod flow (400 : Int)) fun z2464 =>
                                  .bind (branch_Drop (SAir.mk z2426.1.Mine z2426.1.Fans (Sq.mk (z2426.1.Doors.n + 1) (fun k2465 => (SDoor.mk (cond (Nat.blt k2465 z2426.1.Doors.n) (z2426.1.Doors.f k2465).Road z2428.1.Road) (cond (Nat.blt k2465 z2426.1.Doors.n) (z2426.1.Doors.f k2465).Other z2428.1.Other) (Sq.mk (cond (Nat.blt k2465 z2426.1.Doors.n) (z2426.1.Doors.f k2465).Rests.n z2428.1.Rests.n) (fun k2466 => (cond (Nat.blt k2465 z2426.1.Doors.n) ((z2426.1.Doors.f k2465).Rests.f k2466) (z2428.1.Rests.f k2466)))))))) (SSetting.mk z2431.1.Fans (Sq.mk z2431.1.Doors.n (fun k2467 => (cond (Nat.beq k2467 (Int.toNat (wr ((((z2426.1.Doors.n + 1) : Nat) : Int) - (1 : Int))))) z2432 (z2431.1.Doors.f k2467))))) (cond (Nat.blt (Int.toNat (wr ((((z2426.1.Doors.n + 1) : Nat) : Int) - (1 : Int)))) z2426.1.Doors.n) (z2426.1.Doors.f (Int.toNat (wr ((((z2426.1.Doors.n + 1) : Nat) : Int) - (1 : Int))))).Road z2428.1.Road) (wr (z2464 - (200 : Int)))) fun z2468 =>
                                  .bind (branch_Drop (SAir.mk z2426.1.Mine z2426.1.Fans (Sq.mk (z2426.1.Doors.n + 1) (fun k2469 => (SDoor.mk (cond (Nat.blt k2469 z2426.1.Doors.n) (z2426.1.Doors.f k2469).Road z2428.1.Road) (cond (Nat.blt k2469 z2426.1.Doors.n) (z2426.1.Doors.f k2469).Other z2428.1.Other) (Sq.mk (cond (Nat.blt k2469 z2426.1.Doors.n) (z2426.1.Doors.f k2469).Rests.n z2428.1.Rests.n) (fun k2470 => (cond (Nat.blt k2469 z2426.1.Doors.n) ((z2426.1.Doors.f k2469).Rests.f k2470) (z2428.1.Rests.f k2470)))))))) (SSetting.mk z2431.1.Fans (Sq.mk z2431.1.Doors.n (fun k2471 => (cond (Nat.beq k2471 (Int.toNat (wr ((((z2426.1.Doors.n + 1) : Nat) : Int) - (1 : Int))))) (-1 : Int) (cond (Nat.beq k2471 (Int.toNat (wr ((((z2426.1.Doors.n + 1) : Nat) : Int) - (1 : Int))))) z2432 (z2431.1.Doors.f k2471)))))) (cond (Nat.blt (Int.toNat (wr ((((z2426.1.Doors.n + 1) : Nat) : Int) - (1 : Int)))) z2426.1.Doors.n) (z2426.1.Doors.f (Int.toNat (wr ((((z2426.1.Doors.n + 1) : Nat) : Int) - (1 : Int))))).Road z2428.1.Road) (wr (z2464 - (200 : Int)))) fun z2472 =>
                                  .ite (decide (z2472.Low ≤ z2468.Low)) (
                                    .ite (decide (z2472.High ≥ z2468.High)) (
                                      .leaf true) (
                                      .leaf false)) (
                                    .leaf false))))))) (
                        .ite (decide (z2445.Low > z2437.Low)) (
                          .leaf false) (
                          .ite (decide (z2445.Low > z2441.Low)) (
                            .leaf false) (
                            .ite (decide (z2445.High < z2437.High)) (
                              .leaf false) (
                              .ite (decide (z2445.High < z2441.High)) (
                                .leaf false) (
                                .bind (Mod flow (400 : Int)) fun z2473 =>
                                .bind (branch_Drop (SAir.mk z2426.1.Mine z2426.1.Fans (Sq.mk (z2426.1.Doors.n + 1) (fun k2474 => (SDoor.mk (cond (Nat.blt k2474 z2426.1.Doors.n) (z2426.1.Doors.f k2474).Road z2428.1.Road) (cond (Nat.blt k2474 z2426.1.Doors.n) (z2426.1.Doors.f k2474).Other z2428.1.Other) (Sq.mk (cond (Nat.blt k2474 z2426.1.Doors.n) (z2426.1.Doors.f k2474).Rests.n z2428.1.Rests.n) (fun k2475 => (cond (Nat.blt k2474 z2426.1.Doors.n) ((z2426.1.Doors.f k2474).Rests.f k2475) (z2428.1.Rests.f k2475)))))))) (SSetting.mk z2431.1.Fans (Sq.mk z2431.1.Doors.n (fun k2476 => (cond (Nat.beq k2476 (Int.toNat (wr ((((z2426.1.Doors.n + 1) : Nat) : Int) - (1 : Int))))) z2432 (z2431.1.Doors.f k2476))))) (cond (Nat.blt (Int.toNat (wr ((((z2426.1.Doors.n + 1) : Nat) : Int) - (1 : Int)))) z2426.1.Doors.n) (z2426.1.Doors.f (Int.toNat (wr ((((z2426.1.Doors.n + 1) : Nat) : Int) - (1 : Int))))).Road z2428.1.Road) (wr (z2473 - (200 : Int)))) fun z2477 =>
                                .bind (branch_Drop (SAir.mk z2426.1.Mine z2426.1.Fans (Sq.mk (z2426.1.Doors.n + 1) (fun k2478 => (SDoor.mk (cond (Nat.blt k2478 z2426.1.Doors.n) (z2426.1.Doors.f k2478).Road z2428.1.Road) (cond (Nat.blt k2478 z2426.1.Doors.n) (z2426.1.Doors.f k2478).Other z2428.1.Other) (Sq.mk (cond (Nat.blt k2478 z2426.1.Doors.n) (z2426.1.Doors.f k2478).Rests.n z2428.1.Rests.n) (fun k2479 => (cond (Nat.blt k2478 z2426.1.Doors.n) ((z2426.1.Doors.f k2478).Rests.f k2479) (z2428.1.Rests.f k2479)))))))) (SSetting.mk z2431.1.Fans (Sq.mk z2431.1.Doors.n (fun k2480 => (cond (Nat.beq k2480 (Int.toNat (wr ((((z2426.1.Doors.n + 1) : Nat) : Int) - (1 : Int))))) (-1 : Int) (cond (Nat.beq k2480 (Int.toNat (wr ((((z2426.1.Doors.n + 1) : Nat) : Int) - (1 : Int))))) z2432 (z2431.1.Doors.f k2480)))))) (cond (Nat.blt (Int.toNat (wr ((((z2426.1.Doors.n + 1) : Nat) : Int) - (1 : Int)))) z2426.1.Doors.n) (z2426.1.Doors.f (Int.toNat (wr ((((z2426.1.Doors.n + 1) : Nat) : Int) - (1 : Int))))).Road z2428.1.Road) (wr (z2473 - (200 : Int)))) fun z2481 =>
                                .ite (decide (z2481.Low ≤ z2477.Low)) (
                                  .ite (decide (z2481.High ≥ z2477.High)) (
                                    .leaf true) (
                                    .leaf false)) (
                                  .leaf false)))))))) (
                    .fail)) (
                  .fail)) (
                .fail)) (
              .fail)) (
            .fail)) (
          .fail)) (
        .fail)) (
      .fail))
def law09_BranchDoors_av (r : Bool) : AV := .bool r
def law09_BranchDoors_outs (_ : List Blk) (_ : Bool) : List Blk := []
noncomputable def c_law09_BranchDoors : List AV → List Blk → Option Ans := told law09_BranchDoors_enc (fun p => (law09_BranchDoors_t p.1 p.2.1 p.2.2.1 p.2.2.2.1 p.2.2.2.2).get) law09_BranchDoors_av law09_BranchDoors_outs true (fun _ _ _ => ⟨rfl, fun b hb => by cases hb⟩)
noncomputable def law09_BranchDoors_env : Env := { envS (fun f => match f with
  | 10 => c_New
  | 11 => c_Codes_Made
  | 16 => awake?
  | 22 => c_Mod
  | 14 => c_Codes_Door
  | 21 => c_Codes_Setting
  | 25 => c_branch_Flow
  | 23 => c_branch_Drop
  | _ => fun _ _ => none) with pre := fun r => match r with | 6 => [.freeze 320, .freeze 321, .freeze 322, .freeze 323] | _ => [], mm := some 0 }
theorem law09_BranchDoors_env_ok : ∀ f, Tells Try.prog f (law09_BranchDoors_env.fs f) := by
  intro f
  by_cases h0 : f = 10
  · subst h0; exact New_tells
  by_cases h1 : f = 11
  · subst h1; exact Codes_Made_tells
  by_cases h2 : f = 16
  · subst h2; exact tells_awake
  by_cases h3 : f = 22
  · subst h3; exact Mod_tells
  by_cases h4 : f = 14
  · subst h4; exact Codes_Door_tells
  by_cases h5 : f = 21
  · subst h5; exact Codes_Setting_tells
  by_cases h6 : f = 25
  · subst h6; exact branch_Flow_tells
  by_cases h7 : f = 23
  · subst h7; exact branch_Drop_tells
  have : law09_BranchDoors_env.fs f = fun _ _ => none := by
    unfold law09_BranchDoors_env envS
    dsimp only
    split
    · exact absurd rfl h0
    · exact absurd rfl h1
    · exact absurd rfl h2
    · exact absurd rfl h3
    · exact absurd rfl h4
    · exact absurd rfl h5
    · exact absurd rfl h6
    · exact absurd rfl h7
    · rfl
  rw [this]
  exact Tells.none_ f
theorem law09_BranchDoors_run (p : (Sq Int) × Int × Int × Int × Int) : arun law09_BranchDoors_env Try.f9 (law09_BranchDoors_enc p).1 (law09_BranchDoors_enc p).2 = (law09_BranchDoors_t p.1 p.2.1 p.2.2.1 p.2.2.2.1 p.2.2.2.2).run fun r => some (law09_BranchDoors_av r, law09_BranchDoors_outs (law09_BranchDoors_enc p).2 r) := by kernel_rfl
attribute [local irreducible] arun in
theorem law09_BranchDoors_tells : Tells Try.prog 9 c_law09_BranchDoors :=
  told_tells (E := law09_BranchDoors_env) (enc := law09_BranchDoors_enc) (av := law09_BranchDoors_av) (outs := law09_BranchDoors_outs) (t := fun p : (Sq Int) × Int × Int × Int × Int => law09_BranchDoors_t p.1 p.2.1 p.2.2.1 p.2.2.2.1 p.2.2.2.2) (by kernel_rfl) law09_BranchDoors_env_ok Try.func9 (fun c _ => loops_none (E := { law09_BranchDoors_env with nt := Try.f9.ntmps }) (fun _ => rfl) c) law09_BranchDoors_run
noncomputable def law09_BranchDoors (codes : (Sq Int)) (door : Int) (state : Int) (pressure : Int) (flow : Int) : Option (Bool) := gOfA law09_BranchDoors_enc (fun p => (law09_BranchDoors_t p.1 p.2.1 p.2.2.1 p.2.2.2.1 p.2.2.2.2).get) (law09_BranchDoors_encC codes door state pressure flow).1 (law09_BranchDoors_encC codes door state pressure flow).2
theorem law09_BranchDoors_eq (codes : (Sq Int)) (door : Int) (state : Int) (pressure : Int) (flow : Int) : law09_BranchDoors codes door state pressure flow = (law09_BranchDoors_t codes door state pressure flow).get := congrFun (gOfA_eq law09_BranchDoors_inj (fun p => (law09_BranchDoors_t p.1 p.2.1 p.2.2.1 p.2.2.2.1 p.2.2.2.2).get)) (codes, door, state, pressure, flow)
end Go.Proofs.Ytbmbhgkjpdpcjaa.Ab
