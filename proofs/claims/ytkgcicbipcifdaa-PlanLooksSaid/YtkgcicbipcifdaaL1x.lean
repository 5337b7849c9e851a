/- Mirrors of code, stage 1. -/
import Derived.Test.YtkgcicbipcifdaaL1a
namespace Go.Proofs.Ytkgcicbipcifdaa.Ab
open Go
attribute [local irreducible] arun



/-! math/bits.Len64 -/
noncomputable def math_bits_Len64_t (x : Int) : DT (Int) :=
 .ite (decide (x ≥ (4294967296 : Int))) (
 .fail) (
 .ite (decide (x ≥ (65536 : Int))) (
 .fail) (
 .ite (decide (x ≥ (256 : Int))) (
 .ite (decide ((0 : Int) ≤ (IntKind.u8.wrap (x / 2 ^ (Int.toNat (8 : Int)))) ∧ (IntKind.u8.wrap (x / 2 ^ (Int.toNat (8 : Int)))) < ((ByteArray.size (⟨#[0, 1, 2, 2, 3, 3, 3, 3, 4, 4, 4, 4, 4, 4, 4, 4, 5, 5, 5, 5, 5, 5, 5, 5, 5, 5, 5, 5, 5, 5, 5, 5, 6, 6, 6, 6, 6, 6, 6, 6, 6, 6, 6, 6, 6, 6, 6, 6, 6, 6, 6, 6, 6, 6, 6, 6, 6, 6, 6, 6, 6, 6, 6, 6, 7, 7, 7, 7, 7, 7, 7, 7, 7, 7, 7, 7, 7, 7, 7, 7, 7, 7, 7, 7, 7, 7, 7, 7, 7, 7, 7, 7, 7, 7, 7, 7, 7, 7, 7, 7, 7, 7, 7, 7, 7, 7, 7, 7, 7, 7, 7, 7, 7, 7, 7, 7, 7, 7, 7, 7, 7, 7, 7, 7, 7, 7, 7, 7, 8, 8, 8, 8, 8, 8, 8, 8, 8, 8, 8, 8, 8, 8, 8, 8, 8, 8, 8, 8, 8, 8, 8, 8, 8, 8, 8, 8, 8, 8, 8, 8, 8, 8, 8, 8, 8, 8, 8, 8, 8, 8, 8, 8, 8, 8, 8, 8, 8, 8, 8, 8, 8, 8, 8, 8, 8, 8, 8, 8, 8, 8, 8, 8, 8, 8, 8, 8, 8, 8, 8, 8, 8, 8, 8, 8, 8, 8, 8, 8, 8, 8, 8, 8, 8, 8, 8, 8, 8, 8, 8, 8, 8, 8, 8, 8, 8, 8, 8, 8, 8, 8, 8, 8, 8, 8, 8, 8, 8, 8, 8, 8, 8, 8, 8, 8, 8, 8, 8, 8, 8, 8, 8, 8, 8, 8, 8, 8]⟩ : ByteArray) : Nat) : Int))) (.leaf (wr ((8 : Int) + (wr (bytAt (⟨#[0, 1, 2, 2, 3, 3, 3, 3, 4, 4, 4, 4, 4, 4, 4, 4, 5, 5, 5, 5, 5, 5, 5, 5, 5, 5, 5, 5, 5, 5, 5, 5, 6, 6, 6, 6, 6, 6, 6, 6, 6, 6, 6, 6, 6, 6, 6, 6, 6, 6, 6, 6, 6, 6, 6, 6, 6, 6, 6, 6, 6, 6, 6, 6, 7, 7, 7, 7, 7, 7, 7, 7, 7, 7, 7, 7, 7, 7, 7, 7, 7, 7, 7, 7, 7, 7, 7, 7, 7, 7, 7, 7, 7, 7, 7, 7, 7, 7, 7, 7, 7, 7, 7, 7, 7, 7, 7, 7, 7, 7, 7, 7, 7, 7, 7, 7, 7, 7, 7, 7, 7, 7, 7, 7, 7, 7, 7, 7, 8, 8, 8, 8, 8, 8, 8, 8, 8, 8, 8, 8, 8, 8, 8, 8, 8, 8, 8, 8, 8, 8, 8, 8, 8, 8, 8, 8, 8, 8, 8, 8, 8, 8, 8, 8, 8, 8, 8, 8, 8, 8, 8, 8, 8, 8, 8, 8, 8, 8, 8, 8, 8, 8, 8, 8, 8, 8, 8, 8, 8, 8, 8, 8, 8, 8, 8, 8, 8, 8, 8, 8, 8, 8, 8, 8, 8, 8, 8, 8, 8, 8, 8, 8, 8, 8, 8, 8, 8, 8, 8, 8, 8, 8, 8, 8, 8, 8, 8, 8, 8, 8, 8, 8, 8, 8, 8, 8, 8, 8, 8, 8, 8, 8, 8, 8, 8, 8, 8, 8, 8, 8, 8, 8, 8, 8, 8, 8]⟩ : ByteArray) (IntKind.u8.wrap (x / 2 ^ (Int.toNat (8 : Int))))))))) (.fail)) (
 .ite (decide ((0 : Int) ≤ (IntKind.u8.wrap x) ∧ (IntKind.u8.wrap x) < ((ByteArray.size (⟨#[0, 1, 2, 2, 3, 3, 3, 3, 4, 4, 4, 4, 4, 4, 4, 4, 5, 5, 5, 5, 5, 5, 5, 5, 5, 5, 5, 5, 5, 5, 5, 5, 6, 6, 6, 6, 6, 6, 6, 6, 6, 6, 6, 6, 6, 6, 6, 6, 6, 6, 6, 6, 6, 6, 6, 6, 6, 6, 6, 6, 6, 6, 6, 6, 7, 7, 7, 7, 7, 7, 7, 7, 7, 7, 7, 7, 7, 7, 7, 7, 7, 7, 7, 7, 7, 7, 7, 7, 7, 7, 7, 7, 7, 7, 7, 7, 7, 7, 7, 7, 7, 7, 7, 7, 7, 7, 7, 7, 7, 7, 7, 7, 7, 7, 7, 7, 7, 7, 7, 7, 7, 7, 7, 7, 7, 7, 7, 7, 8, 8, 8, 8, 8, 8, 8, 8, 8, 8, 8, 8, 8, 8, 8, 8, 8, 8, 8, 8, 8, 8, 8, 8, 8, 8, 8, 8, 8, 8, 8, 8, 8, 8, 8, 8, 8, 8, 8, 8, 8, 8, 8, 8, 8, 8, 8, 8, 8, 8, 8, 8, 8, 8, 8, 8, 8, 8, 8, 8, 8, 8, 8, 8, 8, 8, 8, 8, 8, 8, 8, 8, 8, 8, 8, 8, 8, 8, 8, 8, 8, 8, 8, 8, 8, 8, 8, 8, 8, 8, 8, 8, 8, 8, 8, 8, 8, 8, 8, 8, 8, 8, 8, 8, 8, 8, 8, 8, 8, 8, 8, 8, 8, 8, 8, 8, 8, 8, 8, 8, 8, 8, 8, 8, 8, 8, 8, 8]⟩ : ByteArray) : Nat) : Int))) (.leaf (wr ((0 : Int) + (wr (bytAt (⟨#[0, 1, 2, 2, 3, 3, 3, 3, 4, 4, 4, 4, 4, 4, 4, 4, 5, 5, 5, 5, 5, 5, 5, 5, 5, 5, 5, 5, 5, 5, 5, 5, 6, 6, 6, 6, 6, 6, 6, 6, 6, 6, 6, 6, 6, 6, 6, 6, 6, 6, 6, 6, 6, 6, 6, 6, 6, 6, 6, 6, 6, 6, 6, 6, 7, 7, 7, 7, 7, 7, 7, 7, 7, 7, 7, 7, 7, 7, 7, 7, 7, 7, 7, 7, 7, 7, 7, 7, 7, 7, 7, 7, 7, 7, 7, 7, 7, 7, 7, 7, 7, 7, 7, 7, 7, 7, 7, 7, 7, 7, 7, 7, 7, 7, 7, 7, 7, 7, 7, 7, 7, 7, 7, 7, 7, 7, 7, 7, 8, 8, 8, 8, 8, 8, 8, 8, 8, 8, 8, 8, 8, 8, 8, 8, 8, 8, 8, 8, 8, 8, 8, 8, 8, 8, 8, 8, 8, 8, 8, 8, 8, 8, 8, 8, 8, 8, 8, 8, 8, 8, 8, 8, 8, 8, 8, 8, 8, 8, 8, 8, 8, 8, 8, 8, 8, 8, 8, 8, 8, 8, 8, 8, 8, 8, 8, 8, 8, 8, 8, 8, 8, 8, 8, 8, 8, 8, 8, 8, 8, 8, 8, 8, 8, 8, 8, 8, 8, 8, 8, 8, 8, 8, 8, 8, 8, 8, 8, 8, 8, 8, 8, 8, 8, 8, 8, 8, 8, 8, 8, 8, 8, 8, 8, 8, 8, 8, 8, 8, 8, 8, 8, 8, 8, 8, 8, 8]⟩ : ByteArray) (IntKind.u8.wrap x)))))) (.fail))))
noncomputable def math_bits_Len64_m : FnM := flM (Int) (Int) (fun p => ([.int .u64 p], [])) (fun p => math_bits_Len64_t p) (fun r => .int .i64 r) (fun _ => rfl)
noncomputable def math_bits_Len64_env : Env := envM [] [] [] [] [] 0
theorem math_bits_Len64_tells : Tells Try.prog 50 math_bits_Len64_m.c := math_bits_Len64_m.tells Try.func50 (show ∀ p, arun math_bits_Len64_env Try.f50 (math_bits_Len64_m.enc p).1 (math_bits_Len64_m.enc p).2 = _ from fun p => by kernel_rfl) noLoops .nil
noncomputable def math_bits_Len64 (x : Int) : Option (Int) := math_bits_Len64_m.val x
theorem math_bits_Len64_eq (x : Int) : math_bits_Len64 x = (math_bits_Len64_t x).get := math_bits_Len64_m.val_eq (fun x => intA (gd x.1 0)) (fun p => by kernel_rfl) x

/-! math/bits.Len -/
noncomputable def math_bits_Len_t (x : Int) : DT (Int) :=
 .bind (math_bits_Len64 x) fun z0 =>
 .leaf z0
noncomputable def math_bits_Len_m : FnM := flM (Int) (Int) (fun p => ([.int .u64 p], [])) (fun p => math_bits_Len_t p) (fun r => .int .i64 r) (fun _ => rfl)
noncomputable def math_bits_Len_env : Env := envM [(50, math_bits_Len64_m.c)] [] [] [] [] 0
theorem math_bits_Len_tells : Tells Try.prog 35 math_bits_Len_m.c := math_bits_Len_m.tells Try.func35 (show ∀ p, arun math_bits_Len_env Try.f35 (math_bits_Len_m.enc p).1 (math_bits_Len_m.enc p).2 = _ from fun p => by kernel_rfl) noLoops (.cons math_bits_Len64_tells .nil)
noncomputable def math_bits_Len (x : Int) : Option (Int) := math_bits_Len_m.val x
theorem math_bits_Len_eq (x : Int) : math_bits_Len x = (math_bits_Len_t x).get := math_bits_Len_m.val_eq (fun x => intA (gd x.1 0)) (fun p => by kernel_rfl) x

/-! cmp.isNaN[int] -/
noncomputable def cmp_isNaN_t (x : Int) : DT (Bool) :=
 .leaf (x != x)
noncomputable def cmp_isNaN_m : FnM := flM (Int) (Bool) (fun p => ([.int .i64 p], [])) (fun p => cmp_isNaN_t p) (fun r => .bool r) (fun _ => rfl)
noncomputable def cmp_isNaN_env : Env := envM [] [] [] [] [] 0
theorem cmp_isNaN_tells : Tells Try.prog 58 cmp_isNaN_m.c := cmp_isNaN_m.tells Try.func58 (show ∀ p, arun cmp_isNaN_env Try.f58 (cmp_isNaN_m.enc p).1 (cmp_isNaN_m.enc p).2 = _ from fun p => by kernel_rfl) noLoops .nil
noncomputable def cmp_isNaN (x : Int) : Option (Bool) := cmp_isNaN_m.val x
theorem cmp_isNaN_eq (x : Int) : cmp_isNaN x = (cmp_isNaN_t x).get := cmp_isNaN_m.val_eq (fun x => intA (gd x.1 0)) (fun p => by kernel_rfl) x

/-! cmp.Less[int] -/
noncomputable def cmp_Less_t (x y : Int) : DT (Bool) :=
 .bind (cmp_isNaN x) fun z0 =>
 .ite z0 (
 .bind (cmp_isNaN y) fun z1 =>
 .ite (!z1) (.leaf true) (.leaf (decide (x < y)))) (
 .leaf (decide (x < y)))
noncomputable def cmp_Less_m : FnM := flM (Int × Int) (Bool) (fun p => ([.int .i64 p.1, .int .i64 p.2], [])) (fun p => cmp_Less_t p.1 p.2) (fun r => .bool r) (fun _ => rfl)
noncomputable def cmp_Less_env : Env := envM [(58, cmp_isNaN_m.c)] [] [] [] [] 0
theorem cmp_Less_tells : Tells Try.prog 46 cmp_Less_m.c := cmp_Less_m.tells Try.func46 (show ∀ p, arun cmp_Less_env Try.f46 (cmp_Less_m.enc p).1 (cmp_Less_m.enc p).2 = _ from fun p => by kernel_rfl) noLoops (.cons cmp_isNaN_tells .nil)
noncomputable def cmp_Less (x y : Int) : Option (Bool) := cmp_Less_m.val (x, y)
theorem cmp_Less_eq (x y : Int) : cmp_Less x y = (cmp_Less_t x y).get := cmp_Less_m.val_eq (fun x => (intA (gd x.1 0), intA (gd x.1 1))) (fun p => by kernel_rfl) (x, y)

/-! slices.insertionSortOrdered[int] -/
noncomputable def slices_insertionSortOrdered_l4_step (u4_0 _u4_1 _u4_2 : Int) (u4_3 : Sq Int) (u4_4 : Int) : DT (LR ((Sq Int) × Int) ((Sq Int)) (Unit)) :=
 .ite (decide (u4_4 > u4_0)) (
 .ite (decide ((0 : Int) ≤ u4_4 ∧ u4_4 < ((u4_3.n : Nat) : Int))) (
 .ite (decide ((0 : Int) ≤ (wr (u4_4 - (1 : Int))) ∧ (wr (u4_4 - (1 : Int))) < ((u4_3.n : Nat) : Int))) (
 .bind (cmp_Less (u4_3.f (Int.toNat u4_4)) (u4_3.f (Int.toNat (wr (u4_4 - (1 : Int)))))) fun z0 =>
 .ite z0 (
 .ite (decide ((0 : Int) ≤ (wr (u4_4 - (1 : Int))) ∧ (wr (u4_4 - (1 : Int))) < ((u4_3.n : Nat) : Int))) (
 .ite (decide ((0 : Int) ≤ u4_4 ∧ u4_4 < ((u4_3.n : Nat) : Int))) (
 .ite (decide ((0 : Int) ≤ u4_4 ∧ u4_4 < ((u4_3.n : Nat) : Int))) (
 .ite (decide ((0 : Int) ≤ (wr (u4_4 - (1 : Int))) ∧ (wr (u4_4 - (1 : Int))) < ((u4_3.n : Nat) : Int))) (
 .leaf (.next ((Sq.mk u4_3.n (fun k0 => (cond (Nat.beq k0 (Int.toNat (wr (u4_4 - (1 : Int))))) (u4_3.f (Int.toNat u4_4)) (cond (Nat.beq k0 (Int.toNat u4_4)) (u4_3.f (Int.toNat (wr (u4_4 - (1 : Int))))) (u4_3.f k0))))), (wr (u4_4 - (1 : Int)))))) (
 .fail)) (
 .fail)) (
 .fail)) (
 .fail)) (
 .leaf (.l u4_3))) (
 .fail)) (
 .fail)) (
 .leaf (.l u4_3))
noncomputable def slices_insertionSortOrdered_l4_m : LpM := ⟨Int × Int × Int, (Sq Int) × Int, (Sq Int), Unit, fun p => ⟨[(0, .own 0 0), (1, .int .i64 p.1.1), (2, .int .i64 p.1.2.1), (6, .int .i64 p.1.2.2), (7, .int .i64 p.2.2)], [(0, rowA 0 1 3 (eI .i64) p.2.1)], 513⟩, fun f v => slices_insertionSortOrdered_l4_step f.1 f.2.1 f.2.2 v.1 v.2, true, (.exit 2), (fun x a => ⟨[(0, .own 0 0), (1, aget x.tm 1), (2, aget x.tm 2), (6, aget x.tm 6)], [(0, rowA 0 1 3 (eI .i64) a)], 513⟩), .ret, (fun _ _ => ⟨[], [], 0⟩), c1, c1k⟩
noncomputable def slices_insertionSortOrdered_l4 (u4_0 u4_1 u4_2 : Int) (u4_3 : Sq Int) (u4_4 : Int) : Option (((Sq Int)) ⊕ (Unit)) := slices_insertionSortOrdered_l4_m.val ((u4_0, u4_1, u4_2), (u4_3, u4_4))
theorem slices_insertionSortOrdered_l4_eq (u4_0 u4_1 u4_2 : Int) (u4_3 : Sq Int) (u4_4 : Int) : slices_insertionSortOrdered_l4 u4_0 u4_1 u4_2 u4_3 u4_4 = fixO (fun v : (Sq Int) × Int => slices_insertionSortOrdered_l4_step u4_0 u4_1 u4_2 v.1 v.2) (u4_3, u4_4) := slices_insertionSortOrdered_l4_m.val_eq (fun x => ((intA (aget x.tm 1), intA (aget x.tm 2), intA (aget x.tm 6)), (sqB dI (blkS x 0), intA (aget x.tm 7)))) (fun p => by kernel_rfl) ((u4_0, u4_1, u4_2), (u4_3, u4_4))
noncomputable def slices_insertionSortOrdered_l1_step (u1_0 u1_1 u1_2 : Int) (u1_3 : Sq Int) : DT (LR (Int × (Sq Int)) ((Sq Int)) (Unit)) :=
 .ite (decide (u1_2 < u1_1)) (
 .sum (slices_insertionSortOrdered_l4 u1_0 u1_1 u1_2 u1_3 u1_2) (fun y0 =>
 .leaf (.next ((wr (u1_2 + (1 : Int))), y0))) (fun _ => .fail)) (
 .leaf (.l u1_3))
noncomputable def slices_insertionSortOrdered_l1_m : LpM := ⟨Int × Int, Int × (Sq Int), (Sq Int), Unit, fun p => ⟨[(0, .own 0 0), (1, .int .i64 p.1.1), (2, .int .i64 p.1.2), (6, .int .i64 p.2.1)], [(0, rowA 0 1 3 (eI .i64) p.2.2)], 193⟩, fun f v => slices_insertionSortOrdered_l1_step f.1 f.2 v.1 v.2, true, (.exit 0), (fun _ a => ⟨[], [(0, rowA 0 1 3 (eI .i64) a)], 193⟩), .ret, (fun _ _ => ⟨[], [], 0⟩), c1, c1k⟩
noncomputable def slices_insertionSortOrdered_l1 (u1_0 u1_1 u1_2 : Int) (u1_3 : Sq Int) : Option (((Sq Int)) ⊕ (Unit)) := slices_insertionSortOrdered_l1_m.val ((u1_0, u1_1), (u1_2, u1_3))
theorem slices_insertionSortOrdered_l1_eq (u1_0 u1_1 u1_2 : Int) (u1_3 : Sq Int) : slices_insertionSortOrdered_l1 u1_0 u1_1 u1_2 u1_3 = fixO (fun v : Int × (Sq Int) => slices_insertionSortOrdered_l1_step u1_0 u1_1 v.1 v.2) (u1_2, u1_3) := slices_insertionSortOrdered_l1_m.val_eq (fun x => ((intA (aget x.tm 1), intA (aget x.tm 2)), (intA (aget x.tm 6), sqB dI (blkS x 0)))) (fun p => by kernel_rfl) ((u1_0, u1_1), (u1_2, u1_3))
noncomputable def slices_insertionSortOrdered_t (data : Sq Int) (a b : Int) : DT ((Sq Int)) :=
 .sum (slices_insertionSortOrdered_l1 a b (wr (a + (1 : Int))) data) (fun y1 =>
 .leaf y1) (fun _ => .fail)
noncomputable def slices_insertionSortOrdered_m : FnM := nfM ((Sq Int) × Int × Int) ((Sq Int)) (fun p => ([.own 0 0, .int .i64 p.2.1, .int .i64 p.2.2], [rowA 0 1 3 (eI .i64) p.1])) (fun p => slices_insertionSortOrdered_t p.1 p.2.1 p.2.2) (fun _ => .tup []) (fun _ r => [rowA 0 1 3 (eI .i64) r])
noncomputable def slices_insertionSortOrdered_env : Env := envM [(46, cmp_Less_m.c)] [(4, [0, 1, 2, 6, 7], [0, 1, 2, 6]), (1, [0, 1, 2, 6], [])] [(4, slices_insertionSortOrdered_l4_m.c), (1, slices_insertionSortOrdered_l1_m.c)] [] [(4, [0]), (1, [0])] 1
noncomputable def slices_insertionSortOrdered_e : Env := { slices_insertionSortOrdered_env with nt := 49 }
theorem slices_insertionSortOrdered_l4_tells : LoopTells slices_insertionSortOrdered_e (loopOf 4 Try.f40) slices_insertionSortOrdered_l4_m.c := slices_insertionSortOrdered_l4_m.tells 513 (fun _ => by kernel_rfl) (fun _ _ _ _ => by kernel_rfl) (fun _ _ _ _ => by kernel_rfl) fun R f v N K => by kernel_rfl
theorem slices_insertionSortOrdered_l1_tells : LoopTells slices_insertionSortOrdered_e (loopOf 1 Try.f40) slices_insertionSortOrdered_l1_m.c := slices_insertionSortOrdered_l1_m.tells 193 (fun _ => by kernel_rfl) (fun _ _ _ _ => by kernel_rfl) (fun _ _ _ _ => by kernel_rfl) fun R f v N K => by kernel_rfl
theorem slices_insertionSortOrdered_tells : Tells Try.prog 40 slices_insertionSortOrdered_m.c := slices_insertionSortOrdered_m.tells Try.func40 (show ∀ p, arun slices_insertionSortOrdered_env Try.f40 (slices_insertionSortOrdered_m.enc p).1 (slices_insertionSortOrdered_m.enc p).2 = _ from fun p => by kernel_rfl) (loopsL [loopOf 1 Try.f40, loopOf 4 Try.f40] (by kernel_rfl) ⟨lpT (by kernel_rfl) slices_insertionSortOrdered_l1_tells, ⟨lpT (by kernel_rfl) slices_insertionSortOrdered_l4_tells, trivial⟩⟩) (.cons cmp_Less_tells .nil)
noncomputable def slices_insertionSortOrdered (data : Sq Int) (a b : Int) : Option ((Sq Int)) := slices_insertionSortOrdered_m.val (data, a, b)
theorem slices_insertionSortOrdered_eq (data : Sq Int) (a b : Int) : slices_insertionSortOrdered data a b = (slices_insertionSortOrdered_t data a b).get := slices_insertionSortOrdered_m.val_eq (fun x => (sqB dI (dB x.2 0), intA (gd x.1 1), intA (gd x.1 2))) (fun p => by kernel_rfl) (data, a, b)

/-! slices.pdqsortOrdered[int] -/
noncomputable def slices_pdqsortOrdered_l2_step (u2_0 u2_1 u2_2 : Int) (u2_3 : Sq Int) : DT (LR (Unit) ((Sq Int)) (Unit)) :=
 .ite (decide ((wr (u2_1 - u2_0)) ≤ (12 : Int))) (
 .bind (slices_insertionSortOrdered u2_3 u2_0 u2_1) fun z0 =>
 .leaf (.l z0)) (
 .ite (u2_2 == (0 : Int)) (.fail) (.fail))
noncomputable def slices_pdqsortOrdered_l2_m : LpM := ⟨Int × Int × Int × (Sq Int), Unit, (Sq Int), Unit, fun p => ⟨[(0, .own 0 0), (1, .int .i64 p.1.1), (2, .int .i64 p.1.2.1), (3, .int .i64 p.1.2.2.1), (8, .bool true), (9, .bool true)], [(0, rowA 0 1 3 (eI .i64) p.1.2.2.2)], 129⟩, fun f _ => slices_pdqsortOrdered_l2_step f.1 f.2.1 f.2.2.1 f.2.2.2, true, .ret, (fun _ a => ⟨[], [(0, rowA 0 1 3 (eI .i64) a)], 129⟩), .ret, (fun _ _ => ⟨[], [], 0⟩), c1, c1k⟩
noncomputable def slices_pdqsortOrdered_l2 (u2_0 u2_1 u2_2 : Int) (u2_3 : Sq Int) : Option (((Sq Int)) ⊕ (Unit)) := slices_pdqsortOrdered_l2_m.val ((u2_0, u2_1, u2_2, u2_3), ())
theorem slices_pdqsortOrdered_l2_eq (u2_0 u2_1 u2_2 : Int) (u2_3 : Sq Int) : slices_pdqsortOrdered_l2 u2_0 u2_1 u2_2 u2_3 = fixO (fun _ : Unit => slices_pdqsortOrdered_l2_step u2_0 u2_1 u2_2 u2_3) () := slices_pdqsortOrdered_l2_m.val_eq (fun x => ((intA (aget x.tm 1), intA (aget x.tm 2), intA (aget x.tm 3), sqB dI (blkS x 0)), ())) (fun p => by kernel_rfl) ((u2_0, u2_1, u2_2, u2_3), ())
noncomputable def slices_pdqsortOrdered_t (data : Sq Int) (a b limit : Int) : DT ((Sq Int)) :=
 .sum (slices_pdqsortOrdered_l2 a b limit data) (fun y0 =>
 .leaf y0) (fun _ => .fail)
noncomputable def slices_pdqsortOrdered_m : FnM := nfM ((Sq Int) × Int × Int × Int) ((Sq Int)) (fun p => ([.own 0 0, .int .i64 p.2.1, .int .i64 p.2.2.1, .int .i64 p.2.2.2], [rowA 0 1 3 (eI .i64) p.1])) (fun p => slices_pdqsortOrdered_t p.1 p.2.1 p.2.2.1 p.2.2.2) (fun _ => .tup []) (fun _ r => [rowA 0 1 3 (eI .i64) r])
noncomputable def slices_pdqsortOrdered_env : Env := envM [(40, slices_insertionSortOrdered_m.c)] [(2, [0, 1, 2, 3, 8, 9], []), (2000040, [], [])] [(2, slices_pdqsortOrdered_l2_m.c)] [] [(2, [0])] 1
noncomputable def slices_pdqsortOrdered_e : Env := { slices_pdqsortOrdered_env with nt := 134 }
theorem slices_pdqsortOrdered_l2_tells : LoopTells slices_pdqsortOrdered_e (loopOf 2 Try.f34) slices_pdqsortOrdered_l2_m.c := slices_pdqsortOrdered_l2_m.tells 129 (fun _ => by kernel_rfl) (fun _ _ _ _ => by kernel_rfl) (fun _ _ _ _ => by kernel_rfl) fun R f v N K => by kernel_rfl
theorem slices_pdqsortOrdered_tells : Tells Try.prog 34 slices_pdqsortOrdered_m.c := slices_pdqsortOrdered_m.tells Try.func34 (show ∀ p, arun slices_pdqsortOrdered_env Try.f34 (slices_pdqsortOrdered_m.enc p).1 (slices_pdqsortOrdered_m.enc p).2 = _ from fun p => by kernel_rfl) (loopsL [loopOf 2 Try.f34] (by kernel_rfl) ⟨lpT (by kernel_rfl) slices_pdqsortOrdered_l2_tells, trivial⟩) (.cons slices_insertionSortOrdered_tells .nil)
noncomputable def slices_pdqsortOrdered (data : Sq Int) (a b limit : Int) : Option ((Sq Int)) := slices_pdqsortOrdered_m.val (data, a, b, limit)
theorem slices_pdqsortOrdered_eq (data : Sq Int) (a b limit : Int) : slices_pdqsortOrdered data a b limit = (slices_pdqsortOrdered_t data a b limit).get := slices_pdqsortOrdered_m.val_eq (fun x => (sqB dI (dB x.2 0), intA (gd x.1 1), intA (gd x.1 2), intA (gd x.1 3))) (fun p => by kernel_rfl) (data, a, b, limit)

/-! slices.Sort[[]int,int] -/
noncomputable def slices_Sort_w_t (x : Sq Int) : DT ((Sq Int)) :=
 .bind (math_bits_Len (IntKind.u64.wrap ((x.n : Nat) : Int))) fun z0 =>
 .bind (slices_pdqsortOrdered x (0 : Int) ((x.n : Nat) : Int) z0) fun z1 =>
 .leaf z1
noncomputable def slices_Sort_w_m : FnM := nfM ((Sq Int)) ((Sq Int)) (fun p => ([.own 0 0], [rowA 0 1 3 (eI .i64) p])) (fun p => slices_Sort_w_t p) (fun _ => .tup []) (fun _ r => [rowA 0 1 3 (eI .i64) r])
noncomputable def slices_Sort_w_env : Env := envM [(35, math_bits_Len_m.c), (34, slices_pdqsortOrdered_m.c)] [(2000034, [], [])] [] [] [] 1
theorem slices_Sort_w_tells : Tells Try.prog 25 slices_Sort_w_m.c := slices_Sort_w_m.tells Try.func25 (show ∀ p, arun slices_Sort_w_env Try.f25 (slices_Sort_w_m.enc p).1 (slices_Sort_w_m.enc p).2 = _ from fun p => by kernel_rfl) noLoops (.cons math_bits_Len_tells (.cons slices_pdqsortOrdered_tells .nil))
noncomputable def slices_Sort_w (x : Sq Int) : Option ((Sq Int)) := slices_Sort_w_m.val x
theorem slices_Sort_w_eq (x : Sq Int) : slices_Sort_w x = (slices_Sort_w_t x).get := slices_Sort_w_m.val_eq (fun x => sqB dI (dB x.2 0)) (fun p => by kernel_rfl) x
end Go.Proofs.Ytkgcicbipcifdaa.Ab
