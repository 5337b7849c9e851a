/- A part of the proof, what is needed of it. -/
import Derived.Test.YtimkpfnbkclclaaGreatPj09
import Derived.Test.YtimkpfnbkclclaaGreatPj19
import Derived.Test.YtimkpfnbkclclaaGreatPj20
import Derived.Test.YtimkpfnbkclclaaGreatPj21
import Derived.Test.YtimkpfnbkclclaaGreatPj24
namespace Go.Proofs.YtimkpfnbkclclaaGreat.Ab
noncomputable section
open Go
attribute [local irreducible] arun
def KJ (pressure : Int) : DT (Bool) :=
 .ite (decide (pressure < (-70368744177664 : Int))) (.leaf true) (.leaf (decide (pressure > (70368744177664 : Int))))
def uK : FnM := flM (Int) (Bool) (fun p => ([.int .i64 p], [])) (fun p => KJ p) (fun r => .bool r) (fun _ => rfl)
def RZ : Env := envM [] [] [] [] [] 0
theorem O8 : aI Tryz.prog 106 uK.c := uK.tells Tryz.func106 (show ∀ p, arun RZ Tryz.f106 (uK.enc p).1 (uK.enc p).2 = _ from fun p => by kernel_rfl) p8 .nil
def Oj (pressure : Int) : Option (Bool) := uK.val pressure
theorem aeG (pressure : Int) : Oj pressure = (KJ pressure).get := uK.val_eq (fun x => intA (gd x.1 0)) (fun p => by kernel_rfl) pressure
def BS (u2_0 : Sq Int) (u2_2 : Int) : DT (LR (Int) (Unit) (Int)) :=
 .ite (decide (u2_2 < ((u2_0.n : Nat) : Int))) (
 .ite (decide ((0 : Int) ≤ u2_2 ∧ u2_2 < ((u2_0.n : Nat) : Int))) (
 .bind (Oj (u2_0.f (Int.toNat u2_2))) fun z0 =>
 .ite z0 (
 .leaf (.r u2_2)) (
 .leaf (.next (wr (u2_2 + (1 : Int)))))) (
 .fail)) (
 .leaf (.l ()))
def tT : LpM := ⟨(Sq Int), Int, Unit, Int, fun p => ⟨[(0, sqA 1 (eI .i64) p.1), (1, .fn 106 []), (7, .int .i64 ((p.1.n : Nat) : Int)), (8, .int .i64 p.2)], [], 256⟩, fun f v => BS f v, false, (.exit 0), (fun _ _ => ⟨[(4, .undef)], [], 256⟩), .ret, (fun _ a => ⟨[(4, .int .i64 a)], [], 256⟩), c1, c1k⟩
def Fw (u2_0 : Sq Int) (u2_2 : Int) : Option ((Unit) ⊕ (Int)) := tT.val (u2_0, u2_2)
theorem abN (u2_0 : Sq Int) (u2_2 : Int) : Fw u2_0 u2_2 = fixO (fun v : Int => BS u2_0 v) u2_2 := tT.val_eq (fun x => (sqD dI (aget x.tm 0), intA (aget x.tm 8))) (fun p => by kernel_rfl) (u2_0, u2_2)
def F3 (s : Sq Int) : DT (Int) :=
 .sum (Fw s (0 : Int)) (fun _ =>
 .leaf (-1 : Int)) (fun y0 => .leaf y0)
def r9 : FnM := flM ((Sq Int)) (Int) (fun p => ([sqA 1 (eI .i64) p, .fn 106 []], [])) (fun p => F3 p) (fun r => .int .i64 r) (fun _ => rfl)
def EM : Env := envM [(106, uK.c)] [(2, [0, 1, 7, 8], [4])] [(2, tT.c)] [] [(2, [])] 0
def Pk : Env := { EM with nt := 19 }
theorem Hz : aQ Pk (qd 2 Tryz.f144) tT.c := tT.tells 256 (fun _ => by kernel_rfl) (fun _ _ _ _ => by kernel_rfl) (fun _ _ _ _ => by kernel_rfl) fun R f v N K => by kernel_rfl
theorem Km : aI Tryz.prog 144 r9.c := r9.tells Tryz.func144 (show ∀ p, arun EM Tryz.f144 (r9.enc p).1 (r9.enc p).2 = _ from fun p => by kernel_rfl) (qg [qd 2 Tryz.f144] (by kernel_rfl) ⟨lpT (by kernel_rfl) Hz, trivial⟩) (.cons O8 .nil)
def IG (s : Sq Int) : Option (Int) := r9.val s
theorem adt (s : Sq Int) : IG s = (F3 s).get := r9.val_eq (fun x => sqD dI (gd x.1 0)) (fun p => by kernel_rfl) s
def Ec (s : Sq Int) : DT (Bool) :=
 .bind (IG s) fun z0 =>
 .leaf (decide (z0 ≥ (0 : Int)))
def ru : FnM := flM ((Sq Int)) (Bool) (fun p => ([sqA 1 (eI .i64) p, .fn 106 []], [])) (fun p => Ec p) (fun r => .bool r) (fun _ => rfl)
def J8 : Env := envM [(144, r9.c)] [] [] [] [] 0
theorem Hw : aI Tryz.prog 105 ru.c := ru.tells Tryz.func105 (show ∀ p, arun J8 Tryz.f105 (ru.enc p).1 (ru.enc p).2 = _ from fun p => by kernel_rfl) p8 (.cons Km .nil)
def AB (s : Sq Int) : Option (Bool) := ru.val s
theorem abL (s : Sq Int) : AB s = (Ec s).get := ru.val_eq (fun x => sqD dI (gd x.1 0)) (fun p => by kernel_rfl) s
def FP (u3_0 : Sq qA) (u3_2 : Sq qC) (u3_3 : Sq SFan) (u3_4 : Sq qD) (u3_5 u3_6 u3_7 u3_8 u3_9 : Sq Int) (u3_10 : Int) : DT (LR (Int) (Unit) (Unit)) :=
 .ite (decide (u3_10 < ((u3_0.n : Nat) : Int))) (
 .ite (decide ((0 : Int) ≤ u3_10 ∧ u3_10 < ((u3_0.n : Nat) : Int))) (
 .ite (u3_0.f (Int.toNat u3_10)).Surface (
 .ite (decide ((0 : Int) ≤ u3_10 ∧ u3_10 < ((u3_7.n : Nat) : Int))) (
 .ite ((u3_7.f (Int.toNat u3_10)) != (0 : Int)) (
 .leaf (.r ())) (
 .ite (decide ((0 : Int) ≤ u3_10 ∧ u3_10 < ((u3_8.n : Nat) : Int))) (
 .ite ((u3_8.f (Int.toNat u3_10)) != (0 : Int)) (
 .leaf (.r ())) (
 .leaf (.next (wr (u3_10 + (1 : Int)))))) (
 .fail))) (
 .fail)) (
 .bind (slices_Contains u3_9 u3_10) fun z0 =>
 .ite z0 (
 .ite (decide ((0 : Int) ≤ u3_10 ∧ u3_10 < ((u3_7.n : Nat) : Int))) (
 .ite ((u3_7.f (Int.toNat u3_10)) != (0 : Int)) (
 .leaf (.r ())) (
 .ite (decide ((0 : Int) ≤ u3_10 ∧ u3_10 < ((u3_8.n : Nat) : Int))) (
 .ite ((u3_8.f (Int.toNat u3_10)) != (0 : Int)) (
 .leaf (.r ())) (
 .leaf (.next (wr (u3_10 + (1 : Int)))))) (
 .fail))) (
 .fail)) (
 .bind (U1 (SAir.mk (qI.mk u3_0 u3_2) u3_3 u3_4) (qz.mk u3_5 u3_6) u3_8 u3_10) fun z1 =>
 .ite (decide (z1.Low < (0 : Int))) (
 .leaf (.r ())) (
 .bind (U1 (SAir.mk (qI.mk u3_0 u3_2) u3_3 u3_4) (qz.mk u3_5 u3_6) u3_7 u3_10) fun z2 =>
 .ite (decide (z2.High > (0 : Int))) (
 .leaf (.r ())) (
 .leaf (.next (wr (u3_10 + (1 : Int))))))))) (
 .fail)) (
 .leaf (.l ()))
def wY : LpM := ⟨(Sq qA) × (Sq qC) × (Sq SFan) × (Sq qD) × (Sq Int) × (Sq Int) × (Sq Int) × (Sq Int) × (Sq Int), Int, Unit, Unit, fun p => ⟨[(3, .ptr 0 0), (4, .ptr 64 0), (5, .ptr 128 0), (7, .own 384 0), (15, sqA 2 qA.enc p.1.1), (16, .int .i64 ((p.1.1.n : Nat) : Int)), (17, .int .i64 p.2)], [(0, .var [sqA 2 qA.enc p.1.1, sqA 10 qC.enc p.1.2.1, sqA 4 SFan.enc p.1.2.2.1, sqA 3 qD.enc p.1.2.2.2.1]), (64, .var [sqA 1 (eI .i64) p.1.2.2.2.2.1, sqA 1 (eI .i64) p.1.2.2.2.2.2.1]), (128, .var [sqA 1 (eI .i64) p.1.2.2.2.2.2.2.1, sqA 1 (eI .i64) p.1.2.2.2.2.2.2.2.1]), (384, rowA 0 1 3 (eI .i64) p.1.2.2.2.2.2.2.2.2)], 832⟩, fun f v => FP f.1 f.2.1 f.2.2.1 f.2.2.2.1 f.2.2.2.2.1 f.2.2.2.2.2.1 f.2.2.2.2.2.2.1 f.2.2.2.2.2.2.2.1 f.2.2.2.2.2.2.2.2 v, false, (.exit 0), (fun x _ => ⟨[(6, .undef)], [(0, blkS x 0), (64, blkS x 64), (128, blkS x 128), (384, blkS x 384)], 832⟩), .ret, (fun x _ => ⟨[(6, .bool false)], [(0, blkS x 0), (64, blkS x 64), (128, blkS x 128), (384, blkS x 384)], 832⟩), c1, c1k⟩
def Mi (u3_0 : Sq qA) (u3_2 : Sq qC) (u3_3 : Sq SFan) (u3_4 : Sq qD) (u3_5 u3_6 u3_7 u3_8 u3_9 : Sq Int) (u3_10 : Int) : Option ((Unit) ⊕ (Unit)) := wY.val ((u3_0, u3_2, u3_3, u3_4, u3_5, u3_6, u3_7, u3_8, u3_9), u3_10)
theorem aem (u3_0 : Sq qA) (u3_2 : Sq qC) (u3_3 : Sq SFan) (u3_4 : Sq qD) (u3_5 u3_6 u3_7 u3_8 u3_9 : Sq Int) (u3_10 : Int) : Mi u3_0 u3_2 u3_3 u3_4 u3_5 u3_6 u3_7 u3_8 u3_9 u3_10 = fixO (fun v : Int => FP u3_0 u3_2 u3_3 u3_4 u3_5 u3_6 u3_7 u3_8 u3_9 v) u3_10 := wY.val_eq (fun x => ((sqD qA.dec (aget x.tm 15), sqD qC.dec (cellS x 0 1), sqD SFan.dec (cellS x 0 2), sqD qD.dec (cellS x 0 3), sqD dI (cellS x 64 0), sqD dI (cellS x 64 1), sqD dI (cellS x 128 0), sqD dI (cellS x 128 1), sqB dI (blkS x 384)), intA (aget x.tm 17))) (fun p => by kernel_rfl) ((u3_0, u3_2, u3_3, u3_4, u3_5, u3_6, u3_7, u3_8, u3_9), u3_10)
def Oi (a : SAir) (s : qz) (b : qL) : DT (Bool) :=
 .bind (Nu a.Mine) fun z3 =>
 .sum (Mi a.Mine.Places a.Mine.Roads a.Fans a.Doors s.Fans s.Doors b.Low b.High z3 (0 : Int)) (fun _ =>
 .leaf true) (fun _ => .leaf false)
def vS : FnM := flM (SAir × qz × qL) (Bool) (fun p => ([.agg (SAir.enc p.1), .agg (qz.enc p.2.1), .agg (qL.enc p.2.2)], [])) (fun p => Oi p.1 p.2.1 p.2.2) (fun r => .bool r) (fun _ => rfl)
def KI : Env := envM [(72, wD.c), (73, rT.c), (145, zZ.c)] [(3, [3, 4, 5, 7, 15, 16, 17], [6])] [(3, wY.c)] [] [(3, [0, 64, 128, 384])] 0
def ZR : Env := { KI with nt := 62 }
theorem Nl : aQ ZR (qd 3 Tryz.f107) wY.c := wY.tells 832 (fun _ => by kernel_rfl) (fun _ _ _ _ => by kernel_rfl) (fun _ _ _ _ => by kernel_rfl) fun R f v N K => by kernel_rfl
theorem RY : aI Tryz.prog 107 vS.c := vS.tells Tryz.func107 (show ∀ p, arun KI Tryz.f107 (vS.enc p).1 (vS.enc p).2 = _ from fun p => by kernel_rfl) (qg [qd 3 Tryz.f107] (by kernel_rfl) ⟨lpT (by kernel_rfl) Nl, trivial⟩) (.cons Ga (.cons yJ (.cons X0 .nil)))
def Tv (a : SAir) (s : qz) (b : qL) : Option (Bool) := vS.val (a, s, b)
theorem afz (a : SAir) (s : qz) (b : qL) : Tv a s b = (Oi a s b).get := vS.val_eq (fun x => (SAir.dec (aggL (gd x.1 0)), qz.dec (aggL (gd x.1 1)), qL.dec (aggL (gd x.1 2)))) (fun p => by kernel_rfl) (a, s, b)
def Qb (a : SAir) (s : qz) (b : qL) : DT (Int) :=
 .bind (KC a) fun z0 =>
 .ite (z0 != (0 : Int)) (
 .leaf z0) (
 .bind (GA a s) fun z1 =>
 .ite (!z1) (
 .leaf (21 : Int)) (
 .ite (((b.Low.n : Nat) : Int) != ((a.Mine.Places.n : Nat) : Int)) (
 .leaf (11 : Int)) (
 .ite (((b.High.n : Nat) : Int) != ((a.Mine.Places.n : Nat) : Int)) (
 .leaf (11 : Int)) (
 .bind (AB b.Low) fun z2 =>
 .ite z2 (
 .leaf (1 : Int)) (
 .bind (AB b.High) fun z3 =>
 .ite z3 (
 .leaf (1 : Int)) (
 .bind (Tv a s b) fun z4 =>
 .ite (!z4) (.leaf (12 : Int)) (.leaf (0 : Int))))))))
def vJ : FnM := flM (SAir × qz × qL) (Int) (fun p => ([.agg (SAir.enc p.1), .agg (qz.enc p.2.1), .agg (qL.enc p.2.2)], [])) (fun p => Qb p.1 p.2.1 p.2.2) (fun r => .int .i64 r) (fun _ => rfl)
def X9 : Env := envM [(37, vw.c), (38, uD.c), (105, ru.c), (107, vS.c)] [] [] [] [] 0
theorem Jr : aI Tryz.prog 71 vJ.c := vJ.tells Tryz.func71 (show ∀ p, arun X9 Tryz.f71 (vJ.enc p).1 (vJ.enc p).2 = _ from fun p => by kernel_rfl) p8 (.cons ET (.cons BN (.cons Hw (.cons RY .nil))))
def Nk (a : SAir) (s : qz) (b : qL) : Option (Int) := vJ.val (a, s, b)
theorem agi (a : SAir) (s : qz) (b : qL) : Nk a s b = (Qb a s b).get := vJ.val_eq (fun x => (SAir.dec (aggL (gd x.1 0)), qz.dec (aggL (gd x.1 1)), qL.dec (aggL (gd x.1 2)))) (fun p => by kernel_rfl) (a, s, b)
end
end Go.Proofs.YtimkpfnbkclclaaGreat.Ab
namespace Go.Proofs.YtimkpfnbkclclaaGreat.Ab
open Go
structure Gr (m : qI) (G : Int → Prop) (s0 s : Sq Bool) : Prop where
  n : s.n = m.Places.n
  u : ∀ v, s0.f v = true → s.f v = true
  g : ∀ v : Nat, v < m.Places.n → s.f v = true → G v
end Go.Proofs.YtimkpfnbkclclaaGreat.Ab
namespace Go.Proofs.YtimkpfnbkclclaaGreat.Ab
noncomputable section
open Go
theorem amS {A B : Type} {o : Option A} {x : A} {f : A → DT B} {Q : B → Prop} (h : o = some x) (q : ∃ y, (f x).get = some y ∧ Q y) : ∃ y, (DT.bind o f).get = some y ∧ Q y := by
  rw [get_bind h]; exact q
def Rng (l : Sq Int) : Prop := ∀ k, k < l.n → -70368744177664 ≤ l.f k ∧ l.f k ≤ 70368744177664
open Classical in
def gQ (Q : Nat → Prop) (i : Nat) : Option Unit := if Q i then none else some ()
theorem amq {Q : Nat → Prop} {n : Nat} (h : ∀ i, i < n → Q i) : bn (gQ Q) n 0 = none := by
  cases e : bn (gQ Q) n 0 with
  | none => rfl
  | some u =>
    obtain ⟨j, _, hj, g, _⟩ := om e
    unfold gQ at g
    rw [if_pos (h j (by omega))] at g
    cases g
theorem amr {Q : Nat → Prop} {n : Nat} (h : ¬ ∀ i, i < n → Q i) : bn (gQ Q) n 0 = some () := by
  cases e : bn (gQ Q) n 0 with
  | some u => rfl
  | none =>
    refine absurd (fun i hi => ?_) h
    have := oh e i (Nat.zero_le _) (by omega)
    unfold gQ at this
    split at this
    · assumption
    · cases this
def akI (a : SAir) (s : qz) (L H : Sq Int) (i : Nat) : Prop :=
  ((a.Mine.Places.f i).Surface = true ∨ ¬ Aw a.Mine i → L.f i = 0 ∧ H.f i = 0) ∧ (¬ ((a.Mine.Places.f i).Surface = true ∨ ¬ Aw a.Mine i) → 0 ≤ NL a s H i (H.f i) ∧ NH a s L i (L.f i) ≤ 0)
open Classical in
def aje (a : SAir) (s : qz) (b : qL) : Int :=
  if airE a ≠ 0 then airE a else if aiR a s = false then 21 else if b.Low.n ≠ a.Mine.Places.n then 11 else if b.High.n ≠ a.Mine.Places.n then 11
  else if ¬ Rng b.Low then 1 else if ¬ Rng b.High then 1 else if ∀ i, i < a.Mine.Places.n → akI a s b.Low b.High i then 0 else 12
theorem al0 {a : SAir} {s : qz} {b : qL} (h : aje a s b = 0) : aiR a s = true ∧ alV a s b.Low b.High := by
  unfold aje at h
  split at h
  · rename_i c; exact absurd h c
  · split at h
    · cases h
    · rename_i h2
      have h2 : aiR a s = true := by simpa using h2
      split at h
      · cases h
      · rename_i h3
        split at h
        · cases h
        · rename_i h4
          split at h
          · cases h
          · rename_i h5
            split at h
            · cases h
            · rename_i h6
              split at h
              · rename_i h7
                refine ⟨h2, aiU h2, Classical.not_not.1 h3, Classical.not_not.1 h4, Classical.not_not.1 h5, Classical.not_not.1 h6, fun i hi q => (h7 i hi).1 q, fun i hi ns aw => (h7 i hi).2 fun q => q.elim (fun e => by rw [ns] at e; cases e) fun n => n aw⟩
              · cases h
theorem alV.at {a : SAir} {s : qz} {L H : Sq Int} (h : alV a s L H) {i : Nat} (hi : i < a.Mine.Places.n) : akI a s L H i := by
  refine ⟨h.z i hi, fun n => h.u i hi ?_ ?_⟩
  · cases e : (a.Mine.Places.f i).Surface with
    | false => rfl
    | true => exact absurd (.inl e) n
  · exact Classical.byContradiction fun q => n (.inr q)
theorem ana {a : SAir} {s : qz} {b : qL} (rt : aiR a s = true) (ln : b.Low.n = a.Mine.Places.n) (hn : b.High.n = a.Mine.Places.n) (lr : Rng b.Low) (hr : Rng b.High) (h : ∀ i, i < a.Mine.Places.n → akI a s b.Low b.High i) : aje a s b = 0 := by
  unfold aje
  rw [if_neg (not_not_intro (aj7 rt)), if_neg (by rw [rt]; simp), if_neg (not_not_intro ln), if_neg (not_not_intro hn), if_neg (not_not_intro lr), if_neg (not_not_intro hr), if_pos h]
open Classical in
def ajN (a : SAir) (s : qz) (b : qL) (j : Nat) : qB :=
  if (a.Mine.Roads.f j).Closed = true then ⟨0, 0⟩ else if Aw a.Mine (a.Mine.Roads.f j).From then
    ⟨flL a s j (b.Low.f (a.Mine.Roads.f j).From.toNat - b.High.f (a.Mine.Roads.f j).To.toNat), flH a s j (b.High.f (a.Mine.Roads.f j).From.toNat - b.Low.f (a.Mine.Roads.f j).To.toNat)⟩ else ⟨-1125899906842624, 1125899906842624⟩
end
end Go.Proofs.YtimkpfnbkclclaaGreat.Ab
namespace Go.Proofs.YtimkpfnbkclclaaGreat.Ab
open Go
theorem alX (l : Sq Int) (v : Int) (hn : l.n ≤ 1000) : ∃ b, slices_Contains l v = some b ∧ (b = true ↔ In l v) := by
  have e1 : ∃ z, slices_Index l v = some z ∧ ((z = -1 ∧ ¬ In l v) ∨ (0 ≤ z ∧ In l v)) := by
    have key := pY (step := fun x : Int => II l v x)
      (fun x => ∃ j : Nat, x = j ∧ j ≤ l.n ∧ ∀ k, k < j → l.f k ≠ v) (fun x => l.n - x.toNat)
      (fun z => (z = .inl () ∧ ¬ In l v) ∨ ∃ y : Int, z = .inr y ∧ 0 ≤ y ∧ In l v) (fun x hx => by
        obtain ⟨j, rfl, hj, h⟩ := hx
        unfold II
        by_cases c : j < l.n
        · rw [qo (dlt c), qo (dix c), pI, qc (by omega)]
          by_cases e : l.f j = v
          · rw [qo (by rw [e]; simp)]
            exact ⟨_, rfl, .inr ⟨_, rfl, by omega, j, c, e⟩⟩
          · rw [qm (by simp; omega)]
            exact ⟨_, rfl, ⟨j + 1, rfl, c, fun k hk => by
              by_cases q : k = j
              · rw [q]; exact e
              · exact h k (by omega)⟩, by omega⟩
        · obtain rfl : j = l.n := by omega
          rw [qm (dge (Nat.le_refl _))]
          exact ⟨_, rfl, .inl ⟨rfl, fun ⟨k, hk, e⟩ => h k hk e⟩⟩)
      0 ⟨0, rfl, Nat.zero_le _, fun k hk => absurd hk (Nat.not_lt_zero _)⟩
    obtain ⟨z, hz, ⟨rfl, r⟩ | ⟨y, rfl, y0, r⟩⟩ := key
    · rw [aha]; unfold Uz
      rw [pV (by rw [afk]; exact hz)]
      exact ⟨_, rfl, .inl ⟨rfl, r⟩⟩
    · rw [aha]; unfold Uz
      rw [pV (by rw [afk]; exact hz)]
      exact ⟨_, rfl, .inr ⟨y0, r⟩⟩
  obtain ⟨z, ez, h⟩ := e1
  rw [afj]; unfold MX
  rw [get_bind ez]
  refine ⟨_, rfl, ?_⟩
  rcases h with ⟨z1, h⟩ | ⟨z0, h⟩
  · rw [z1]; exact ⟨fun e => by { cases e }, fun e => absurd e h⟩
  · exact ⟨fun _ => h, fun _ => decide_eq_true z0⟩
theorem aoW (l : Sq Int) (hn : l.n ≤ 64) : ∃ b, AB l = some b ∧ (b = true ↔ ¬ Rng l) := by
  have too : ∀ p : Int, ∃ b, Oj p = some b ∧ (b = true ↔ ¬ (-70368744177664 ≤ p ∧ p ≤ 70368744177664)) := fun p => by
    rw [aeG]; unfold KJ
    by_cases c : p < -70368744177664
    · rw [qo (decide_eq_true c)]; exact ⟨_, rfl, fun _ => by omega, fun _ => rfl⟩
    · rw [qm (decide_eq_false c)]
      refine ⟨_, rfl, fun h => ?_, fun h => decide_eq_true (by omega)⟩
      have := of_decide_eq_true h
      omega
  have e1 : ∃ z, IG l = some z ∧ ((z = -1 ∧ Rng l) ∨ (0 ≤ z ∧ ¬ Rng l)) := by
    have key := pY (step := fun x : Int => BS l x)
      (fun x => ∃ j : Nat, x = j ∧ j ≤ l.n ∧ ∀ k, k < j → -70368744177664 ≤ l.f k ∧ l.f k ≤ 70368744177664) (fun x => l.n - x.toNat)
      (fun z => (z = .inl () ∧ Rng l) ∨ ∃ y : Int, z = .inr y ∧ 0 ≤ y ∧ ¬ Rng l) (fun x hx => by
        obtain ⟨j, rfl, hj, h⟩ := hx
        unfold BS
        by_cases c : j < l.n
        · obtain ⟨b, eb, hb⟩ := too (l.f j)
          rw [qo (dlt c), qo (dix c), pI, qc (by omega), get_bind eb]
          cases b with
          | true =>
            rw [qo rfl]
            exact ⟨_, rfl, .inr ⟨_, rfl, by omega, fun r => hb.1 rfl (r j c)⟩⟩
          | false =>
            rw [qm rfl]
            have e : -70368744177664 ≤ l.f j ∧ l.f j ≤ 70368744177664 := Classical.byContradiction fun n => by cases hb.2 n
            exact ⟨_, rfl, ⟨j + 1, rfl, c, fun k hk => by
              by_cases q : k = j
              · rw [q]; exact e
              · exact h k (by omega)⟩, by omega⟩
        · obtain rfl : j = l.n := by omega
          rw [qm (dge (Nat.le_refl _))]
          exact ⟨_, rfl, .inl ⟨rfl, h⟩⟩)
      0 ⟨0, rfl, Nat.zero_le _, fun k hk => absurd hk (Nat.not_lt_zero _)⟩
    obtain ⟨z, hz, ⟨rfl, r⟩ | ⟨y, rfl, y0, r⟩⟩ := key
    · rw [adt]; unfold F3
      rw [pV (by rw [abN]; exact hz)]
      exact ⟨_, rfl, .inl ⟨rfl, r⟩⟩
    · rw [adt]; unfold F3
      rw [pV (by rw [abN]; exact hz)]
      exact ⟨_, rfl, .inr ⟨y0, r⟩⟩
  obtain ⟨z, ez, h⟩ := e1
  rw [abL]; unfold Ec
  rw [get_bind ez]
  refine ⟨_, rfl, ?_⟩
  rcases h with ⟨z1, h⟩ | ⟨z0, h⟩
  · rw [z1]; exact ⟨fun e => by { cases e }, fun e => absurd h e⟩
  · exact ⟨fun _ => h, fun _ => decide_eq_true z0⟩
theorem amV {m : qI} (ok : aja m) (h12 : m.Places.n ≤ 12) : ∃ c, Nu m = some c ∧ c.n ≤ 1000 ∧ ∀ v : Int, 0 ≤ v → v < m.Places.n → (In c v ↔ ¬ Aw m v) := by
  obtain ⟨c, ec, dc, hc⟩ := anS ok h12
  have r : ∀ i, i < c.n → 0 ≤ c.f i ∧ c.f i < m.Places.n := fun i hi => by
    have := (hc (c.f i)).1 ⟨i, hi, rfl⟩
    exact ⟨this.1, this.2.1⟩
  have := php m.Places.n c.n (fun i => (c.f i).toNat) (fun i hi => by have := r i hi; omega) (fun i j hi hj e => dc i j hi hj (by have := r i hi; have := r j hj; omega))
  exact ⟨c, ec, by omega, fun v v0 v1 => (hc v).trans (ape v0 v1)⟩
theorem aoe {a : SAir} {s : qz} (rt : aiR a s = true) (h12 : a.Mine.Places.n ≤ 12) {b : qL} (pL : aiV a b.Low) (pH : aiV a b.High) :
    ∃ z, Tv a s b = some z ∧ (z = true ↔ ∀ i, i < a.Mine.Places.n → akI a s b.Low b.High i) := by
  have ok := aiU rt
  have ln := pL.n
  have hn := pH.n
  obtain ⟨c, ec, cn, hc⟩ := amV ok.m h12
  have el : Mi a.Mine.Places a.Mine.Roads a.Fans a.Doors s.Fans s.Doors b.Low b.High c 0 = some (sumO (bn (gQ (akI a s b.Low b.High)) a.Mine.Places.n 0)) := by
    rw [aem, ← aiX]
    refine oM (step := fun v => FP a.Mine.Places a.Mine.Roads a.Fans a.Doors s.Fans s.Doors b.Low b.High c v) (gQ (akI a s b.Low b.High)) (fun i hi => ?_) ?_ a.Mine.Places.n 0 (Nat.zero_add _)
    · unfold FP gQ
      rw [qo (dlt hi), qo (dix hi), pI, qc (by omega)]
      have pr : ∀ l, aiV a l → PrOK a s l i := fun l hl => ⟨rt, hl, by omega, by have := hl.n; omega⟩
      have fixed : (a.Mine.Places.f i).Surface = true ∨ ¬ Aw a.Mine i → ∀ fl,
          (akI a s b.Low b.High i ∧ (DT.ite (decide ((0 : Int) ≤ (i : Int) ∧ (i : Int) < ((b.Low.n : Nat) : Int))) (.ite (b.Low.f i != (0 : Int)) (.leaf (.r ())) (.ite (decide ((0 : Int) ≤ (i : Int) ∧ (i : Int) < ((b.High.n : Nat) : Int))) (.ite (b.High.f i != (0 : Int)) (.leaf (.r ())) (.leaf (.next ((i + 1 : Nat) : Int)))) .fail)) fl : DT (LR Int Unit Unit)).get = some (.next ((i + 1 : Nat) : Int)))
          ∨ (¬ akI a s b.Low b.High i ∧ (DT.ite (decide ((0 : Int) ≤ (i : Int) ∧ (i : Int) < ((b.Low.n : Nat) : Int))) (.ite (b.Low.f i != (0 : Int)) (.leaf (.r ())) (.ite (decide ((0 : Int) ≤ (i : Int) ∧ (i : Int) < ((b.High.n : Nat) : Int))) (.ite (b.High.f i != (0 : Int)) (.leaf (.r ())) (.leaf (.next ((i + 1 : Nat) : Int)))) .fail)) fl : DT (LR Int Unit Unit)).get = some (.r ())) := fun fx fl => by
        rw [qo (dix (by omega))]
        by_cases c1 : b.Low.f i = 0
        · rw [qm (by rw [c1]; rfl), qo (dix (by omega))]
          by_cases c2 : b.High.f i = 0
          · rw [qm (by rw [c2]; rfl)]; exact .inl ⟨⟨fun _ => ⟨c1, c2⟩, fun n => absurd fx n⟩, rfl⟩
          · rw [qo (by simp [c2])]; exact .inr ⟨fun q => c2 (q.1 fx).2, rfl⟩
        · rw [qo (by simp [c1])]; exact .inr ⟨fun q => c1 (q.1 fx).1, rfl⟩
      cases hs : (a.Mine.Places.f i).Surface with
      | true =>
        rw [qo rfl]
        rcases fixed (.inl hs) .fail with ⟨h, e⟩ | ⟨h, e⟩
        · rw [if_pos h]; exact e
        · rw [if_neg h]; exact e
      | false =>
        rw [qm rfl]
        obtain ⟨z, ez, hz⟩ := alX c i cn
        have hz' := hz.trans (hc i (by omega) (by omega))
        rw [get_bind ez]
        cases z with
        | true =>
          rw [qo rfl]
          rcases fixed (.inr (hz'.1 rfl)) .fail with ⟨h, e⟩ | ⟨h, e⟩
          · rw [if_pos h]; exact e
          · rw [if_neg h]; exact e
        | false =>
          have nf : ¬ ((a.Mine.Places.f i).Surface = true ∨ ¬ Aw a.Mine i) := fun q => q.elim (fun e => by rw [hs] at e; cases e) fun n => by cases hz'.2 n
          rw [qm rfl]
          refine (get_bind (akn (pr b.High pH))).trans ?_
          unfold netS
          dsimp only
          rw [pI]
          by_cases c1 : NL a s b.High i (b.High.f i) < 0
          · rw [qo (decide_eq_true c1), if_neg fun q => by have := (q.2 nf).1; omega]; rfl
          · rw [qm (decide_eq_false c1)]
            refine (get_bind (akn (pr b.Low pL))).trans ?_
            unfold netS
            dsimp only
            rw [pI]
            by_cases c2 : NH a s b.Low i (b.Low.f i) > 0
            · rw [qo (decide_eq_true c2), if_neg fun q => by have := (q.2 nf).2; omega]; rfl
            · rw [qm (decide_eq_false c2), if_pos ⟨fun q => absurd q nf, fun _ => ⟨by omega, by omega⟩⟩]; rfl
    · unfold FP
      rw [qm (dge (Nat.le_refl _))]; rfl
  rw [afz]; unfold Oi
  rw [get_bind ec]
  by_cases h7 : ∀ i, i < a.Mine.Places.n → akI a s b.Low b.High i
  · rw [amq h7] at el
    rw [pV el]
    exact ⟨true, rfl, fun _ => h7, fun _ => rfl⟩
  · rw [amr h7] at el
    rw [pV el]
    exact ⟨false, rfl, fun h => by (cases h), fun h => absurd h h7⟩
theorem ajP (a : SAir) (s : qz) (b : qL) (h12 : a.Mine.Places.n ≤ 12) : Nk a s b = some (aje a s b) := by
  rw [agi]; unfold Qb aje
  rw [get_bind (aj9 a)]
  by_cases h1 : airE a = 0
  · rw [qm (by rw [h1]; rfl), if_neg (not_not_intro h1), get_bind (ajy a s)]
    by_cases h2 : aiR a s = true
    · rw [h2, qm (b := !true) rfl, if_neg (by simp)]
      by_cases h3 : b.Low.n = a.Mine.Places.n
      · rw [qm (by rw [h3]; simp), if_neg (not_not_intro h3)]
        by_cases h4 : b.High.n = a.Mine.Places.n
        · rw [qm (by rw [h4]; simp), if_neg (not_not_intro h4)]
          obtain ⟨x, ex, hx⟩ := aoW b.Low (by omega)
          obtain ⟨y, ey, hy⟩ := aoW b.High (by omega)
          rw [get_bind ex]
          by_cases h5 : Rng b.Low
          · have : x = false := by cases x with
              | false => rfl
              | true => exact absurd h5 (hx.1 rfl)
            rw [this, qm rfl, if_neg (not_not_intro h5), get_bind ey]
            by_cases h6 : Rng b.High
            · have : y = false := by cases y with
                | false => rfl
                | true => exact absurd h6 (hy.1 rfl)
              obtain ⟨z, ez, hz⟩ := aoe (b := b) h2 h12 ⟨h3, h5⟩ ⟨h4, h6⟩
              rw [this, qm rfl, if_neg (not_not_intro h6), get_bind ez]
              by_cases h7 : ∀ i, i < a.Mine.Places.n → akI a s b.Low b.High i
              · rw [hz.2 h7, qm (b := !true) rfl, if_pos h7]; rfl
              · have : z = false := by cases z with
                  | false => rfl
                  | true => exact absurd (hz.1 rfl) h7
                rw [this, qo (b := !false) rfl, if_neg h7]; rfl
            · rw [hy.2 h6, qo rfl, if_pos h6]; rfl
          · rw [hx.2 h5, qo rfl, if_pos h5]; rfl
        · rw [qo (by simp; omega), if_pos h4]; rfl
      · rw [qo (by simp; omega), if_pos h3]; rfl
    · have h2 : aiR a s = false := by simpa using h2
      rw [h2, qo (b := !false) rfl, if_pos rfl]; rfl
  · rw [qo (by simp [h1]), if_pos h1]; rfl
end Go.Proofs.YtimkpfnbkclclaaGreat.Ab
