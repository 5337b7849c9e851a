/- Stage 9: bytes that come in; a told law, called; Drops. -/
import Derived.Test.YtbmbhgkjpdpcjaaZEo
import Derived.Test.YtbmbhgkjpdpcjaaYl
import Derived.Test.YtbmbhgkjpdpcjaaYr
import Derived.Test.YtbmbhgkjpdpcjaaYt
namespace Go.Proofs.Ytbmbhgkjpdpcjaa.Ab
open Go Go.ChangeShapes Go.WideShapes Go.ChangeAt Go.RowKit Go.Deep Go.Joins

def BtI := { a : Int // 0 ≤ a ∧ a ≤ 255 }
section
variable {H : Type} {enc : TypeId × Value → H} {w : World} {base : Nat} {spare : Nat → Bool} {held : Bool}
theorem trod_byteB {n : Nat} {cs : List Value} {x : DataW H × List MemPlace} (h : DataW.trod enc Try.prog w base spare held n 5 cs = some x) : ∃ a : BtI, cs = [.int .u8 a.1] := by
  obtain ⟨a, e, _, hw⟩ := DataW.trod_int Try.underlying5 h
  exact ⟨⟨a, Go.bounds_u8 hw⟩, e⟩
theorem open_bytesB {v : Value} {d : DataW H} {p : List MemPlace} {a : Option Addr} {len cap : Nat} (hv : v = .slice a len cap) (h : DataW.Trod enc Try.prog w base spare held 22 v d p) :
    ∃ s : Sq Int, (∀ k, 0 ≤ s.f k ∧ s.f k ≤ 255) ∧ ∀ (M : Nat → Prop) (σ : Nat → Value) (V : Nat → Option Nat), (∀ g, ¬ M g) → VR w M σ V (.slc 1 s.n fun k => [.int .u8 (s.f k)]) v := by
  obtain ⟨fuel, hf⟩ := h
  obtain ⟨v', l, hcs, hs⟩ := open_sl (fun a : BtI => [Value.int .u8 a.1]) (sz := 1) Try.underlying22 Try.cells5 (by omega) (fun _ => rfl) trod_byteB hf
  subst hv
  simp [Value.cells] at hcs
  subst hcs
  refine ⟨⟨l.length, fun k => (l.getD k ⟨0, by omega, by omega⟩).1⟩, fun k => (l.getD k ⟨0, by omega, by omega⟩).2, fun M σ V hM => .pure (pr_of_sl hM (fun a : BtI => [Value.int .u8 a.1]) (fun a : BtI => [AV.int .u8 a.1]) ⟨0, by omega, by omega⟩ (fun _ => rfl) (fun _ => rfl) (fun a j hj => ?_) hs)⟩
  have hj : j < 1 := hj
  obtain rfl : j = 0 := by omega
  exact ⟨.int _ _, rfl⟩
end
/-- A law that comes to true, as it is told. -/
theorem law_told {f : FuncId} {A : Type} {enc : A → List AV × List Blk} {g : A → Option Bool} {av : Bool → AV} {outs : List Blk → Bool → List Blk} {fl : Bool} {hfl : fl = true → ∀ ins z, AV.flat (av z) = true ∧ ∀ b ∈ outs ins z, b.flat}
    (h : Tells Try.prog f (told enc g av outs fl hfl)) (hinj : ∀ a b, enc a = enc b → a = b) (hav : av true = .bool true) (a : A) (h2 : (enc a).2 = []) (hg : g a = some true) {w : World} {vs : Array Value} (hl : vs.size = (enc a).1.length)
    (hv : ∀ j, j < (enc a).1.length → ∀ (M : Nat → Prop) (σ : Nat → Value) (V : Nat → Option Nat), (∀ g, ¬ M g) → VR w M σ V ((enc a).1.getD j .undef) (vs.getD j undef)) : Calls Try.prog f vs w fun e w' => e = .returned (.bool true) ∧ Below w.heap.size w w' :=
  tells_calls h (xs := (enc a).1) (r := ⟨⟨Bool, gOfA enc g (enc a).1 [], av, outs []⟩, fun _ => fl, fun z h => hfl h [] z⟩) (x := true) rfl (by rw [← hg, ← congrFun (gOfA_eq hinj g) a, h2]) hav hl hv
theorem span_eq (s : SSpan) : ((s.Low == s.Low) && ((s.High == s.High) && true)) = true := by simp
/-! ### Drops -/
theorem branchDrops_true (codes : Sq Int) (hb : ∀ k, 0 ≤ codes.f k ∧ codes.f k ≤ 255) (road flow : Int) : (law09_BranchDrops_t codes road flow).get = some true := by
  obtain ⟨c, e0, hc⟩ := New_ex codes hb
  obtain ⟨a, s, x, b, e1, b0, b1, md⟩ := Codes_Made_ex hc
  have hnr := md.nr
  obtain ⟨sh, s0, _, _, _, _, _, hE, _⟩ := md.e
  have hfn := hE.fn
  have hdn := hE.dn
  obtain ⟨t, b2, e2, _⟩ := Codes_Setting_ex (hc.at b0 b1) a (by omega) (by omega) (fun i hi => by have := (hE.d.f i hi).1.n1; omega)
  obtain ⟨v1, e3, _⟩ := Mod_ex road (wr (((a.Mine.Roads.n : Nat) : Int) + 1)) (by rw [wr_ok (by omega) (by omega)]; omega)
  obtain ⟨v2, e4, _⟩ := Mod_ex flow 400 (by omega)
  unfold law09_BranchDrops_t
  rw [get_bind e0, get_bind e1]
  dsimp only
  rw [get_bind e2]
  dsimp only
  rw [get_bind e3, get_bind e4]
  have key : ∀ F : Sq Int, F.n = 5 → law09_BranchDrops_l6 road v1 s.Fans s.Doors a.Mine.Places a.Mine.Roads a.Fans a.Doors t.Fans t.Doors F 0 = some (.inl ()) := by
    intro F hF
    rw [law09_BranchDrops_l6_eq]
    refine (loop_first (step := fun v => law09_BranchDrops_l6_step road v1 s.Fans s.Doors a.Mine.Places a.Mine.Roads a.Fans a.Doors t.Fans t.Doors F v) (n := 5) (fun _ => none) (fun i hi => ?_) ?_ 5 0 rfl).trans ?_
    · unfold law09_BranchDrops_l6_step
      rw [get_t (decide_eq_true (by omega)), get_t (decide_eq_true (by omega)), get_bind (branch_Drop_v _ _ _ _), get_bind (ref09_Drop_v _ _ _ _), get_f (by rw [span_eq]; rfl), get_bind (branch_Drop_v _ _ _ _), get_bind (ref09_Drop_v _ _ _ _), get_f (by rw [span_eq]; rfl), get_bind (branch_Drop_v _ _ _ _), get_bind (ref09_Drop_v _ _ _ _), get_f (by rw [span_eq]; rfl), wr_next (by omega)]
      rfl
    · unfold law09_BranchDrops_l6_step
      rw [get_f (decide_eq_false (by omega))]; rfl
    · rw [firstN_all fun _ _ _ => rfl]
  rw [get_sum (key _ rfl)]
  rfl
theorem branchDrops_calls (codes : Sq Int) (hb : ∀ k, 0 ≤ codes.f k ∧ codes.f k ≤ 255) (road flow : Int) {w : World} {vs : Array Value} (hl : vs.size = 3)
    (hv : ∀ j, j < 3 → ∀ (M : Nat → Prop) (σ : Nat → Value) (V : Nat → Option Nat), (∀ g, ¬ M g) → VR w M σ V ((law09_BranchDrops_encC codes road flow).1.getD j .undef) (vs.getD j undef)) : Calls Try.prog 4 vs w fun e w' => e = .returned (.bool true) ∧ Below w.heap.size w w' :=
  law_told law09_BranchDrops_tells law09_BranchDrops_inj rfl (codes, road, flow) rfl (branchDrops_true codes hb road flow) hl hv
end Go.Proofs.Ytbmbhgkjpdpcjaa.Ab
