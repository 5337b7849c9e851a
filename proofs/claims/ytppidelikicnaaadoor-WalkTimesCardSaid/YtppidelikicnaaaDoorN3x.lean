/- Stage 3: WalkTimes. -/
import Derived.Test.YtppidelikicnaaaDoorN3t
import Derived.Test.YtppidelikicnaaaDoorN3kt
import Derived.Test.YtppidelikicnaaaDoorXu
namespace Go.Proofs.YtppidelikicnaaaDoor.Ab
open Go

theorem walkTimes_true (codes : Sq Int) (hb : ∀ k, 0 ≤ codes.f k ∧ codes.f k ≤ 255) (road : Int) (back : Bool) : (law03_WalkTimes_t codes road back).get = some true := by
  obtain ⟨c, e0, hc⟩ := New_ex codes hb
  obtain ⟨m, a, e1, hm⟩ := Codes_Mine_ex hc
  have ok := hm.ok
  have nr := ok.nr
  obtain ⟨v, ev, _⟩ := Mod_ex road (wr ((m.Roads.n : Int) + 1)) (by rw [wr_ok (by omega) (by omega)]; omega)
  unfold law03_WalkTimes_t
  rw [get_bind e0, get_bind e1, get_bind ev]
  have hl : ∀ s : Sq Int, s.n = 2 → law03_WalkTimes_l3 back m.Places m.Roads s 0 = some (.inl ()) := by
    intro s hs
    rw [law03_WalkTimes_l3_eq]
    refine (loop_first (B := Unit) (step := fun v => law03_WalkTimes_l3_step back m.Places m.Roads s v) (n := 2) (fun _ => none) (fun i hi => ?_) ?_ 2 0 (Nat.zero_add _)).trans ?_
    · unfold law03_WalkTimes_l3_step
      rw [get_t (decide_eq_true (by omega)), get_t (dix (by omega)), get_bind (walk_Time_v (m := m) ok _ _), get_bind (ref03_Time_v (m := m) ok _ _), get_f (by simp), get_bind (walk_Slow_v (m := m) ok _ _), get_bind (ref03_Slow_v (m := m) ok _ _), get_f (by simp), wr_next (by omega)]; rfl
    · unfold law03_WalkTimes_l3_step
      rw [get_f (decide_eq_false (by omega))]; rfl
    · rw [firstN_no fun _ _ _ => rfl]
  rw [get_sum (hl _ rfl)]
  dsimp only [Sum.elim]
  rw [get_bind awake3_true]; rfl
end Go.Proofs.YtppidelikicnaaaDoor.Ab
