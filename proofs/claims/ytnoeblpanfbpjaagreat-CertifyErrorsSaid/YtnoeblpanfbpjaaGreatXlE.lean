/- Stage 11: Errors. -/
import Derived.Test.YtnoeblpanfbpjaaGreatXQ
import Derived.Test.YtnoeblpanfbpjaaGreatXke
import Derived.Test.YtnoeblpanfbpjaaGreatXvb
namespace Go.Proofs.YtnoeblpanfbpjaaGreat.Ab
open Go

theorem certifyErrors_true (a : SAir) (s : SSetting) (b : SBounds) : (law11_CertifyErrors_t a s b).get = some true := by
  unfold law11_CertifyErrors_t
  by_cases c1 : ((a.Mine.Places.n : Nat) : Int) > 12
  · rw [get_t (decide_eq_true c1), get_bind awake_true]; rfl
  · rw [get_f (decide_eq_false c1)]
    by_cases c2 : ((a.Mine.Roads.n : Nat) : Int) > 12
    · rw [get_t (decide_eq_true c2), get_bind awake_true]; rfl
    · obtain ⟨k, l, ek, el, es⟩ := Flows_same a s b (by omega)
      rw [get_f (decide_eq_false c2), get_bind (certify_Check_v a s b (by omega)), get_bind (ref11_Check_v a s b), get_t (by simp), get_bind ek, get_bind el, get_bind es, get_t rfl, get_bind awake_true]; rfl
end Go.Proofs.YtnoeblpanfbpjaaGreat.Ab
