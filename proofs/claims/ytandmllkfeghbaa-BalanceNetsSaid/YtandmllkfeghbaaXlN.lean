/- Stage 10: Nets. -/
import Derived.Test.YtandmllkfeghbaaXlP
import Derived.Test.YtandmllkfeghbaaXv
namespace Go.Proofs.Ytandmllkfeghbaa.Ab
open Go

theorem balanceNets_true (codes : Sq Int) (hb : ∀ k, 0 ≤ codes.f k ∧ codes.f k ≤ 255) (raw : Sq Int) (place : Int) : (law10_BalanceNets_t codes raw place).get = some true := by
  obtain ⟨c, a, s, x, b, l, b2, d⟩ := draws codes hb
  have n1 := d.n1
  have ln := d.ln
  obtain ⟨sh, s0, _, _, _, _, _, hE, _⟩ := d.md.e
  have hfn := hE.fn
  have hdn := hE.dn
  obtain ⟨t, b3, e3, _⟩ := Codes_Setting_ex d.hc a (by omega) (by omega) (fun i hi => by have := (hE.d.f i hi).1.n1; omega)
  obtain ⟨v, e4, _⟩ := Mod_ex place (wr (((l.n : Nat) : Int) + 1)) (by rw [wr_ok (by omega) (by omega)]; omega)
  obtain ⟨S1, f1, g1⟩ := Net_same a s l v
  obtain ⟨S2, f2, g2⟩ := Net_same a t l v
  obtain ⟨S3, f3, g3⟩ := Net_same a s raw v
  obtain ⟨S4, f4, g4⟩ := Net_same a s l place
  unfold law10_BalanceNets_t
  rw [get_bind d.e0, get_bind d.e1]
  dsimp only
  rw [get_bind d.e2]
  dsimp only
  rw [get_bind e3]
  dsimp only
  rw [get_bind e4, get_bind f1, get_bind g1, get_t (span_eq S1), get_bind f2, get_bind g2, get_t (span_eq S2), get_bind f3, get_bind g3, get_t (span_eq S3), get_bind f4, get_bind g4, get_t (span_eq S4), get_bind awake_true]
  rfl
end Go.Proofs.Ytandmllkfeghbaa.Ab
