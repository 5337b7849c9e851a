/- Stage 10: Rises. -/
import Derived.Test.YtandmllkfeghbaaXlP
import Derived.Test.YtandmllkfeghbaaXv
namespace Go.Proofs.Ytandmllkfeghbaa.Ab
open Go

theorem balanceRises_true (codes : Sq Int) (hb : ∀ k, 0 ≤ codes.f k ∧ codes.f k ≤ 255) (place other more : Int) (hm : 0 ≤ more ∧ more ≤ 65535) : (law10_BalanceRises_t codes place other more).get = some true := by
  obtain ⟨c, a, s, x, b, l, b2, d⟩ := draws codes hb
  have n0 := d.n0
  have n1 := d.n1
  have ln := d.ln
  obtain ⟨v, e4, _, hv⟩ := Mod_ex place ((l.n : Nat) : Int) (by omega)
  obtain ⟨o, e5, _, ho⟩ := Mod_ex other ((l.n : Nat) : Int) (by omega)
  have hv := hv (by omega)
  have ho := ho (by omega)
  have bo := d.lb o.toNat (by omega)
  have ok := right_ok d.rt
  have ew : wr (l.f o.toNat + wr more) = l.f o.toNat + more := by rw [wr_ok (x := more) (by omega) (by omega)]; exact wr_ok (by omega) (by omega)
  have f1 := balance_Net_v (d.pro hv.1 hv.2)
  have hU : SameBut l ⟨l.n, fun k => cond (Nat.beq k o.toNat) (l.f o.toNat + more) (l.f k)⟩ o := SameBut.set ⟨rfl, fun _ _ => rfl⟩ _
  have hP : PrsOK a ⟨l.n, fun k => cond (Nat.beq k o.toNat) (l.f o.toNat + more) (l.f k)⟩ := SameBut.ok ⟨rfl, fun _ _ => rfl⟩ d.prs (by omega) (by omega)
  have f2 := balance_Net_v (a := a) (s := s) (P := ⟨l.n, fun k => cond (Nat.beq k o.toNat) (l.f o.toNat + more) (l.f k)⟩) (pl := v) ⟨d.rt, hP, hv.1, hv.2⟩
  have hu : ∀ k, l.f k ≤ (⟨l.n, fun k => cond (Nat.beq k o.toNat) (l.f o.toNat + more) (l.f k)⟩ : Sq Int).f k := fun k => by
    dsimp only
    by_cases c : k = o.toNat
    · rw [beq_t c, c]; dsimp only [cond]; omega
    · rw [beq_f c]; exact Int.le_refl _
  have h0 := N_in ok l v (l.f v.toNat)
  unfold law10_BalanceRises_t
  rw [get_bind d.e0, get_bind d.e1]
  dsimp only
  rw [get_bind d.e2]
  dsimp only
  rw [get_bind e4, get_bind e5, get_t (decide_eq_true ⟨by omega, by omega⟩), get_t (decide_eq_true ho), get_t (decide_eq_true ho), ew, get_bind f1, get_bind f2, get_f (decide_eq_false (by unfold netS; dsimp only; omega))]
  by_cases cv : o = v
  · subst cv
    have own : (⟨l.n, fun k => cond (Nat.beq k o.toNat) (l.f o.toNat + more) (l.f k)⟩ : Sq Int).f o.toNat = l.f o.toNat + more := by dsimp only; rw [beq_t rfl]; rfl
    have m := N_mono ok l o (p := l.f o.toNat) (p' := l.f o.toNat + more) (by omega)
    have q := N_own (s := s) ok (P := l) (P' := ⟨l.n, fun k => cond (Nat.beq k o.toNat) (l.f o.toNat + more) (l.f k)⟩) o (l.f o.toNat + more) fun k hk => (hU.f k (by omega)).symm
    rw [get_t (by simp), get_t (decide_eq_true (by unfold netS; dsimp only; rw [beq_t rfl, cond_true]; omega)), get_t (decide_eq_true (by unfold netS; dsimp only; rw [beq_t rfl, cond_true]; omega)), get_bind awake_true]
    rfl
  · have m := N_anti (s := s) ok v (l.f v.toNat) hu
    have own : cond (Nat.beq v.toNat o.toNat) (l.f o.toNat + more) (l.f v.toNat) = l.f v.toNat := by rw [beq_f (by omega)]; rfl
    rw [get_f (by simpa using cv), get_t (decide_eq_true (by unfold netS; dsimp only; rw [own]; omega)), get_t (decide_eq_true (by unfold netS; dsimp only; rw [own]; omega)), get_bind awake_true]
    rfl
end Go.Proofs.Ytandmllkfeghbaa.Ab
