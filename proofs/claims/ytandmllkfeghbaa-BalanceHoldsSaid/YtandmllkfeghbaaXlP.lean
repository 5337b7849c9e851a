/- Stage 10: what each law draws. -/
import Derived.Test.YtandmllkfeghbaaXE
import Derived.Test.YtandmllkfeghbaaXlg
import Derived.Test.YtandmllkfeghbaaXu
namespace Go.Proofs.Ytandmllkfeghbaa.Ab
open Go

structure DrO (codes : Sq Int) (c : SCodes) (a : SAir) (s : SSetting) (x : SState) (b : Int) (l : Sq Int) (b2 : Int) : Prop where
  e0 : New codes = some c
  e1 : Codes_Made c = some (a, s, x, b)
  e2 : law10_around ⟨c.l_, b⟩ a x = some (l, b2)
  hc : CdOK ⟨c.l_, b2⟩
  md : MdD a s x
  rt : rightB a s = true
  ln : l.n = a.Mine.Places.n
  lb : ∀ k, k < l.n → -7000 ≤ l.f k ∧ l.f k ≤ 7000
  xn : x.Pressures.n = a.Mine.Places.n
  xb : ∀ k, k < x.Pressures.n → -4000 ≤ x.Pressures.f k ∧ x.Pressures.f k ≤ 4000
  n0 : 1 ≤ a.Mine.Places.n
  n1 : a.Mine.Places.n ≤ 6
theorem draws (codes : Sq Int) (hb : ∀ k, 0 ≤ codes.f k ∧ codes.f k ≤ 255) : ∃ c a s x b l b2, DrO codes c a s x b l b2 := by
  obtain ⟨c, e0, hc⟩ := New_ex codes hb
  obtain ⟨a, s, x, b, e1, b0, b1, md⟩ := Codes_Made_ex hc
  obtain ⟨sh, s0, h1, _, hP, hp, _⟩ := md.e
  have np := md.np
  have pn := hP.n
  have hpn := hp.nn
  obtain ⟨l, b2, e2, l2, u2, ln, lb⟩ := around_ex (hc.at b0 b1) (a := a) hp.nn (by omega) (fun k hk => hp.f k (by omega))
  exact ⟨c, a, s, x, b, l, b2, e0, e1, e2, hc.at l2 u2, md, md.right, ln, lb, hp.nn, fun k hk => hp.f k (by omega), by omega, np⟩
theorem DrO.prs {codes : Sq Int} {c : SCodes} {a : SAir} {s : SSetting} {x : SState} {b : Int} {l : Sq Int} {b2 : Int} (d : DrO codes c a s x b l b2) : PrsOK a l := ⟨d.ln, fun k hk => by have := d.lb k hk; omega⟩
theorem DrO.pro {codes : Sq Int} {c : SCodes} {a : SAir} {s : SSetting} {x : SState} {b : Int} {l : Sq Int} {b2 : Int} (d : DrO codes c a s x b l b2) {v : Int} (v0 : 0 ≤ v) (v1 : v < l.n) : PrOK a s l v := ⟨d.rt, d.prs, v0, v1⟩
end Go.Proofs.Ytandmllkfeghbaa.Ab
