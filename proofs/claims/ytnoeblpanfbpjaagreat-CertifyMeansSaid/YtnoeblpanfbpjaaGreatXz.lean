/- Stage 9: what is made is right. -/
import Derived.Test.YtnoeblpanfbpjaaGreatXy
import Derived.Test.YtnoeblpanfbpjaaGreatXt
namespace Go.Proofs.YtnoeblpanfbpjaaGreat.Ab
open Go Go.ChangeShapes Go.WideShapes Go.ChangeAt Go.RowKit Go.Deep Go.Joins

theorem FnD.fan {f : SFan} {nr : Nat} (h : FnD f nr) : fanE f = 0 := by
  have h0 := h.r0
  have h1 := h.c.n0
  have h2 := h.n
  unfold fanE
  rw [if_neg (by omega), if_neg (by omega), if_neg (by omega), firstN_all fun i _ hi => ?_]
  unfold gC
  have := h.c.f i (by omega)
  rw [if_neg (by omega), if_neg (by omega), if_neg]
  intro q
  have := h.c.m i q.1 (by omega)
  exact q.2 ⟨this.1, this.2⟩
theorem DoD.door {l : Sq SDoor} {i : Nat} {nr : Nat} (h : DoD (l.f i) nr) : doorE l i = 0 := by
  have h0 := h.r0
  have h1 := h.n0
  have h2 := h.n1
  unfold doorE
  rw [if_neg (by omega), if_neg (by omega), if_neg (by omega), firstN_all fun j _ hj => ?_, firstN_all fun j _ hj => ?_]
  · dsimp only
    rw [if_pos (.inl h.o)]
  · unfold gD
    rw [if_neg]
    intro q
    have := h.c.m j q.1 (by omega)
    omega
  · unfold gO
    have := h.c.f j (by omega)
    rw [if_pos (by omega)]
theorem EqD.air {a : SAir} {s : SSetting} (h : EqD a s) (hm : MineOK a.Mine) : airE a = 0 := by
  have hfn := h.fn
  have hdn := h.dn
  unfold airE
  rw [(mineE_ok _).2 hm, if_neg (by omega)]
  have e1 : fansE a.Fans a.Mine.Roads.n = 0 := by
    unfold fansE
    rw [if_neg (by omega), firstN_all fun i _ hi => ?_]
    unfold gF
    obtain ⟨f1, _, _⟩ := h.f.f i (by omega)
    have r0 := f1.r0
    have r1 := f1.r1
    rw [f1.fan, if_neg (by omega), if_pos (by omega)]
  have e2 : doorsE a.Doors = 0 := by
    unfold doorsE
    rw [if_neg (by omega), firstN_all fun i _ hi => ?_]
    unfold gDo
    rw [if_pos (h.d.f i (by omega)).1.door]
  have e3 : doorsE2 a.Doors a.Mine.Roads.n = 0 := by
    unfold doorsE2
    rw [e2, if_neg (by omega), firstN_all fun i _ hi => ?_]
    unfold gDr
    obtain ⟨d1, _, _⟩ := h.d.f i (by omega)
    have r0 := d1.r0
    have r1 := d1.r1
    rw [if_pos (by omega)]
  rw [e1, if_neg (by omega), e3]
theorem EqD.right {a : SAir} {s : SSetting} (h : EqD a s) (hm : MineOK a.Mine) {t : SSetting} (h1 : t.Fans.n = a.Fans.n) (h2 : t.Doors.n = a.Doors.n) (h3 : ∀ i, i < a.Fans.n → -1 ≤ t.Fans.f i ∧ t.Fans.f i ≤ 2) (h4 : ∀ i, i < a.Doors.n → -1 ≤ t.Doors.f i ∧ t.Doors.f i < ((a.Doors.f i).Rests.n : Int)) : rightB a t = true := by
  unfold rightB
  rw [if_pos]
  refine ⟨h.air hm, h1, h2, firstN_all fun i _ hi => ?_, firstN_all fun i _ hi => ?_⟩
  · unfold gSf
    rw [if_pos (h3 i (by omega))]
  · unfold gSd
    have := h4 i (by omega)
    rw [if_pos (by omega)]
theorem MdD.mine {a : SAir} {s : SSetting} {x : SState} (h : MdD a s x) : MineOK a.Mine := by
  have hnr := h.nr
  have hnp := h.np
  obtain ⟨sh, s0, _, _, hP, _, hq, _, _, _, hL⟩ := h.e
  refine ⟨by omega, by omega, fun i hi => by have := (hP.f i hi).2; omega, fun i hi => ?_⟩
  obtain ⟨a1, a2, a3, a4, a5, ⟨b1, b2, b3, b4, b5, b6, b7⟩, _⟩ := hq.r i hi
  have l0 := (hL i hi).l0
  have l1 := (hL i hi).l1
  have l2 := (hL i hi).l2
  unfold roadE
  rw [if_neg (by omega), if_neg (by omega), if_neg (by omega), if_neg (by omega), if_neg (by omega), if_neg (by omega), if_neg (by omega)]
/-- What is made is right. -/
theorem MdD.right {a : SAir} {s : SSetting} {x : SState} (h : MdD a s x) : rightB a s = true := by
  obtain ⟨sh, s0, _, _, _, _, _, hE, dF, dD, _⟩ := h.e
  have n1 := hE.f.n
  have n2 := hE.d.n
  have n3 := dF.n
  have n4 := dD.n
  refine hE.right h.mine (by omega) (by omega) (fun i hi => ?_) (fun i hi => ?_)
  · have := (hE.f.f i hi).2
    rcases dF.f i (by omega) with e | e <;> omega
  · have := (hE.d.f i hi).2
    rcases dD.f i (by omega) with e | e <;> omega
theorem span_eq (s : SSpan) : ((s.Low == s.Low) && ((s.High == s.High) && true)) = true := by simp
theorem Cut.mono {P Q : Int → Prop} {z z' : Int} (h : Cut P z) (h' : Cut Q z') (hPQ : ∀ x, Q x → P x) : z ≤ z' := by
  have a := h.lo
  have b := h.hi
  have a' := h'.lo
  have b' := h'.hi
  rcases Int.lt_or_le z' z with c | c
  · exact absurd (hPQ _ (h'.t z' (Int.le_refl _) (by omega))) (h.f z' (by omega) c)
  · exact c
theorem FlowC.le {a : SAir} {s : SSetting} (ok : RtOK a s) {i : Nat} (hi : i < a.Mine.Roads.n) {p : Int} {S : SSpan} (h : FlowC a s i p S) : S.Low ≤ S.High := by
  have a1 := h.l.lo
  have a2 := h.l.hi
  have a3 := h.h.lo
  have a4 := h.h.hi
  rcases Int.lt_or_le S.High S.Low with c | c
  · have q1 := h.l.f S.Low (by omega) (by omega)
    have q2 := h.h.t S.High (Int.le_refl _) (by omega)
    have q3 := dropP_lt ok hi (x := S.High) (y := S.Low) (by omega) c (by omega)
    have q4 := dropP_in ok hi (x := S.Low) (by omega) (by omega)
    omega
  · exact c
theorem FlowC.mono {a : SAir} {s : SSetting} {i : Nat} {p p' : Int} {S S' : SSpan} (h : FlowC a s i p S) (h' : FlowC a s i p' S') (hp : p ≤ p') : S.Low ≤ S'.Low ∧ S.High ≤ S'.High := by
  have a := h.l.mono h'.l (fun x hx => by omega)
  have b := h.h.mono h'.h (fun x hx => by omega)
  omega
theorem dropV_t {a : SAir} {s : SSetting} {road x : Int} (h : opB a s road) (h0 : -1048577 ≤ x) (h1 : x ≤ 1048577) : dropV a s road x = spS (dropP a s road.toNat x) := by
  unfold dropV
  rw [if_pos ⟨h, h0, h1⟩]
end Go.Proofs.YtnoeblpanfbpjaaGreat.Ab
