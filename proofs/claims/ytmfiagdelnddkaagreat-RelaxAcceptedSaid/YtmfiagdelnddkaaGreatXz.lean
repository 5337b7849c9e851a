/- Stage 9: what is made is right. -/
import Derived.Test.YtmfiagdelnddkaaGreatXy
import Derived.Test.YtmfiagdelnddkaaGreatXt
namespace Go.Proofs.YtmfiagdelnddkaaGreat.Ab
open Go Go.ChangeShapes Go.WideShapes Go.ChangeAt Go.RowKit Go.Deep Go.Joins
theorem FnD.fan {f : SFan} {nr : Nat} (h : FnD f nr) : fanE f = 0 := by
  have h0 := h.r0
  have h1 := h.c.n0
  have h2 := h.n
  unfold fanE
  rw [if_neg (by omega), if_neg (by omega), if_neg (by omega), dx fun i _ hi => ?_]
  unfold gC
  have := h.c.f i (by omega)
  rw [if_neg (by omega), if_neg (by omega), if_neg]
  intro q
  have := h.c.m i q.1 (by omega)
  exact q.2 ⟨this.1, this.2⟩
theorem DoD.door {l : Sq aC} {i : Nat} {nr : Nat} (h : DoD (l.f i) nr) : DC l i = 0 := by
  have h0 := h.r0
  have h1 := h.n0
  have h2 := h.n1
  unfold DC
  rw [if_neg (by omega), if_neg (by omega), if_neg (by omega), dx fun j _ hj => ?_, dx fun j _ hj => ?_]
  · dsimp only
    rw [if_pos (.inl h.o)]
  · unfold gD
    rw [if_neg]
    intro q
    have := h.c.m j q.1 (by omega)
    omega
  · unfold gO
    have := h.c.f j (by omega)
    rw [if_pos (by omega)]
theorem EqD.air {a : SAir} {s : au} (h : EqD a s) (hm : uV a.Mine) : airE a = 0 := by
  have hfn := h.fn
  have hdn := h.dn
  unfold airE
  rw [(Jl _).2 hm, if_neg (by omega)]
  have e1 : Mi a.Fans a.Mine.Roads.n = 0 := by
    unfold Mi
    rw [if_neg (by omega), dx fun i _ hi => ?_]
    unfold gF
    obtain ⟨f1, _, _⟩ := h.f.f i (by omega)
    have r0 := f1.r0
    have r1 := f1.r1
    rw [f1.fan, if_neg (by omega), if_pos (by omega)]
  have e2 : zM a.Doors = 0 := by
    unfold zM
    rw [if_neg (by omega), dx fun i _ hi => ?_]
    unfold gDo
    rw [if_pos (h.d.f i (by omega)).1.door]
  have e3 : zN a.Doors a.Mine.Roads.n = 0 := by
    unfold zN
    rw [e2, if_neg (by omega), dx fun i _ hi => ?_]
    unfold gDr
    obtain ⟨d1, _, _⟩ := h.d.f i (by omega)
    have r0 := d1.r0
    have r1 := d1.r1
    rw [if_pos (by omega)]
  rw [e1, if_neg (by omega), e3]
theorem EqD.right {a : SAir} {s : au} (h : EqD a s) (hm : uV a.Mine) {t : au} (h1 : t.Fans.n = a.Fans.n) (h2 : t.Doors.n = a.Doors.n) (h3 : ∀ i, i < a.Fans.n → -1 ≤ t.Fans.f i ∧ t.Fans.f i ≤ 2) (h4 : ∀ i, i < a.Doors.n → -1 ≤ t.Doors.f i ∧ t.Doors.f i < ((a.Doors.f i).Rests.n : Int)) : aZ a t = true := by
  unfold aZ
  rw [if_pos]
  refine ⟨h.air hm, h1, h2, dx fun i _ hi => ?_, dx fun i _ hi => ?_⟩
  · unfold gSf
    rw [if_pos (h3 i (by omega))]
  · unfold gSd
    have := h4 i (by omega)
    rw [if_pos (by omega)]
theorem MdD.mine {a : SAir} {s : au} {x : dN} (h : MdD a s x) : uV a.Mine := by
  have hnr := h.nr
  have hnp := h.np
  obtain ⟨sh, s0, _, _, hP, _, hq, _, _, _, hL⟩ := h.e
  refine ⟨by omega, by omega, fun i hi => by have := (hP.f i hi).2; omega, fun i hi => ?_⟩
  obtain ⟨a1, a2, a3, a4, a5, ⟨b1, b2, b3, b4, b5, b6, b7⟩, _⟩ := hq.r i hi
  have l0 := (hL i hi).l0
  have l1 := (hL i hi).l1
  have l2 := (hL i hi).l2
  unfold Et
  rw [if_neg (by omega), if_neg (by omega), if_neg (by omega), if_neg (by omega), if_neg (by omega), if_neg (by omega), if_neg (by omega)]
theorem MdD.right {a : SAir} {s : au} {x : dN} (h : MdD a s x) : aZ a s = true := by
  obtain ⟨sh, s0, _, _, _, _, _, hE, dF, dD, _⟩ := h.e
  have n1 := hE.f.n
  have n2 := hE.d.n
  have n3 := dF.n
  have n4 := dD.n
  refine hE.right h.mine (by omega) (by omega) (fun i hi => ?_) (fun i hi => ?_)
  · have := (hE.f.f i hi).2
    rcases dF.f i (by omega) with e | e <;> omega
  · have := (hE.d.f i hi).2
    rcases dD.f i (by omega) with e | e <;> omega
theorem alp (s : aK) : ((s.Low == s.Low) && ((s.High == s.High) && true)) = true := by simp
theorem Cut.mono {P Q : Int → Prop} {z z' : Int} (h : Cut P z) (h' : Cut Q z') (hPQ : ∀ x, Q x → P x) : z ≤ z' := by
  have a := h.lo
  have b := h.hi
  have a' := h'.lo
  have b' := h'.hi
  rcases Int.lt_or_le z' z with c | c
  · exact absurd (hPQ _ (h'.t z' (Int.le_refl _) (by omega))) (h.f z' (by omega) c)
  · exact c
theorem Ws.le {a : SAir} {s : au} (ok : RtOK a s) {i : Nat} (hi : i < a.Mine.Roads.n) {p : Int} {S : aK} (h : Ws a s i p S) : S.Low ≤ S.High := by
  have a1 := h.l.lo
  have a2 := h.l.hi
  have a3 := h.h.lo
  have a4 := h.h.hi
  rcases Int.lt_or_le S.High S.Low with c | c
  · have q1 := h.l.f S.Low (by omega) (by omega)
    have q2 := h.h.t S.High (Int.le_refl _) (by omega)
    have q3 := CF ok hi (x := S.High) (y := S.Low) (by omega) c (by omega)
    have q4 := aip ok hi (x := S.Low) (by omega) (by omega)
    omega
  · exact c
theorem Ws.mono {a : SAir} {s : au} {i : Nat} {p p' : Int} {S S' : aK} (h : Ws a s i p S) (h' : Ws a s i p' S') (hp : p ≤ p') : S.Low ≤ S'.Low ∧ S.High ≤ S'.High := by
  have a := h.l.mono h'.l (fun x hx => by omega)
  have b := h.h.mono h'.h (fun x hx => by omega)
  omega
theorem ale {a : SAir} {s : au} {road x : Int} (h : opB a s road) (h0 : -1048577 ≤ x) (h1 : x ≤ 1048577) : akD a s road x = spS (cK a s road.toNat x) := by
  unfold akD
  rw [if_pos ⟨h, h0, h1⟩]
end Go.Proofs.YtmfiagdelnddkaaGreat.Ab
