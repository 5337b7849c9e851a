/- A part of the proof, what is needed of it. -/
import Derived.Test.YtimkpfnbkclclaaGreatPk18
import Derived.Test.YtimkpfnbkclclaaGreatPk19
namespace Go.Proofs.YtimkpfnbkclclaaGreat.Ab
open Go
theorem anr (x y : Int) : aeY x y = some (decide (x < y)) := by
  have e : ∀ x, aaF x = some false := fun x => by rw [ait]; unfold aaG; simp
  rw [aiE]; unfold acz
  rw [get_bind (e x), qm rfl]; rfl
theorem amt {l d : Sq Int} (h : Pm l d) (hn : l.n ≤ 1000) (b : Int) {i : Nat} (hi : i < l.n) : ∃ d', zW 0 b i d i = some (.inl d') ∧ Pm l d' := by
  have key := pY (step := fun v : Sq Int × Int => xS 0 b i v.1 v.2)
    (fun v => ∃ j : Nat, v.2 = j ∧ j < l.n ∧ Pm l v.1) (fun v => v.2.toNat) (fun z => ∃ d', z = .inl d' ∧ Pm l d') (fun v hv => by
      obtain ⟨d, x⟩ := v
      obtain ⟨j, rfl, hj, hp⟩ := hv
      have hp : Pm l d := hp
      have en := hp.n
      dsimp only
      unfold xS
      by_cases c : j > 0
      · have e1 : wr ((j : Int) - 1) = ((j - 1 : Nat) : Int) := by rw [pJ (by omega) (by omega)]; omega
        rw [e1, qo (decide_eq_true (by omega)), qo (dix (by omega)), qo (dix (by omega)), get_bind (anr _ _), pI, pI]
        by_cases q : d.f j < d.f (j - 1)
        · rw [qo (decide_eq_true q), qo (dix (by omega)), qo (dix (by omega)), qo (dix (by omega)), qo (dix (by omega))]
          refine ⟨_, rfl, ⟨j - 1, rfl, by omega, hp.swap (a := j - 1) (b := j) (by omega) (by omega) (by omega) rfl fun k => ?_⟩, by dsimp only; omega⟩
          dsimp only
          by_cases k1 : k = j - 1
          · rw [ajw k1, if_pos k1]; rfl
          · rw [ajM k1, if_neg k1]
            by_cases k2 : k = j
            · rw [ajw k2, if_pos k2]; rfl
            · rw [ajM k2, if_neg k2]; rfl
        · rw [qm (decide_eq_false q)]
          exact ⟨_, rfl, _, rfl, hp⟩
      · rw [qm (decide_eq_false (by omega))]
        exact ⟨_, rfl, _, rfl, hp⟩)
    (d, (i : Int)) ⟨i, rfl, hi, h⟩
  obtain ⟨z, hz, y, rfl, g⟩ := key
  exact ⟨y, by rw [XO]; exact hz, g⟩
theorem an8 (l : Sq Int) (hn : l.n ≤ 1000) : ∃ r, Dh l 0 l.n = some r ∧ Pm l r := by
  have key := pY (step := fun v : Int × Sq Int => xL 0 l.n v.1 v.2)
    (fun v => ∃ j : Nat, v.1 = j ∧ 1 ≤ j ∧ Pm l v.2) (fun v => l.n - v.1.toNat) (fun z => ∃ d', z = .inl d' ∧ Pm l d') (fun v hv => by
      obtain ⟨x, d⟩ := v
      obtain ⟨j, rfl, hj, hp⟩ := hv
      dsimp only
      unfold xL
      by_cases c : j < l.n
      · obtain ⟨d', e, h'⟩ := amt hp hn l.n c
        rw [qo (dlt c), pV e, qc (by omega)]
        exact ⟨_, rfl, ⟨j + 1, rfl, by omega, h'⟩, by dsimp only; omega⟩
      · rw [qm (decide_eq_false (by omega))]
        exact ⟨_, rfl, _, rfl, hp⟩)
    (1, l) ⟨1, rfl, by omega, .refl l⟩
  obtain ⟨z, hz, y, rfl, g⟩ := key
  rw [ZF]; unfold BH
  rw [show wr ((0 : Int) + 1) = 1 by decide, pV (by rw [XM]; exact hz)]
  exact ⟨_, rfl, g⟩
set_option maxRecDepth 100000 in
theorem aok (l : Sq Int) (hn : l.n ≤ 12) : ∃ r, NK l = some r ∧ Pm l r := by
  obtain ⟨r, e, h⟩ := an8 l (by omega)
  have eL : ∃ z, WE (IntKind.u64.wrap ((l.n : Nat) : Int)) = some z := by
    have e0 : IntKind.u64.wrap ((l.n : Nat) : Int) = (l.n : Int) := by rw [IntKind.wrap_u64]; omega
    have e1 : IntKind.u8.wrap ((l.n : Nat) : Int) = (l.n : Int) := by rw [IntKind.wrap_u8]; omega
    have e2 : ∃ z, Qp (l.n : Int) = some z := by
      rw [ae3]; unfold Mt
      rw [qm (decide_eq_false (by omega)), qm (decide_eq_false (by omega)), qm (decide_eq_false (by omega)), e1, qo (decide_eq_true ⟨by omega, Int.lt_of_le_of_lt (show ((l.n : Nat) : Int) ≤ 12 by omega) (by decide)⟩)]
      exact ⟨_, rfl⟩
    obtain ⟨z, ez⟩ := e2
    rw [agn, e0]; unfold Qr
    rw [get_bind ez]
    exact ⟨_, rfl⟩
  obtain ⟨z, ez⟩ := eL
  have ep : Ho l 0 l.n z = some r := by
    rw [acW]; unfold Fz
    have k : EN 0 l.n z l = some (.inl r) := by
      rw [abD]
      refine aP (x := .l r) ?_
      unfold BI
      rw [pJ (by omega) (by omega), qo (decide_eq_true (by omega)), get_bind e]; rfl
    rw [pV k]; rfl
  refine ⟨r, ?_, h⟩
  rw [ahQ]; unfold XL
  rw [get_bind ez, get_bind ep]; rfl
structure BB (R : Sq qC) (n : Nat) (S : Int → Prop) (first : Int) (s : Sq Bool) (l : Sq Int) : Prop where
  sn : s.n = n
  d : Dis l
  f : In l first
  v : ∀ v, In l v → 0 ≤ v ∧ v < n ∧ ¬ S v ∧ Conn R first v
  s : ∀ v : Nat, v < n → (s.f v = true ↔ S v ∨ In l v)
theorem BB.le {R : Sq qC} {n : Nat} {S : Int → Prop} {first : Int} {s : Sq Bool} {l : Sq Int} (h : BB R n S first s l) : l.n ≤ n := h.d.le fun v hv => ⟨(h.v v hv).1, (h.v v hv).2.1⟩
theorem BB.add {R : Sq qC} {n : Nat} {S : Int → Prop} {first : Int} {s : Sq Bool} {l : Sq Int} (h : BB R n S first s l) {w : Int} (w0 : 0 ≤ w) (w1 : w < n) (hs : s.f w.toNat = false) (hc : Conn R first w) {s' : Sq Bool} {l' : Sq Int}
    (es : s'.n = s.n) (fs : ∀ k, s'.f k = cond (Nat.beq k w.toNat) true (s.f k)) (el : l'.n = l.n + 1) (fl : ∀ k, l'.f k = if k < l.n then l.f k else w) : BB R n S first s' l' := by
  have hw := h.s w.toNat (by omega)
  rw [hs, show ((w.toNat : Nat) : Int) = w by omega] at hw
  have nS : ¬ S w := fun q => by have := hw.2 (.inl q); cases this
  have nI : ¬ In l w := fun q => by have := hw.2 (.inr q); cases this
  have e1 : ∀ k, k < l.n → l'.f k = l.f k := fun k hk => by rw [fl, if_pos hk]
  have e2 : l'.f l.n = w := by rw [fl, if_neg (Nat.lt_irrefl _)]
  have hin : ∀ v, In l' v ↔ In l v ∨ v = w := fun v => by
    constructor
    · rintro ⟨j, hj, e⟩
      by_cases c : j < l.n
      · exact .inl ⟨j, c, by rw [← e1 j c]; exact e⟩
      · obtain rfl : j = l.n := by omega
        rw [e2] at e; exact .inr e.symm
    · rintro (⟨j, hj, e⟩ | rfl)
      · exact ⟨j, by omega, by rw [e1 j hj]; exact e⟩
      · exact ⟨l.n, by omega, e2⟩
  refine ⟨by rw [es, h.sn], fun i j hi hj e => ?_, (hin _).2 (.inl h.f), fun v hv => ?_, fun v hv => ?_⟩
  · by_cases c1 : i < l.n
    · by_cases c2 : j < l.n
      · rw [e1 i c1, e1 j c2] at e; exact h.d i j c1 c2 e
      · obtain rfl : j = l.n := by omega
        rw [e1 i c1, e2] at e; exact absurd ⟨i, c1, e⟩ nI
    · obtain rfl : i = l.n := by omega
      by_cases c2 : j < l.n
      · rw [e1 j c2, e2] at e; exact absurd ⟨j, c2, e.symm⟩ nI
      · omega
  · rcases (hin v).1 hv with q | rfl
    · exact h.v v q
    · exact ⟨w0, w1, nS, hc⟩
  · rw [fs, hin]
    by_cases c : v = w.toNat
    · rw [ajw c]
      exact ⟨fun _ => .inr (.inr (by omega)), fun _ => rfl⟩
    · rw [ajM c]
      show s.f v = true ↔ _
      rw [h.s v hv]
      exact ⟨fun q => q.imp_right .inl, fun q => q.imp_right fun q => q.resolve_right (by omega)⟩
theorem anB {m : qI} (ok : aja m) {S : Int → Prop} {first u : Int} {rd : Sq Int} (hr : ajA m.Roads u m.Roads.n rd) {i : Nat} {s0 : Sq Bool} {l0 : Sq Int} (hB : BB m.Roads m.Places.n S first s0 l0) (hi : i < l0.n) (hu : l0.f i = u) :
    ∃ y, Zc m.Places m.Roads rd i s0 l0 0 = some (.inl y) ∧ BB m.Roads m.Places.n S first y.1 y.2 ∧ l0.n ≤ y.2.n ∧ (∀ k, k < l0.n → y.2.f k = l0.f k) ∧ (∀ v, s0.f v = true → y.1.f v = true) ∧ ∀ v : Int, Edg m.Roads u v → y.1.f v.toNat = true := by
  have nr := ok.nr
  have np := ok.np
  have hrn := hr.n
  have key := pY (step := fun v : Sq Bool × Sq Int × Int => Mw m.Places m.Roads rd i v.1 v.2.1 v.2.2)
    (fun v => ∃ j : Nat, v.2.2 = j ∧ j ≤ rd.n ∧ BB m.Roads m.Places.n S first v.1 v.2.1 ∧ l0.n ≤ v.2.1.n ∧ (∀ k, k < l0.n → v.2.1.f k = l0.f k) ∧ (∀ w, s0.f w = true → v.1.f w = true) ∧
      ∀ k, k < j → (m.Roads.f (rd.f k).toNat).Closed = false → ∀ w : Int, ((m.Roads.f (rd.f k).toNat).From = u ∧ (m.Roads.f (rd.f k).toNat).To = w) ∨ ((m.Roads.f (rd.f k).toNat).From = w ∧ (m.Roads.f (rd.f k).toNat).To = u) → v.1.f w.toNat = true)
    (fun v => rd.n - v.2.2.toNat)
    (fun z => ∃ y, z = .inl y ∧ BB m.Roads m.Places.n S first y.1 y.2 ∧ l0.n ≤ y.2.n ∧ (∀ k, k < l0.n → y.2.f k = l0.f k) ∧ (∀ v, s0.f v = true → y.1.f v = true) ∧ ∀ v : Int, Edg m.Roads u v → y.1.f v.toNat = true) (fun v hv => by
      obtain ⟨s, l, x⟩ := v
      obtain ⟨j, rfl, hj, b, h1, h2, h3, h4⟩ := hv
      dsimp only at b h1 h2 h3 h4 ⊢
      have bn := b.sn
      have bl := b.le
      unfold Mw
      by_cases c : j < rd.n
      · have hf := hr.f j c
        have hri : (rd.f j).toNat < m.Roads.n := by omega
        obtain ⟨f0, f1, t0, t1, ne⟩ := ai2 ok hri
        have eu : l.f i = u := by rw [h2 i hi]; exact hu
        have eo := akV (m := m) nr hri (pl := u) hf.2.2
        rw [show (((rd.f j).toNat : Nat) : Int) = rd.f j by omega] at eo
        rw [qo (dlt c), qo (dix c), qo (dix (by omega)), pI, pI, eu, get_bind eo, qo (decide_eq_true ⟨by omega, by omega⟩), qc (by omega)]
        have adv : ∀ {s' : Sq Bool} {l' : Sq Int}, BB m.Roads m.Places.n S first s' l' → l0.n ≤ l'.n → (∀ k, k < l0.n → l'.f k = l0.f k) → (∀ w, s.f w = true → s'.f w = true) →
            ((m.Roads.f (rd.f j).toNat).Closed = false → s'.f (if (m.Roads.f (rd.f j).toNat).From = u then (m.Roads.f (rd.f j).toNat).To else (m.Roads.f (rd.f j).toNat).From).toNat = true) →
            ∃ x : Sq Bool × Sq Int × Int, x = (s', l', ((j + 1 : Nat) : Int)) ∧ (∃ j' : Nat, x.2.2 = j' ∧ j' ≤ rd.n ∧ BB m.Roads m.Places.n S first x.1 x.2.1 ∧ l0.n ≤ x.2.1.n ∧ (∀ k, k < l0.n → x.2.1.f k = l0.f k) ∧ (∀ w, s0.f w = true → x.1.f w = true) ∧
              ∀ k, k < j' → (m.Roads.f (rd.f k).toNat).Closed = false → ∀ w : Int, ((m.Roads.f (rd.f k).toNat).From = u ∧ (m.Roads.f (rd.f k).toNat).To = w) ∨ ((m.Roads.f (rd.f k).toNat).From = w ∧ (m.Roads.f (rd.f k).toNat).To = u) → x.1.f w.toNat = true) ∧ rd.n - x.2.2.toNat < rd.n - j := by
          intro s' l' b' n' p' g' q'
          refine ⟨_, rfl, ⟨j + 1, rfl, by omega, b', n', p', fun w hw => g' w (h3 w hw), fun k hk hcl w hw => ?_⟩, by dsimp only; omega⟩
          by_cases ck : k < j
          · exact g' _ (h4 k ck hcl w hw)
          · obtain rfl : k = j := by omega
            have := q' hcl
            rcases hw with ⟨a1, a2⟩ | ⟨a1, a2⟩
            · rw [if_pos a1, a2] at this; exact this
            · rw [if_neg (by omega), a1] at this; exact this
        have hR : 0 ≤ (if (m.Roads.f (rd.f j).toNat).From = u then (m.Roads.f (rd.f j).toNat).To else (m.Roads.f (rd.f j).toNat).From) ∧ (if (m.Roads.f (rd.f j).toNat).From = u then (m.Roads.f (rd.f j).toNat).To else (m.Roads.f (rd.f j).toNat).From) < m.Places.n := by split <;> omega
        have hE : (m.Roads.f (rd.f j).toNat).Closed = false → Edg m.Roads u (if (m.Roads.f (rd.f j).toNat).From = u then (m.Roads.f (rd.f j).toNat).To else (m.Roads.f (rd.f j).toNat).From) := fun hcl => by
          refine ⟨_, hri, hcl, ?_⟩
          split
          · rename_i q; exact .inl ⟨q, rfl⟩
          · rename_i q; exact .inr ⟨rfl, hf.2.2.resolve_left q⟩
        generalize (if (m.Roads.f (rd.f j).toNat).From = u then (m.Roads.f (rd.f j).toNat).To else (m.Roads.f (rd.f j).toNat).From) = o at adv hR hE ⊢
        by_cases cl : (m.Roads.f (rd.f j).toNat).Closed = true
        · rw [qm (by rw [cl]; rfl)]
          obtain ⟨x, rfl, hx⟩ := adv b h1 h2 (fun _ h => h) (fun q => by rw [cl] at q; cases q)
          exact ⟨_, rfl, hx⟩
        · have cl' : (m.Roads.f (rd.f j).toNat).Closed = false := by simpa using cl
          rw [qo (by rw [cl']; rfl), qo (decide_eq_true ⟨hR.1, by omega⟩)]
          by_cases cs : s.f o.toNat = true
          · rw [qm (by rw [cs]; rfl)]
            obtain ⟨x, rfl, hx⟩ := adv b h1 h2 (fun _ h => h) (fun _ => cs)
            exact ⟨_, rfl, hx⟩
          · have cs' : s.f o.toNat = false := by simpa using cs
            rw [qo (by rw [cs']; rfl), qo (decide_eq_true ⟨hR.1, by omega⟩), qo (decide_eq_true ⟨by omega, by omega⟩)]
            have cn : Conn m.Roads first o := (b.v u ⟨i, by omega, eu⟩).2.2.2.edg (hE cl')
            have b' := b.add hR.1 hR.2 cs' cn (s' := ⟨s.n, fun k => cond (Nat.beq k o.toNat) true (s.f k)⟩) (l' := ⟨l.n + 1, fun k => cond (Nat.blt k l.n) (l.f k) o⟩) rfl (fun _ => rfl) rfl (fun _ => ajg _ _ _ _)
            obtain ⟨x, rfl, hx⟩ := adv b' (by dsimp only; omega) (fun k hk => by dsimp only; rw [ajg, if_pos (by omega)]; exact h2 k hk) (fun w hw => by dsimp only; cases hb : Nat.beq w o.toNat <;> simp [hw]) (fun _ => by dsimp only; rw [ajw rfl]; rfl)
            exact ⟨_, rfl, hx⟩
      · obtain rfl : j = rd.n := by omega
        rw [qm (dge (Nat.le_refl _))]
        refine ⟨_, rfl, _, rfl, b, h1, h2, h3, fun w hw => ?_⟩
        obtain ⟨q, q1, q2, q3⟩ := hw
        obtain ⟨k, k1, k2⟩ := hr.c q q1 (q3.elim (fun z => .inl z.1) (fun z => .inr z.2))
        exact h4 k k1 (by rw [k2]; exact q2) w (by rw [k2]; exact q3))
    (s0, l0, 0) ⟨0, rfl, by omega, hB, Nat.le_refl _, fun _ _ => rfl, fun _ h => h, fun k hk => absurd hk (Nat.not_lt_zero _)⟩
  obtain ⟨z, hz, y, rfl, g⟩ := key
  exact ⟨y, by rw [ag1]; exact hz, g⟩
theorem apt {m : qI} (ok : aja m) (h12 : m.Places.n ≤ 12) {S : Int → Prop} (hS : Cl m.Roads S) {first : Int} (f0 : 0 ≤ first) (f1 : first < m.Places.n) (hf : ¬ S first) {s : Sq Bool} (sn : s.n = m.Places.n) (hs : ∀ v : Nat, v < m.Places.n → (s.f v = true ↔ S v)) :
    ∃ l s', ad1 m first s = some (l, s') ∧ s'.n = m.Places.n ∧ Dis l ∧ (∀ v, In l v ↔ 0 ≤ v ∧ v < m.Places.n ∧ Conn m.Roads first v) ∧ ∀ v : Nat, v < m.Places.n → (s'.f v = true ↔ S v ∨ Conn m.Roads first v) := by
  have np := ok.np
  have b0 : BB m.Roads m.Places.n S first ⟨s.n, fun k => cond (Nat.beq k first.toNat) true (s.f k)⟩ ⟨1, fun _ => first⟩ := by
    have hin : ∀ v, In ⟨1, fun _ => first⟩ v ↔ v = first := fun v => ⟨fun ⟨j, _, e⟩ => e.symm, fun e => ⟨0, Nat.one_pos, e.symm⟩⟩
    refine ⟨sn, fun i j hi hj _ => by dsimp only at hi hj; omega, (hin _).2 rfl, fun v hv => ?_, fun v hv => ?_⟩
    · rw [(hin v).1 hv]; exact ⟨f0, f1, hf, .refl _ _⟩
    · dsimp only
      rw [hin]
      by_cases c : v = first.toNat
      · rw [ajw c]; exact ⟨fun _ => .inr (by omega), fun _ => rfl⟩
      · rw [ajM c]
        show s.f v = true ↔ _
        rw [hs v hv]
        exact ⟨.inl, fun q => q.resolve_right (by omega)⟩
  have key := pY (step := fun v : Sq Bool × Sq Int × Int => Mv m.Places m.Roads v.1 v.2.1 v.2.2)
    (fun v => ∃ i : Nat, v.2.2 = i ∧ i ≤ v.2.1.n ∧ BB m.Roads m.Places.n S first v.1 v.2.1 ∧ ∀ k, k < i → ∀ w : Int, Edg m.Roads (v.2.1.f k) w → v.1.f w.toNat = true)
    (fun v => m.Places.n - v.2.2.toNat)
    (fun z => ∃ y, z = .inl y ∧ BB m.Roads m.Places.n S first y.1 y.2 ∧ ∀ k, k < y.2.n → ∀ w : Int, Edg m.Roads (y.2.f k) w → y.1.f w.toNat = true) (fun v hv => by
      obtain ⟨s, l, x⟩ := v
      obtain ⟨i, rfl, hi, b, h⟩ := hv
      dsimp only at hi b h ⊢
      have bl := b.le
      unfold Mv
      by_cases c : i < l.n
      · obtain ⟨rd, er, hr⟩ := akv (m := m) ok.nr (l.f i)
        obtain ⟨y, ey, b', n', p', g', q'⟩ := anB ok hr b c rfl
        rw [qo (dlt c), qo (dix c), pI, get_bind er, pV ey, qc (by omega)]
        refine ⟨_, rfl, ⟨i + 1, rfl, by dsimp only; omega, b', fun k hk w hw => ?_⟩, by dsimp only; omega⟩
        dsimp only at hw ⊢
        rw [p' k (by omega)] at hw
        by_cases ck : k < i
        · exact g' _ (h k ck w hw)
        · obtain rfl : k = i := by omega
          exact q' w hw
      · obtain rfl : i = l.n := by omega
        rw [qm (dge (Nat.le_refl _))]
        exact ⟨_, rfl, _, rfl, b, h⟩)
    (⟨s.n, fun k => cond (Nat.beq k first.toNat) true (s.f k)⟩, ⟨1, fun _ => first⟩, 0) ⟨0, rfl, Nat.zero_le _, b0, fun k hk => absurd hk (Nat.not_lt_zero _)⟩
  obtain ⟨z, hz, y, rfl, b, hy⟩ := key
  have bl := b.le
  have closed : Cl m.Roads (fun v => In y.2 v) := fun u v e hu => by
    obtain ⟨k, hk, rfl⟩ := hu
    have h1 := hy k hk v e
    have hv : 0 ≤ v ∧ v < m.Places.n := by
      obtain ⟨i, i1, i2, i3⟩ := e
      have := ai2 ok i1
      rcases i3 with ⟨_, rfl⟩ | ⟨rfl, _⟩ <;> omega
    have h2 := (b.s v.toNat (by omega)).1 h1
    rw [show ((v.toNat : Nat) : Int) = v by omega] at h2
    rcases h2 with q | q
    · exact absurd (hS _ _ e.symm q) (b.v _ ⟨k, hk, rfl⟩).2.2.1
    · exact q
  have hin : ∀ v, In y.2 v ↔ 0 ≤ v ∧ v < m.Places.n ∧ Conn m.Roads first v := fun v =>
    ⟨fun q => ⟨(b.v v q).1, (b.v v q).2.1, (b.v v q).2.2.2⟩, fun q => q.2.2 _ closed b.f⟩
  obtain ⟨r, er, hr⟩ := aok y.2 (by omega)
  rw [aiz]; unfold aa3
  rw [qo (decide_eq_true ⟨f0, by omega⟩), pV (by rw [ag0]; exact hz)]
  dsimp only [Sum.elim]
  rw [get_bind er]
  refine ⟨r, y.1, rfl, b.sn, hr.d b.d, fun v => by rw [hr.i, hin], fun v hv => ?_⟩
  rw [b.s v hv, hin]
  exact ⟨fun q => q.imp_right fun q => q.2.2, fun q => q.imp_right fun q => ⟨by omega, by omega, q⟩⟩
structure amO (m : qI) (L : Sq (Sq Int)) : Prop where
  d : ∀ i, i < L.n → Dis (L.f i)
  c : ∀ i, i < L.n → ∃ r : Int, 0 ≤ r ∧ r < m.Places.n ∧ ∀ v, In (L.f i) v ↔ 0 ≤ v ∧ v < m.Places.n ∧ Conn m.Roads r v
  u : ∀ i j, i < L.n → j < L.n → ∀ v, In (L.f i) v → In (L.f j) v → i = j
theorem amO.conn {m : qI} {L : Sq (Sq Int)} (h : amO m L) {i : Nat} (hi : i < L.n) {u v : Int} (hu : In (L.f i) u) : In (L.f i) v ↔ 0 ≤ v ∧ v < m.Places.n ∧ Conn m.Roads u v := by
  obtain ⟨r, r0, r1, hr⟩ := h.c i hi
  have a := (hr u).1 hu
  rw [hr v]
  exact ⟨fun q => ⟨q.1, q.2.1, a.2.2.symm.trans q.2.2⟩, fun q => ⟨q.1, q.2.1, a.2.2.trans q.2.2⟩⟩
theorem amO.one {m : qI} {L : Sq (Sq Int)} (h : amO m L) {i : Nat} (hi : i < L.n) : ∃ r, In (L.f i) r := by
  obtain ⟨r, r0, r1, hr⟩ := h.c i hi
  exact ⟨r, (hr r).2 ⟨r0, r1, .refl _ _⟩⟩
theorem aou {m : qI} (ok : aja m) (h12 : m.Places.n ≤ 12) : ∃ L, acI m = some L ∧ amO m L ∧ ∀ v : Nat, v < m.Places.n → ∃ i, i < L.n ∧ In (L.f i) v := by
  have np := ok.np
  have key := pY (step := fun v : Sq (Sq Int) × Sq Bool × Int => KN m.Places m.Roads v.1 v.2.1 v.2.2)
    (fun v => ∃ p : Nat, v.2.2 = p ∧ p ≤ m.Places.n ∧ v.1.n ≤ p ∧ v.2.1.n = m.Places.n ∧ amO m v.1 ∧ (∀ w : Nat, w < m.Places.n → (v.2.1.f w = true ↔ ∃ i, i < v.1.n ∧ In (v.1.f i) w)) ∧ ∀ w : Nat, w < p → v.2.1.f w = true)
    (fun v => m.Places.n - v.2.2.toNat)
    (fun z => ∃ y, z = .inl y ∧ amO m y.1 ∧ ∀ v : Nat, v < m.Places.n → ∃ i, i < y.1.n ∧ In (y.1.f i) v) (fun v hv => by
      obtain ⟨L, s, x⟩ := v
      obtain ⟨p, rfl, hp, hl, hs, P, h1, h2⟩ := hv
      dsimp only at hl hs P h1 h2 ⊢
      unfold KN
      by_cases c : p < m.Places.n
      · rw [qo (dlt c), qo (dix (by omega)), pI, qc (by omega)]
        by_cases cs : s.f p = true
        · rw [qm (by rw [cs]; rfl)]
          refine ⟨_, rfl, ⟨p + 1, rfl, by omega, by dsimp only; omega, hs, P, h1, fun w hw => ?_⟩, by dsimp only; omega⟩
          by_cases cw : w < p
          · exact h2 w cw
          · obtain rfl : w = p := by omega
            exact cs
        · have cs' : s.f p = false := by simpa using cs
          let S : Int → Prop := fun v => ∃ i, i < L.n ∧ In (L.f i) v
          have hS : Cl m.Roads S := fun u v e hu => by
            obtain ⟨i, i1, i2⟩ := hu
            exact ⟨i, i1, (P.conn i1 i2).2 ⟨(e.rng ok).2.1, (e.rng ok).2.2, (Conn.refl _ u).edg e⟩⟩
          have hf : ¬ S (p : Int) := fun q => cs ((h1 p c).2 q)
          obtain ⟨l, s', e, sn', dl, il, sl⟩ := apt ok h12 hS (first := (p : Int)) (by omega) (by omega) hf hs (fun v hv => h1 v hv)
          rw [qo (by rw [cs']; rfl), get_bind e, qo (decide_eq_true ⟨by omega, by omega⟩)]
          have e1 : ∀ k, (Sq.mk (cond (Nat.blt k L.n) (L.f k).n l.n) (fun k1 => cond (Nat.blt k L.n) ((L.f k).f k1) (l.f k1)) : Sq Int) = if k < L.n then L.f k else l := fun k => by
            by_cases h : k < L.n
            · rw [ajf h, if_pos h]; rfl
            · rw [ajl (by omega), if_neg h]; rfl
          have hlp : In l (p : Int) := (il p).2 ⟨by omega, by omega, .refl _ _⟩
          have dj : ∀ i, i < L.n → ∀ v, In (L.f i) v → In l v → False := fun i hi v h3 h4 => by
            have q := ((il v).1 h4).2.2.symm
            exact hf ⟨i, hi, (P.conn hi h3).2 ⟨by omega, by omega, q⟩⟩
          have hin : ∀ w, (∃ i, i < L.n + 1 ∧ In (if i < L.n then L.f i else l) w) ↔ (∃ i, i < L.n ∧ In (L.f i) w) ∨ In l w := fun w => by
            constructor
            · rintro ⟨i, hi, q⟩
              by_cases h : i < L.n
              · rw [if_pos h] at q; exact .inl ⟨i, h, q⟩
              · rw [if_neg h] at q; exact .inr q
            · rintro (⟨i, hi, q⟩ | q)
              · exact ⟨i, by omega, by rw [if_pos hi]; exact q⟩
              · exact ⟨L.n, by omega, by rw [if_neg (Nat.lt_irrefl _)]; exact q⟩
          refine ⟨_, rfl, ⟨p + 1, rfl, by omega, by dsimp only; omega, sn', ⟨fun i hi => ?_, fun i hi => ?_, fun i j hi hj v hv hv' => ?_⟩, fun w hw => ?_, fun w hw => ?_⟩, by dsimp only; omega⟩
          · dsimp only at hi ⊢
            rw [e1]
            split
            · rename_i h; exact P.d i h
            · exact dl
          · dsimp only at hi ⊢
            rw [e1]
            split
            · rename_i h; exact P.c i h
            · exact ⟨p, by omega, by omega, il⟩
          · dsimp only at hi hj hv hv'
            rw [e1] at hv hv'
            by_cases a1 : i < L.n
            · rw [if_pos a1] at hv
              by_cases a2 : j < L.n
              · rw [if_pos a2] at hv'; exact P.u i j a1 a2 v hv hv'
              · rw [if_neg a2] at hv'; exact (dj i a1 v hv hv').elim
            · rw [if_neg a1] at hv
              by_cases a2 : j < L.n
              · rw [if_pos a2] at hv'; exact (dj j a2 v hv' hv).elim
              · omega
          · dsimp only
            rw [sl w hw]
            have : (∃ i, i < L.n + 1 ∧ In (Sq.mk (cond (Nat.blt i L.n) (L.f i).n l.n) (fun k1 => cond (Nat.blt i L.n) ((L.f i).f k1) (l.f k1)) : Sq Int) w) ↔ ∃ i, i < L.n + 1 ∧ In (if i < L.n then L.f i else l) w := ⟨fun ⟨i, a, b⟩ => ⟨i, a, by rw [← e1]; exact b⟩, fun ⟨i, a, b⟩ => ⟨i, a, by rw [e1]; exact b⟩⟩
            rw [this, hin, il w]
            exact ⟨fun q => q.imp_right fun q => ⟨by omega, by omega, q⟩, fun q => q.imp_right fun q => q.2.2⟩
          · dsimp only
            rw [sl w (by omega)]
            by_cases cw : w < p
            · exact .inl ((h1 w (by omega)).1 (h2 w cw))
            · obtain rfl : w = p := by omega
              exact .inr (.refl _ _)
      · obtain rfl : p = m.Places.n := by omega
        rw [qm (dge (Nat.le_refl _))]
        exact ⟨_, rfl, _, rfl, P, fun v hv => (h1 v hv).1 (h2 v hv)⟩)
    (⟨0, fun _ => ⟨0, fun _ => 0⟩⟩, ⟨m.Places.n, fun _ => false⟩, 0) ⟨0, rfl, by omega, Nat.le_refl _, rfl, ⟨fun i hi => absurd hi (Nat.not_lt_zero _), fun i hi => absurd hi (Nat.not_lt_zero _), fun i j hi => absurd hi (Nat.not_lt_zero _)⟩, fun w _ => ⟨fun h => (nomatch h), fun ⟨i, hi, _⟩ => absurd hi (Nat.not_lt_zero _)⟩, fun w hw => absurd hw (Nat.not_lt_zero _)⟩
  obtain ⟨z, hz, y, rfl, g⟩ := key
  have ev : acJ m = some true := by
    rw [ah4]; unfold Y9
    rw [get_bind (akU m), (ajH m).2 ok]; rfl
  rw [ah2]; unfold Y7
  rw [get_bind ev, qm (b := !true) rfl, qo (decide_eq_true ⟨by omega, by omega, by omega, by omega⟩), pI, pV (by rw [agr]; exact hz)]
  exact ⟨_, rfl, g⟩
theorem anl {m : qI} {l : Sq Int} (hn : l.n ≤ 1000) (hl : ∀ v, In l v → 0 ≤ v ∧ v < m.Places.n) : ∃ b, Fu l m = some b ∧ (b = true ↔ ∃ v, In l v ∧ (m.Places.f v.toNat).Surface = true) := by
  have e1 : ∃ z, IC l m = some z ∧ ((z = -1 ∧ ∀ v, In l v → (m.Places.f v.toNat).Surface = false) ∨ (0 ≤ z ∧ ∃ v, In l v ∧ (m.Places.f v.toNat).Surface = true)) := by
    have key := pY (step := fun v : Int => BQ l m.Places m.Roads v)
      (fun v => ∃ j : Nat, v = j ∧ j ≤ l.n ∧ ∀ k, k < j → (m.Places.f (l.f k).toNat).Surface = false) (fun v => l.n - v.toNat)
      (fun z => (z = .inl () ∧ ∀ v, In l v → (m.Places.f v.toNat).Surface = false) ∨ ∃ y : Int, z = .inr y ∧ 0 ≤ y ∧ ∃ v, In l v ∧ (m.Places.f v.toNat).Surface = true) (fun v hv => by
        obtain ⟨j, rfl, hj, h⟩ := hv
        unfold BQ
        by_cases c : j < l.n
        · have b := hl _ ⟨j, c, rfl⟩
          have e : WH (l.f j) ⟨m.Places, m.Roads⟩ = some (m.Places.f (l.f j).toNat).Surface := by
            rw [agq]; unfold Qs
            rw [qo (decide_eq_true b)]; rfl
          rw [qo (dlt c), qo (dix c), pI, get_bind e, qc (by omega)]
          by_cases su : (m.Places.f (l.f j).toNat).Surface = true
          · rw [qo su]; exact ⟨_, rfl, .inr ⟨_, rfl, by omega, _, ⟨j, c, rfl⟩, su⟩⟩
          · rw [qm (by simpa using su)]
            refine ⟨_, rfl, ⟨j + 1, rfl, by omega, fun k hk => ?_⟩, by omega⟩
            by_cases ck : k < j
            · exact h k ck
            · obtain rfl : k = j := by omega
              simpa using su
        · obtain rfl : j = l.n := by omega
          rw [qm (dge (Nat.le_refl _))]
          exact ⟨_, rfl, .inl ⟨rfl, fun v ⟨k, hk, e⟩ => by rw [← e]; exact h k hk⟩⟩)
      0 ⟨0, rfl, by omega, fun k hk => absurd hk (Nat.not_lt_zero _)⟩
    obtain ⟨z, hz, g⟩ := key
    rw [ads]; unfold FZ
    rw [pV (by rw [abM]; exact hz)]
    rcases g with ⟨rfl, g⟩ | ⟨y, rfl, g⟩
    · exact ⟨_, rfl, .inl ⟨rfl, g⟩⟩
    · exact ⟨_, rfl, .inr g⟩
  obtain ⟨z, ez, h⟩ := e1
  rw [abK]; unfold Eb
  rw [get_bind ez]
  refine ⟨_, rfl, ?_⟩
  rw [decide_eq_true_eq]
  rcases h with ⟨rfl, h⟩ | ⟨h0, h⟩
  · exact ⟨fun q => by omega, fun ⟨v, h1, h2⟩ => by rw [h v h1] at h2; cases h2⟩
  · exact ⟨fun _ => h, fun _ => h0⟩
theorem anS {m : qI} (ok : aja m) (h12 : m.Places.n ≤ 12) : ∃ c, Nu m = some c ∧ Dis c ∧ ∀ v, In c v ↔ CutM m v := by
  obtain ⟨L, eL, P, ha⟩ := aou ok h12
  have rng : ∀ i, i < L.n → ∀ v, In (L.f i) v → 0 ≤ v ∧ v < m.Places.n := fun i hi v hv => by
    obtain ⟨r, _, _, hr⟩ := P.c i hi
    have := (hr v).1 hv
    exact ⟨this.1, this.2.1⟩
  have cutP : ∀ i, i < L.n → ∀ v, In (L.f i) v → (CutM m v ↔ ¬ ∃ w, In (L.f i) w ∧ (m.Places.f w.toNat).Surface = true) := fun i hi v hv => by
    constructor
    · rintro ⟨_, _, h⟩ ⟨w, w1, w2⟩
      have := (P.conn hi hv).1 w1
      rw [h w this.1 this.2.1 this.2.2] at w2
      cases w2
    · intro h
      have b := rng i hi v hv
      refine ⟨b.1, b.2, fun w w0 w1 w2 => ?_⟩
      cases hb : (m.Places.f w.toNat).Surface with
      | false => rfl
      | true => exact absurd ⟨w, (P.conn hi hv).2 ⟨w0, w1, w2⟩, hb⟩ h
  have key := pY (step := fun v : Sq Int × Int => JA m.Places m.Roads L v.1 v.2)
    (fun v => ∃ j : Nat, v.2 = j ∧ j ≤ L.n ∧ Dis v.1 ∧ ∀ w, In v.1 w ↔ ∃ i, i < j ∧ In (L.f i) w ∧ CutM m w) (fun v => L.n - v.2.toNat)
    (fun z => ∃ c, z = .inl c ∧ Dis c ∧ ∀ w, In c w ↔ ∃ i, i < L.n ∧ In (L.f i) w ∧ CutM m w) (fun v hv => by
      obtain ⟨c, x⟩ := v
      obtain ⟨j, rfl, hj, hd, hc⟩ := hv
      dsimp only at hd hc ⊢
      have cb : ∀ w, In c w → 0 ≤ w ∧ w < m.Places.n := fun w hw => by obtain ⟨i, i1, i2, i3⟩ := (hc w).1 hw; exact ⟨i3.1, i3.2.1⟩
      have cl := hd.le cb
      have np := ok.np
      unfold JA
      by_cases cj : j < L.n
      · have pl := (P.d j cj).le (rng j cj)
        obtain ⟨b, eb, hb⟩ := anl (m := m) (l := L.f j) (by omega) (rng j cj)
        have hL : L.n ≤ m.Places.n := by
          refine php m.Places.n L.n (fun i => if h : i < L.n then (Classical.choose (P.one h)).toNat else 0) (fun i hi => ?_) (fun i i' hi hi' e => ?_)
          · rw [dif_pos hi]; have := rng i hi _ (Classical.choose_spec (P.one hi)); omega
          · have e := e
            rw [dif_pos hi, dif_pos hi'] at e
            have q1 := Classical.choose_spec (P.one hi)
            have q2 := Classical.choose_spec (P.one hi')
            have r1 := rng i hi _ q1
            have r2 := rng i' hi' _ q2
            exact P.u i i' hi hi' _ q1 (by rw [show Classical.choose (P.one hi) = Classical.choose (P.one hi') by omega]; exact q2)
        rw [qo (dlt cj), qo (dix cj), pI, get_bind (show Fu (L.f j) ⟨m.Places, m.Roads⟩ = some b from eb), qc (by omega)]
        cases b with
        | true =>
          rw [qm (b := !true) rfl]
          refine ⟨_, rfl, ⟨j + 1, rfl, by omega, hd, fun w => ?_⟩, by dsimp only; omega⟩
          rw [hc]
          constructor
          · rintro ⟨i, i1, i2⟩; exact ⟨i, by omega, i2⟩
          · rintro ⟨i, i1, i2, i3⟩
            by_cases ci : i < j
            · exact ⟨i, ci, i2, i3⟩
            · obtain rfl : i = j := by omega
              exact absurd (hb.1 rfl) ((cutP i cj w i2).1 i3)
        | false =>
          have nb : ¬ ∃ w, In (L.f j) w ∧ (m.Places.f w.toNat).Surface = true := fun q => by have := hb.2 q; cases this
          rw [qo (b := !false) rfl, qo (decide_eq_true ⟨by omega, by omega⟩)]
          have hf : ∀ k, cond (Nat.blt k c.n) (c.f k) ((L.f j).f (k - c.n)) = if k < c.n then c.f k else (L.f j).f (k - c.n) := fun k => ajg _ _ _ _
          have hin : ∀ w, In ⟨c.n + (L.f j).n, fun k => cond (Nat.blt k c.n) (c.f k) ((L.f j).f (k - c.n))⟩ w ↔ In c w ∨ In (L.f j) w := fun w => by
            constructor
            · rintro ⟨k, hk, e⟩
              dsimp only at hk e
              rw [hf] at e
              split at e
              · rename_i q; exact .inl ⟨k, q, e⟩
              · exact .inr ⟨k - c.n, by omega, e⟩
            · rintro (⟨k, hk, e⟩ | ⟨k, hk, e⟩)
              · exact ⟨k, by dsimp only; omega, by dsimp only; rw [hf, if_pos hk]; exact e⟩
              · exact ⟨c.n + k, by dsimp only; omega, by dsimp only; rw [hf, if_neg (by omega), show c.n + k - c.n = k by omega]; exact e⟩
          have dj : ∀ w, In c w → In (L.f j) w → False := fun w h1 h2 => by
            obtain ⟨i, i1, i2, _⟩ := (hc w).1 h1
            have := P.u i j (by omega) cj w i2 h2
            omega
          refine ⟨_, rfl, ⟨j + 1, rfl, by omega, fun a b ha hb' e => ?_, fun w => ?_⟩, by dsimp only; omega⟩
          · dsimp only at ha hb' e
            rw [hf, hf] at e
            split at e <;> split at e
            · exact hd a b (by omega) (by omega) e
            · exact (dj _ ⟨a, by omega, rfl⟩ ⟨b - c.n, by omega, e.symm⟩).elim
            · exact (dj _ ⟨b, by omega, rfl⟩ ⟨a - c.n, by omega, e⟩).elim
            · have := P.d j cj (a - c.n) (b - c.n) (by omega) (by omega) e; omega
          · dsimp only
            rw [hin, hc]
            constructor
            · rintro (⟨i, i1, i2⟩ | q)
              · exact ⟨i, by omega, i2⟩
              · exact ⟨j, by omega, q, (cutP j cj w q).2 nb⟩
            · rintro ⟨i, i1, i2, i3⟩
              by_cases ci : i < j
              · exact .inl ⟨i, ci, i2, i3⟩
              · obtain rfl : i = j := by omega
                exact .inr i2
      · obtain rfl : j = L.n := by omega
        rw [qm (dge (Nat.le_refl _))]
        exact ⟨_, rfl, _, rfl, hd, hc⟩)
    (⟨0, fun _ => 0⟩, 0) ⟨0, rfl, by omega, fun i j hi => absurd hi (Nat.not_lt_zero _), fun w => ⟨fun ⟨k, hk, _⟩ => absurd hk (Nat.not_lt_zero _), fun ⟨i, hi, _⟩ => absurd hi (Nat.not_lt_zero _)⟩⟩
  obtain ⟨z, hz, c, rfl, hd, hc⟩ := key
  have hc2 : ∀ v, In c v ↔ CutM m v := fun v => by
    rw [hc]
    exact ⟨fun ⟨i, i1, i2, i3⟩ => i3, fun h => by
      obtain ⟨i, i1, i2⟩ := ha v.toNat (by have := h.1; have := h.2.1; omega)
      exact ⟨i, i1, by rw [show ((v.toNat : Nat) : Int) = v by have := h.1; omega] at i2; exact i2, h⟩⟩
  have cl := hd.le (n := m.Places.n) fun w hw => by have := (hc2 w).1 hw; exact ⟨this.1, this.2.1⟩
  obtain ⟨r, er, hr⟩ := aok c (by omega)
  rw [ahr]; unfold WI
  rw [get_bind eL, pV (by rw [afF]; exact hz)]
  dsimp only [Sum.elim]
  rw [get_bind er]
  exact ⟨r, rfl, hr.d hd, fun v => by rw [hr.i, hc2]⟩
end Go.Proofs.YtimkpfnbkclclaaGreat.Ab
