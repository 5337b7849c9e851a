/- The plain evaluator's operations are right: values, loads, indexes. -/
import Derived.Test.YthkdmemkjojmoaaZC2
namespace Go.Proofs.Ythkdmemkjojmoaa.Ab
open Go

section
variable {w : World} {M : Nat → Prop} {σ : Nat → Value} {V : Nat → Option Nat} {v : Value}
theorem VR.int_inv {k : IntKind} {n : Int} (h : VR w M σ V (.int k n) v) : v = .int k n := by cases h with | pure h => cases h; rfl
theorem VR.bool_inv {b : Bool} (h : VR w M σ V (.bool b) v) : v = .bool b := by cases h with | pure h => cases h; rfl
theorem VR.str_inv {s : ByteArray} (h : VR w M σ V (.str s) v) : v = .string s := by cases h with | pure h => cases h; rfl
theorem VR.void_inv (h : VR w M σ V .void v) : v = Go.undef := by cases h with | void => rfl | pure h => cases h
theorem VR.agg_inv {cs : List AV} (h : VR w M σ V (.agg cs) v) : ∃ vs : Array Value, v = .agg vs ∧ vs.size = cs.length ∧ ∀ j, j < cs.length → VR w M σ V (cs.getD j .undef) (vs.getD j Go.undef) := by
  cases h with
  | pure h => cases h
  | agg cs vs hl h => exact ⟨vs, rfl, hl, h⟩
theorem VR.tup_inv {cs : List AV} (h : VR w M σ V (.tup cs) v) : ∃ vs : Array Value, v = .tuple vs ∧ vs.size = cs.length ∧ ∀ j, j < cs.length → VR w M σ V (cs.getD j .undef) (vs.getD j Go.undef) := by
  cases h with
  | pure h => cases h
  | tup cs vs hl h => exact ⟨vs, rfl, hl, h⟩
theorem VR.fn_inv {f : FuncId} {cs : List AV} (h : VR w M σ V (.fn f cs) v) : ∃ vs : Array Value, v = .func (.func f) #[] vs ∧ vs.size = cs.length ∧ ∀ j, j < cs.length → VR w M σ V (cs.getD j .undef) (vs.getD j Go.undef) := by
  cases h with
  | pure h => cases h
  | fn f cs vs hl h => exact ⟨vs, rfl, hl, h⟩
theorem VR.ptr_inv {id off : Nat} (h : VR w M σ V (.ptr id off) v) : ∃ g, σ id = .pointer (some ⟨g, 0, none⟩) ∧ v = .pointer (some ⟨g, off, none⟩) ∧ ∃ m, V id = some m := by
  cases h with
  | pure h => cases h
  | ptr id off g m hV h => exact ⟨g, h, rfl, m, hV⟩
theorem VR.own_inv {id ver : Nat} (h : VR w M σ V (.own id ver) v) (hV : V id = some ver) : v = σ id := by
  cases h with
  | pure h => cases h
  | own id ver m v h1 hV' hm h => rw [hV] at hV'; injection hV' with e; exact h e
theorem VR.rptr_inv {id ver sz k off : Nat} (h : VR w M σ V (.rptr id ver sz k off) v) (hV : V id = some ver) : ∃ g n cap, σ id = .slice (some ⟨g, 0, none⟩) n cap ∧ k < n ∧ v = .pointer (some ⟨g, k * sz + off, none⟩) := by
  cases h with
  | pure h => cases h
  | rptr id ver sz k off m g b hV' hm h =>
    rw [hV] at hV'; injection hV' with e
    obtain ⟨n, cap, e1, e2, e3⟩ := h e
    exact ⟨g, n, cap, e1, e2, by rw [e3]⟩
theorem VR.lptr_inv {id ver off : Nat} (h : VR w M σ V (.lptr id ver off) v) (hV : V id = some ver) : ∃ g n cap, σ id = .slice (some ⟨g, 0, none⟩) n cap ∧ v = .pointer (some ⟨g, off, none⟩) := by
  cases h with
  | pure h => cases h
  | lptr id ver off m g hV' hm h =>
    rw [hV] at hV'; injection hV' with e
    obtain ⟨n, cap, e1⟩ := h e
    exact ⟨g, n, cap, e1, rfl⟩
theorem VR.slc_inv {sz n : Nat} {f : Nat → List AV} (h : VR w M σ V (.slc sz n f) v) : PR w M (.slc sz n f) v := by
  cases h with
  | pure h => exact h
theorem VR.pptr_inv {cs : List AV} {off : Nat} (h : VR w M σ V (.pptr cs off) v) : ∃ (g o : Nat) (us : Nat → Value), v = .pointer (some ⟨g, o + off, none⟩) ∧ (∀ j, j < cs.length → ¬ M g ∧ w.cell? ⟨g, o + j, none⟩ = some (us j) ∧ (us j).oneCell' = true) ∧
    ∀ j, j < cs.length → PR w M (cs.getD j .undef) (us j) := by
  cases h with
  | pure h => cases h
  | pptr cs off g o us hg hp => exact ⟨g, o, us, rfl, hg, hp⟩
/-- The length that a slice shows. -/
theorem PR.slc_len {sz n : Nat} {f : Nat → List AV} (h : PR w M (.slc sz n f) v) : ∃ a cap, v = .slice a n cap ∧ n ≤ cap ∧ cap ≤ maxLen := by
  cases h with
  | slc0 sz f v h =>
    rcases h with rfl | ⟨a, cap, rfl, hm⟩
    · exact ⟨none, 0, rfl, Nat.le_refl _, Nat.zero_le _⟩
    · exact ⟨some a, cap, rfl, Nat.zero_le _, hm⟩
  | slc sz n f g off cap us hn hc hm hl hg hp => exact ⟨_, cap, rfl, hc, hm⟩
theorem VR.one {x : AV} (h : VR w M σ V x v) (h1 : x.one = true) : v.oneCell' = true := by
  cases h with
  | pure h =>
    cases h with
    | undef v => simp [AV.one] at h1
    | raw v => simp [AV.one] at h1
    | slc0 sz f v h => rcases h with rfl | ⟨a, cap, rfl, _⟩ <;> rfl
    | any1 v h => exact h
    | _ => rfl
  | void => simp [AV.one] at h1
  | own id ver m v hone _ _ _ => exact hone
  | agg => simp [AV.one] at h1
  | tup => simp [AV.one] at h1
  | _ => rfl
end

theorem ver_of {H : Nat → Option Blk} {id : Nat} {b : Blk} (h : H id = some b) : Ver H id = some b.ver := by simp [Ver, h]
theorem const_rel {w : World} {M : Nat → Prop} {σ : Nat → Value} {V : Nat → Option Nat} (v : Value) : VR w M σ V (constAV v) v := by
  refine .pure ?_
  unfold constAV
  split
  · exact .bool _
  · exact .int _ _
  · exact .str _
  · exact .nilp
  · exact .slc0 _ _ _ (.inl rfl)
  · exact .raw _

/-- What a reading of blocks leads to, is right. -/
def Good (P : Program) (F : Fr) (H : Nat → Option Blk) (σ : Nat → Value) (o : Oper) (a : Act) (w : World) (c : Nat) (m : LM EffG) : Prop :=
  ∀ rd g x, m.run H = some (rd, g) → g.req = true → g.get = some x → (g.eff x).news.length ≤ 64 → EffOK P F H σ o a w c (g.eff x)
section
variable {P : Program} {F : Fr} {H : Nat → Option Blk} {σ : Nat → Value} {o : Oper} {a : Act} {w : World} {c : Nat}
theorem Good.fail : Good P F H σ o a w c .fail := fun _ _ _ h _ _ _ => (run_fail h).elim
theorem Good.look {id : Nat} {k : Blk → LM EffG} (h : ∀ b, H id = some b → Good P F H σ o a w c (k b)) : Good P F H σ o a w c (.look id k) := by
  intro rd g x hr hq hg hl
  obtain ⟨b, rd', hb, hk⟩ := run_look hr
  exact h b hb rd' g x hk hq hg hl
theorem Good.case {b : Bool} {x y : LM EffG} (hx : b = true → Good P F H σ o a w c x) (hy : b = false → Good P F H σ o a w c y) : Good P F H σ o a w c (.case b x y) := by
  intro rd g z hr hq hg hl
  rcases run_case hr with ⟨h1, h2⟩ | ⟨h1, h2⟩
  · exact hx h1 rd g z h2 hq hg hl
  · exact hy h1 rd g z h2 hq hg hl
theorem Good.ret64 {e : EffG} (h : ∀ x, e.req = true → e.get = some x → (e.eff x).news.length ≤ 64 → EffOK P F H σ o a w c (e.eff x)) : Good P F H σ o a w c (.ret e) := by
  intro rd g x hr hq hg hl
  obtain rfl := run_ret hr
  exact h x hq hg hl
theorem Good.ret {e : EffG} (h : ∀ x, e.req = true → e.get = some x → EffOK P F H σ o a w c (e.eff x)) : Good P F H σ o a w c (.ret e) := .ret64 fun x hq hg _ => h x hq hg
theorem Good.val {x : AV} (rel : RelH F H σ w) (v : Value) (hrun : (execOp a.eval o).run P w = .ok (.value v) w) (hv : VR w (Mut F H σ) σ (Ver H) x v) : Good P F H σ o a w c (.ret (.val x)) :=
  .ret fun _ _ _ => .quiet rel v hrun hv
theorem Good.when {b : Bool} {x : AV} (rel : RelH F H σ w) (h : b = true → ∃ v, (execOp a.eval o).run P w = .ok (.value v) w ∧ VR w (Mut F H σ) σ (Ver H) x v) : Good P F H σ o a w c (.ret (.when b x)) :=
  .ret fun _ hb _ => by
    obtain ⟨v, h1, h2⟩ := h hb
    exact .quiet rel v h1 h2

theorem ok_aload {T : TypeId} {x : Operand} {ti : TI} (ho : o.op = .load T x) (ht : ttOf P T = some ti) (rel : RelH F H σ w) {y : AV} (hx : VR w (Mut F H σ) σ (Ver H) y (a.eval x)) :
    Good P F H σ o a w c (aload ti y) := by
  have hrun : ∀ v, (Instr.loadAt T (a.eval x)).run P w = .ok v w → (execOp a.eval o).run P w = .ok (.value v) w := fun v h => run_v (by simp [execOp, ho]) h
  cases y with
  | ptr id off =>
    refine .look fun b hb => ?_
    cases b with
    | var cells =>
      obtain ⟨g, hg, he, _⟩ := hx.ptr_inv
      obtain ⟨g', T', vs, h1, h2, h3, h4⟩ := (rel.bl id _ hb).var_cells
      rw [hg] at h1
      injection h1 with h1; injection h1 with h1; injection h1 with h1
      subst h1
      cases hp : apart ti cells off with
      | none => simp only [hp]; exact .fail
      | some v =>
        simp only [hp]
        obtain ⟨u, e1, e2⟩ := apart_rel (P := P) ht hp g 0 (fun j => vs.getD j Go.undef) (fun j hj => ⟨by rw [Nat.zero_add]; exact (h4 j hj).1, (h4 j hj).2.1⟩)
        exact .val rel u (hrun u (by rw [he]; rw [Nat.zero_add] at e1; exact e1)) e2
    | _ => exact .fail
  | rptr id ver sz k off =>
    refine .look fun b hb => ?_
    cases b with
    | row ver' sz' n e f =>
      cases hv : Nat.beq ver ver' && Nat.beq sz sz' with
      | false => simp only [hv]; exact .fail
      | true =>
        simp only [Bool.and_eq_true] at hv
        obtain rfl := Nat.eq_of_beq_eq_true hv.1
        obtain rfl := Nat.eq_of_beq_eq_true hv.2
        obtain ⟨g, n', cap, hg, hk, he⟩ := hx.rptr_inv (ver_of hb)
        obtain ⟨h0, h2, xs, h1, h3, h4⟩ := (rel.bl id _ hb).row_cells
        have hn : n' = n := by
          rcases h1.2 with ⟨h, _⟩ | ⟨g1, cap1, cur1, e1, _⟩
          · rw [hg] at h; cases h
          · rw [hg] at e1; injection e1
        subst hn
        obtain ⟨g1, cap1, cur1, e1, e2, e3, e4, e5, e6, e7⟩ := h4 (by omega)
        rw [hg] at e1
        injection e1 with e1; injection e1 with e1; injection e1 with e1
        subst e1
        simp only [hv.1, hv.2, Bool.and_self]
        cases hb2 : Nat.ble (off + ti.size) sz with
        | false => exact .fail
        | true =>
          have hle : off + ti.size ≤ sz := Nat.le_of_ble_eq_true hb2
          obtain ⟨l1, l2⟩ := load_cells (P := P) (w := w) ht g (k * sz + off) (fun j => xs.getD (k * sz + (off + j)) Go.undef) (fun j hj => by rw [Nat.add_assoc]; exact e7 k (off + j) hk (by omega))
          cases hg2 : ti.agg with
          | true =>
            dsimp only
            refine .val rel _ (hrun _ (by rw [he]; exact l1 hg2)) (.agg _ _ (by simp [h2 k hk]; omega) fun j hj => ?_)
            have hj' : j < ti.size := by simp at hj; omega
            have e1 : (((f k).drop off).take ti.size).getD j .undef = (f k).getD (off + j) .undef := by
              simp [List.getD_eq_getElem?_getD, hj', List.getElem?_drop]
            have e2 : ((List.range ti.size).map fun j => xs.getD (k * sz + (off + j)) Go.undef).toArray.getD j Go.undef = xs.getD (k * sz + (off + j)) Go.undef := by simp [hj']
            rw [e1, e2]
            exact .pure (h3 k (off + j) hk (by omega)).1
          | false =>
            cases h1' : Nat.beq ti.size 1 with
            | false => exact .fail
            | true =>
              have hs : ti.size = 1 := Nat.eq_of_beq_eq_true h1'
              exact .val rel _ (hrun _ (by rw [he]; exact l2 hg2 hs)) (.pure (h3 k off hk (by omega)).1)
    | _ => exact .fail
  | pptr cs off =>
    unfold aload
    obtain ⟨g, o', us, he, hg, hp⟩ := hx.pptr_inv
    cases hp2 : apart ti cs off with
    | none => simp only [hp2]; exact .fail
    | some v =>
      simp only [hp2]
      obtain ⟨u, e1, e2⟩ := apart_rel (P := P) (V := Ver H) (σ := σ) ht hp2 g o' us (fun j hj => ⟨(hg j hj).2.1, .pure (hp j hj)⟩)
      exact .val rel u (hrun u (by rw [he]; exact e1)) e2
  | lptr id ver off =>
    refine .look fun b hb => ?_
    cases b with
    | lrow ver' sz n e cells =>
      cases hv : Nat.beq ver ver' with
      | false => simp only [hv]; exact .fail
      | true =>
        obtain rfl := Nat.eq_of_beq_eq_true hv
        simp only [hv]
        obtain ⟨g, n', cap, hg, he⟩ := hx.lptr_inv (ver_of hb)
        obtain ⟨h0, h0', hl, g1, cap1, cur, xs, k1, k2, k3, k4, k5, k6, k7, k8⟩ := (rel.bl id _ hb).lrow_cells
        rw [hg] at k2
        injection k2 with k2; injection k2 with k2; injection k2 with k2
        subst k2
        cases hp : apart ti cells off with
        | none => exact .fail
        | some v =>
          dsimp only
          obtain ⟨u, e1, e2⟩ := apart_rel (P := P) ht hp g 0 (fun j => xs.getD j Go.undef) (fun j hj => ⟨by rw [Nat.zero_add]; exact (k8 j (by omega)).1, (k8 j (by omega)).2.1⟩)
          exact .val rel u (hrun u (by rw [he]; rw [Nat.zero_add] at e1; exact e1)) e2
    | _ => exact .fail
  | _ => exact .fail

theorem apick_rel {M : Nat → Prop} {V : Nat → Option Nat} {t : Bool} {x y : AV} {u v : Value} (hx : VR w M σ V x u) (hy : VR w M σ V y v) : VR w M σ V (apick t x y) (if t then u else v) := by
  rw [apick_eq]
  cases t
  · exact hy
  · exact hx

theorem ok_index {T : TypeId} {x i : Operand} {e : TypeId} {ei : TI} (ho : o.op = .indexAddr T x i) (ht : elemOf? (ttOf P) T = some (e, ei)) (rel : RelH F H σ w) {y : AV} {k : IntKind} {j : Int}
    (hx : VR w (Mut F H σ) σ (Ver H) y (a.eval x)) (hi : a.eval i = .int k j) :
    (∀ sz n f, y = .slc sz n f → sz = ei.size → Good P F H σ o a w c (.ret (.when (decide (0 ≤ j ∧ j < n)) (.pptr (f j.toNat) 0)))) ∧
    (∀ id ver sz n f, y = .own id ver → H id = some (.row ver sz n e f) → sz = ei.size → Good P F H σ o a w c (.ret (.when (decide (0 ≤ j ∧ j < n)) (.rptr id ver sz j.toNat 0)))) ∧
    (∀ id ver sz n e' f, y = .own id ver → H id = some (.row ver sz n e' f) → sz = ei.size → Good P F H σ o a w c (.ret (.when (decide (0 ≤ j ∧ j < n)) (.rptr id ver sz j.toNat 0)))) ∧
    (∀ id ver sz n e' cells, y = .own id ver → H id = some (.lrow ver sz n e' cells) → sz = ei.size → Good P F H σ o a w c (idxL id ver sz j n 0)) := by
  obtain ⟨hu, he, hsz⟩ := elem_info ht
  obtain ⟨inf, d, z, h1, h2, h3, h4, _⟩ := tt_info he
  have hs : ei.size = inf.size := by rw [h4]
  have hrun : ∀ g off n cap, a.eval x = .slice (some ⟨g, off, none⟩) n cap → 0 ≤ j ∧ j < n → (execOp a.eval o).run P w = .ok (.value (.pointer (some ⟨g, off + j.toNat * ei.size, none⟩))) w := by
    intro g off n cap hv hj
    refine run_v (s := Instr.indexAt T (a.eval x) (a.eval i)) (by simp [execOp, ho]) ?_
    rw [hv, hi]
    simp [Instr.indexAt, asIntOf, run_underlying hu, hj, run_sizeOf h1, ← hs, Addr.add_mid]
  have rowcase : ∀ id ver sz n e' f, y = .own id ver → H id = some (.row ver sz n e' f) → sz = ei.size → Good P F H σ o a w c (.ret (.when (decide (0 ≤ j ∧ j < n)) (.rptr id ver sz j.toNat 0))) := by
    intro id ver sz n e' f hy hb hse
    subst hy
    have hv := hx.own_inv (ver_of hb)
    obtain ⟨g0, g2, xs, g1, g3, g4⟩ := (rel.bl id _ hb).row_cells
    refine .when rel fun hj => ?_
    have hj := of_decide_eq_true hj
    obtain ⟨g, cap, cur, e1, e2, e3, e4, e5, e6, e7⟩ := g4 (by omega)
    refine ⟨_, hrun g 0 n cap (by rw [hv, e1]) hj, ?_⟩
    have := VR.rptr (w := w) (M := Mut F H σ) (σ := σ) (V := Ver H) id ver sz j.toNat 0 ver g (0 + j.toNat * ei.size) (ver_of hb) (Nat.le_refl _) fun _ => ⟨n, cap, e1, by omega, by rw [hse, Nat.zero_add]⟩
    rw [Nat.add_zero] at this
    exact this
  have lcase : ∀ id ver sz n e' cells, y = .own id ver → H id = some (.lrow ver sz n e' cells) → sz = ei.size → Good P F H σ o a w c (idxL id ver sz j n 0) := by
    intro id ver sz n e' cells hy hb hse
    subst hy
    have hv := hx.own_inv (ver_of hb)
    obtain ⟨g0, g0', gl, g, cap, cur, xs, k1, k2, k3, k4, k5, k6, k7, k8⟩ := (rel.bl id _ hb).lrow_cells
    have go : ∀ m k, m + k = n → Good P F H σ o a w c (idxL id ver sz j m k) := by
      intro m
      induction m with
      | zero => intro k _; exact .fail
      | succ m ih =>
        intro k hk
        unfold idxL
        refine .case (fun hd => ?_) fun _ => ih (k + 1) (by omega)
        · have hd := of_decide_eq_true hd
          have hjk : j.toNat = k := by omega
          refine .val rel _ (hrun g 0 n cap (by rw [hv, k2]) (by omega)) ?_
          rw [hjk, Nat.zero_add, ← hse]
          exact .lptr id ver (k * sz) ver g (ver_of hb) (Nat.le_refl _) fun _ => ⟨n, cap, k2⟩
    exact go n 0 rfl
  refine ⟨fun sz n f hy hse => ?_, fun id ver sz n f hy hb hse => rowcase id ver sz n e f hy hb hse, rowcase, lcase⟩
  subst hy
  refine .when rel fun hj => ?_
  have hj := of_decide_eq_true hj
  have hp := hx.slc_inv
  generalize hv : a.eval x = v at hp
  cases hp with
  | slc0 sz f v h => omega
  | slc sz n f g off cap us hn hc hm hl hg hp =>
    have hk : j.toNat < n := by omega
    refine ⟨_, hrun g off n cap hv hj, ?_⟩
    have := VR.pptr (w := w) (M := Mut F H σ) (σ := σ) (V := Ver H) (f j.toNat) 0 g (off + j.toNat * sz) (fun i => us j.toNat i)
      (fun i hi => by rw [hl _ hk] at hi; rw [Nat.add_assoc]; exact hg _ i hk hi) (fun i hi => by rw [hl _ hk] at hi; exact hp _ i hk hi)
    rw [hse, Nat.add_zero] at this
    exact this
end
end Go.Proofs.Ythkdmemkjojmoaa.Ab
