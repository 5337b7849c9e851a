/- The plain evaluator: code is right. -/
import Derived.Test.YthkdmemkjojmoaaZD7
import Derived.LoopN
namespace Go.Proofs.Ythkdmemkjojmoaa.Ab
open Go

def AX.out : AX → Exit
  | .normal => .normal
  | .exit id => .exit id
  | .ret => .ret
structure RelS (F : Fr) (nt : Nat) (st : St) (σ : Nat → Value) (a : Act) (w : World) : Prop where
  ra : RelA F nt (aget st.tm) (hget st.hp) σ a w
  lt : ∀ id, hget st.hp id ≠ none → id < st.c
  mc : F.mm ≤ st.c
section
variable {P : Program} {F : Fr} {nt : Nat}
theorem RelA.draw {T : Nat → AV} {H : Nat → Option Blk} {σ : Nat → Value} {a : Act} {w : World} (R : RelA F nt T H σ a w) (n : Nat) : RelA F nt T H σ a { w with drawn := n } := by
  have G := Grow.draw w (Mut F H σ) σ (Ver H) n
  refine ⟨⟨R.rel.os, R.rel.tape, R.rel.output, R.rel.size, R.rel.old, fun id b h => (R.rel.bl id b h).grow G rfl (fun _ _ _ _ => rfl), R.rel.ds, R.rel.new, R.rel.mxl⟩, fun t => (R.tm t).grow G, R.df, R.sz, R.pt, R.kp⟩
theorem region_ok {R : Type} {E : Env} (hE : E.tt = ttOf P) (hP : POK P) (hfs : ∀ f, Tells P f (E.fs f)) {ops : Array Oper} {draw : Bool} {id : Nat} {st : St} {k : St → Option R} {r : R} (h : aregion E ops draw st k = some r) :
    ∃ st', k st' = some r ∧ st.c ≤ st'.c ∧ ∀ σ a w (Q : Exit → Act → World → Prop), RelS F E.nt st σ a w → (∀ a' w' σ', RelS F E.nt st' σ' a' w' → Q .normal a' w') → (Code.region id ops draw).wp P Q a w := by
  unfold aregion at h
  obtain ⟨rs, st1, h1, h2, h3, h4, h5⟩ := aops_spec (F := F) (c0 := st.c) hE hP hfs ops.toList 0 st [] rfl (Nat.zero_le _) (show aops E ops ops.toList (st.c + 64 * 0) st [] _ = some r from h)
  have hlen : rs.length = ops.size := by simpa using h5
  rw [List.nil_append] at h1
  have fin : ∀ σ a w (Q : Exit → Act → World → Prop), (∀ a' w' σ', RelS F E.nt ⟨st1.tm, st1.hp, st.c + 64 * ops.size⟩ σ' a' w' → Q .normal a' w') → RelS F E.nt st σ a w →
      ∀ a' w' σ', RelA F E.nt (endT (aget st.tm) rs) (endH (hget st.hp) rs) σ' a' w' → (∀ id, endH (hget st.hp) rs id ≠ none → id < st.c + 64 * ops.size) → Q .normal a' w' := by
    intro σ a w Q hQ R0 a' w' σ' R' hl
    refine hQ a' w' σ' ⟨by dsimp only; rw [h3, h4]; exact R', by dsimp only; rw [h4]; exact hl, ?_⟩
    have := R0.mc
    dsimp only
    omega
  cases draw with
  | false =>
    refine ⟨_, h1, Nat.le_add_right _ _, fun σ a w Q R0 hQ => ?_⟩
    refine wp_region ?_
    have := seq_ok (Q := Q) rs 0 _ _ σ a w h2 R0.ra (fun id hid => by have := R0.lt id hid; omega) (fin σ a w Q hQ R0)
    rw [hlen] at this
    rw [List.range_eq_range']
    exact this
  | true =>
    dsimp only at h1
    cases hok : okAny ops rs with
    | false => simp [hok] at h1
    | true =>
      simp only [hok] at h1
      refine ⟨_, h1, Nat.le_add_right _ _, fun σ a w Q R0 hQ => ?_⟩
      refine wp_region_any hP.mixed ?_
      exact any_ok h2 hok (fun id hid => R0.lt id hid) (fin σ a w Q hQ R0) (R0.ra.draw _)

/-! ### Ahead of a region -/
mutual
theorem AV.fz_rel {w : World} {M M' : Nat → Prop} {σ : Nat → Value} {V V' : Nat → Option Nat} {i v sz n : Nat} {f : Nat → List AV} (hs : PR w M' (.slc sz n f) (σ i)) (hv : V i = some v)
    (hg : ∀ {x u}, VR w M σ V x u → VR w M' σ V' x u) : ∀ (x : AV) (u : Value), VR w M σ V x u → VR w M' σ V' (AV.fz i v sz n f x) u
  | .own id ver, u, h => by
    unfold AV.fz
    cases hb : Nat.beq id i && Nat.beq ver v with
    | false => exact hg h
    | true =>
      simp only [Bool.and_eq_true] at hb
      obtain rfl := Nat.eq_of_beq_eq_true hb.1
      obtain rfl := Nat.eq_of_beq_eq_true hb.2
      rw [h.own_inv hv]
      exact .pure hs
  | .agg cs, u, h => by
    obtain ⟨us, rfl, u2, u3⟩ := h.agg_inv
    unfold AV.fz
    exact .agg _ us (by rw [AV.fzL_len]; exact u2) fun j hj => AV.fzL_rel hs hv hg cs (fun j => us.getD j Go.undef) (fun j hj => u3 j hj) j (by rw [AV.fzL_len] at hj; exact hj)
  | .tup cs, u, h => by
    obtain ⟨us, rfl, u2, u3⟩ := h.tup_inv
    unfold AV.fz
    exact .tup _ us (by rw [AV.fzL_len]; exact u2) fun j hj => AV.fzL_rel hs hv hg cs (fun j => us.getD j Go.undef) (fun j hj => u3 j hj) j (by rw [AV.fzL_len] at hj; exact hj)
  | .fn g cs, u, h => by
    unfold AV.fz
    cases h with
    | pure h => cases h
    | fn _ _ us u2 u3 => exact .fn _ _ us (by rw [AV.fzL_len]; exact u2) fun j hj => AV.fzL_rel hs hv hg cs (fun j => us.getD j Go.undef) (fun j hj => u3 j hj) j (by rw [AV.fzL_len] at hj; exact hj)
  | .undef, u, h => by unfold AV.fz; exact hg h
  | .void, u, h => by unfold AV.fz; exact hg h
  | .bool b, u, h => by unfold AV.fz; exact hg h
  | .int k n, u, h => by unfold AV.fz; exact hg h
  | .str s, u, h => by unfold AV.fz; exact hg h
  | .nilp, u, h => by unfold AV.fz; exact hg h
  | .any1, u, h => by unfold AV.fz; exact hg h
  | .raw v, u, h => by unfold AV.fz; exact hg h
  | .slc sz n f, u, h => by unfold AV.fz; exact hg h
  | .ptr id off, u, h => by unfold AV.fz; exact hg h
  | .rptr id ver sz k off, u, h => by unfold AV.fz; exact hg h
  | .pptr cs off, u, h => by unfold AV.fz; exact hg h
  | .lptr id ver off, u, h => by unfold AV.fz; exact hg h
theorem AV.fzL_rel {w : World} {M M' : Nat → Prop} {σ : Nat → Value} {V V' : Nat → Option Nat} {i v sz n : Nat} {f : Nat → List AV} (hs : PR w M' (.slc sz n f) (σ i)) (hv : V i = some v)
    (hg : ∀ {x u}, VR w M σ V x u → VR w M' σ V' x u) : ∀ (xs : List AV) (u : Nat → Value), (∀ j, j < xs.length → VR w M σ V (xs.getD j .undef) (u j)) → ∀ j, j < xs.length → VR w M' σ V' ((AV.fzL i v sz n f xs).getD j .undef) (u j)
  | [], u, h, j, hj => by simp at hj
  | x :: xs, u, h, 0, hj => by
    unfold AV.fzL
    exact AV.fz_rel hs hv hg x (u 0) (by simpa using h 0 (by simp))
  | x :: xs, u, h, j + 1, hj => by
    unfold AV.fzL
    have := AV.fzL_rel hs hv hg xs (fun j => u (j + 1)) (fun j hj => by simpa using h (j + 1) (by simpa using hj)) j (by simpa using hj)
    simpa using this
theorem AV.fzL_len {i v sz n : Nat} {f : Nat → List AV} : ∀ xs : List AV, (AV.fzL i v sz n f xs).length = xs.length
  | [] => by unfold AV.fzL; rfl
  | x :: xs => by unfold AV.fzL; rw [List.length_cons, List.length_cons, AV.fzL_len xs]
end
theorem aget_fzTm {i v sz n : Nat} {f : Nat → List AV} (tm : List (Nat × AV)) (j : Nat) : aget (fzTm i v sz n f tm) j = (aget tm j).fz i v sz n f := by
  induction tm with
  | nil => show AV.undef = AV.fz i v sz n f .undef; unfold AV.fz; rfl
  | cons p tm ih =>
    obtain ⟨t, x⟩ := p
    simp only [fzTm, aget]
    cases Nat.beq t j with
    | true => rfl
    | false => exact ih
theorem hget_fzHp {i v sz n : Nat} {f : Nat → List AV} (h : List (Nat × Blk)) (id : Nat) : hget (fzHp i v sz n f h) id = (hget h id).map (Blk.fz i v sz n f) := by
  induction h with
  | nil => rfl
  | cons p h ih =>
    obtain ⟨t, x⟩ := p
    simp only [fzHp, hget]
    cases Nat.beq t id with
    | true => rfl
    | false => exact ih
theorem Blk.fz_ver {i v sz n : Nat} {f : Nat → List AV} (b : Blk) : (b.fz i v sz n f).ver = b.ver := by cases b <;> rfl
theorem Blk.fz_live {i v sz n : Nat} {f : Nat → List AV} (b : Blk) : (b.fz i v sz n f).live ↔ b.live := by cases b <;> exact Iff.rfl
/-- An own slice is given up, wherever it stands. -/
theorem freeze_ok {st : St} {σ : Nat → Value} {a : Act} {w : World} {i v sz n : Nat} {f : Nat → List AV} {b0 : Blk} (hb : hget st.hp i = some b0) (hv : b0.ver = v) (hl : b0.live) (hnp : ∀ g, σ i ≠ .pointer (some g))
    (hs : ∀ M', (∀ g, M' g → Mut F (hget st.hp) σ g) → (∀ g, blkOf (σ i) = some g → ¬ M' g) → PR w M' (.slc sz n f) (σ i)) (R : RelS F nt st σ a w) :
    RelS F nt ⟨fzTm i v sz n f st.tm, hset (fzHp i v sz n f st.hp) i (.dead (v + 1)), st.c⟩ σ a w := by
  have rel := R.ra.rel
  have hH : ∀ id, hget (hset (fzHp i v sz n f st.hp) i (.dead (v + 1))) id = if id = i then some (.dead (v + 1)) else (hget st.hp id).map (Blk.fz i v sz n f) := by
    intro id
    rw [hget_hset]
    unfold upd
    rw [hget_fzHp]
  have hM : ∀ g, Mut F (hget (hset (fzHp i v sz n f st.hp) i (.dead (v + 1)))) σ g → Mut F (hget st.hp) σ g ∧ blkOf (σ i) ≠ some g := by
    rintro g (h | ⟨id, b', h1, h2, h3⟩)
    · exact ⟨.inl h, fun e => (rel.new i b0 g hb hl e).2.2 h⟩
    · rw [hH] at h1
      by_cases hi : id = i
      · rw [if_pos hi] at h1
        injection h1 with h1
        subst h1
        exact h2.elim
      · rw [if_neg hi] at h1
        obtain ⟨b, e1, rfl⟩ := Option.map_eq_some_iff.1 h1
        refine ⟨.inr ⟨id, b, e1, (Blk.fz_live b).1 h2, h3⟩, fun e => ?_⟩
        exact rel.ds id i b b0 g hi e1 hb ((Blk.fz_live b).1 h2) hl h3 e
  have hV : ∀ id m, Ver (hget st.hp) id = some m → ∃ m', Ver (hget (hset (fzHp i v sz n f st.hp) i (.dead (v + 1)))) id = some m' ∧ m ≤ m' ∧ (m' = m → σ id = σ id) := by
    intro id m h
    obtain ⟨b, e1, e2⟩ := Option.map_eq_some_iff.1 h
    by_cases hi : id = i
    · subst hi
      rw [hb] at e1
      injection e1 with e1
      subst e1
      exact ⟨v + 1, by simp [Ver, hH, Blk.ver], by omega, fun _ => rfl⟩
    · exact ⟨m, by simp only [Ver, hH, if_neg hi, e1, Option.map_some, Blk.fz_ver]; rw [e2], Nat.le_refl _, fun _ => rfl⟩
  have G : Grow w (Mut F (hget st.hp) σ) σ (Ver (hget st.hp)) w (Mut F (hget (hset (fzHp i v sz n f st.hp) i (.dead (v + 1)))) σ) σ (Ver (hget (hset (fzHp i v sz n f st.hp) i (.dead (v + 1))))) :=
    ⟨Nat.le_refl _, fun _ _ _ => rfl, fun g _ h => (hM g h).1, hV, fun _ _ _ _ _ => rfl⟩
  have hsl := hs (Mut F (hget (hset (fzHp i v sz n f st.hp) i (.dead (v + 1)))) σ) (fun g h => (hM g h).1) (fun g e h => (hM g h).2 e)
  have hvi : Ver (hget st.hp) i = some v := by rw [← hv]; exact ver_of hb
  have key : ∀ x u, VR w (Mut F (hget st.hp) σ) σ (Ver (hget st.hp)) x u → VR w (Mut F (hget (hset (fzHp i v sz n f st.hp) i (.dead (v + 1)))) σ) σ (Ver (hget (hset (fzHp i v sz n f st.hp) i (.dead (v + 1))))) (x.fz i v sz n f) u :=
    fun x u h => AV.fz_rel hsl hvi (fun h => h.grow G) x u h
  have keyL : ∀ (xs : List AV) (u : Nat → Value), (∀ j, j < xs.length → VR w (Mut F (hget st.hp) σ) σ (Ver (hget st.hp)) (xs.getD j .undef) (u j)) → ∀ j, j < xs.length →
      VR w (Mut F (hget (hset (fzHp i v sz n f st.hp) i (.dead (v + 1)))) σ) σ (Ver (hget (hset (fzHp i v sz n f st.hp) i (.dead (v + 1))))) ((AV.fzL i v sz n f xs).getD j .undef) (u j) :=
    fun xs u h => AV.fzL_rel hsl hvi (fun h => h.grow G) xs u h
  refine ⟨⟨⟨rel.os, rel.tape, rel.output, rel.size, rel.old, fun id b' h => ?_, fun id id' b b' g hne h1 h2 l1 l2 k1 k2 => ?_, fun id b' g h1 h2 h3 => ?_, rel.mxl⟩, fun t => ?_, R.ra.df, R.ra.sz, fun id g hm hs' => ?_, fun id hm => ?_⟩, fun id h => ?_, R.mc⟩
  · by_cases hi : id = i
    · dsimp only at h
      rw [hH, if_pos hi] at h
      injection h with h
      subst h
      trivial
    · dsimp only at h
      rw [hH, if_neg hi] at h
      obtain ⟨b, e1, rfl⟩ := Option.map_eq_some_iff.1 h
      have hb1 := rel.bl id b e1
      cases b with
      | var cells =>
        obtain ⟨g, vs, T, h1, h2, h3, h4⟩ := hb1
        refine ⟨g, vs, T, h1, h2, by rw [AV.fzL_len]; exact h3, fun j hj => ?_⟩
        rw [AV.fzL_len] at hj
        exact ⟨keyL cells (fun j => vs.getD j Go.undef) (fun j hj => (h4 j hj).1) j hj, (h4 j hj).2⟩
      | lrow ver sz' n' e cells =>
        obtain ⟨xs, h0, h0', h1, h2, h3⟩ := hb1
        refine ⟨xs, h0, h0', h1, by rw [AV.fzL_len]; exact h2, fun j hj => ?_⟩
        exact ⟨keyL cells (fun j => xs.getD j Go.undef) (fun j hj => (h3 j (by rw [← h2]; exact hj)).1) j (by rw [h2]; exact hj), (h3 j hj).2⟩
      | row ver sz' n' e f' => exact hb1.grow G rfl (fun _ _ _ _ => rfl)
      | nilrow ver => exact hb1
      | dead ver => trivial
  · dsimp only at h1 h2
    have un : ∀ id b, hget (hset (fzHp i v sz n f st.hp) i (.dead (v + 1))) id = some b → b.live → ∃ b1, hget st.hp id = some b1 ∧ b1.live := by
      intro id b h hl'
      rw [hH] at h
      by_cases hi : id = i
      · rw [if_pos hi] at h; injection h with h; subst h; exact hl'.elim
      · rw [if_neg hi] at h
        obtain ⟨b1, e1, rfl⟩ := Option.map_eq_some_iff.1 h
        exact ⟨b1, e1, (Blk.fz_live b1).1 hl'⟩
    obtain ⟨c1, d1, d2⟩ := un id b h1 l1
    obtain ⟨c2, d3, d4⟩ := un id' b' h2 l2
    exact rel.ds id id' c1 c2 g hne d1 d3 d2 d4 k1 k2
  · dsimp only at h1
    rw [hH] at h1
    by_cases hi : id = i
    · rw [if_pos hi] at h1; injection h1 with h1; subst h1; exact h2.elim
    · rw [if_neg hi] at h1
      obtain ⟨b1, e1, rfl⟩ := Option.map_eq_some_iff.1 h1
      exact rel.new id b1 g e1 ((Blk.fz_live b1).1 h2) h3
  · dsimp only
    rw [aget_fzTm]
    exact key _ _ (R.ra.tm t)
  · obtain ⟨e1, m, e2⟩ := R.ra.pt id g hm hs'
    obtain ⟨m', e3, _⟩ := hV id m e2
    exact ⟨e1, m', e3⟩
  · obtain ⟨m, e1, e2⟩ := R.ra.kp id hm
    obtain ⟨m', e3, e4, _⟩ := hV id m e1
    exact ⟨m', e3, fun h0 hk => e2 (by omega) hk⟩
  · dsimp only at h
    rw [hH] at h
    by_cases hi : id = i
    · subst hi; exact R.lt id (by rw [hb]; simp)
    · rw [if_neg hi] at h
      exact R.lt id fun e => h (by rw [e]; rfl)
theorem asrow_ok {st : St} {σ : Nat → Value} {a : Act} {w : World} {i ver sz : Nat} {e : TypeId} {f : Nat → List AV} (hb : hget st.hp i = some (.nilrow ver)) (hsz : 0 < sz) (R : RelS F nt st σ a w) :
    RelS F nt ⟨st.tm, hset st.hp i (.row ver sz 0 e f), st.c⟩ σ a w := by
  have rel := R.ra.rel
  have hn : σ i = .slice none 0 0 := rel.bl i _ hb
  have eH : hget (hset st.hp i (.row ver sz 0 e f)) = upd (hget st.hp) i (some (.row ver sz 0 e f)) := by
    funext id
    rw [hget_hset]
  obtain ⟨r1, G⟩ := rel.chg i (.row ver sz 0 e f) (σ i) (w' := w) rfl rfl rfl (Nat.le_refl _) (fun _ _ _ => rfl) (fun g _ h => by rw [hn] at h; simp [blkOf] at h)
    (fun b h => by rw [hb] at h; injection h with h; subst h; exact ⟨Nat.le_refl _, fun _ => rfl, fun _ _ => rfl⟩)
    (fun _ => ⟨[], hsz, by rw [upd_self, hn]; exact World.ownsRow_nil w 0 e sz, fun k hk => by omega, fun k j hk => by omega⟩)
  rw [upd_self, ← eH] at r1 G
  refine ⟨⟨r1, fun t => (R.ra.tm t).grow G, R.ra.df, R.ra.sz, fun id g hm hs => ?_, fun id hm => ?_⟩, fun id h => ?_, R.mc⟩
  · obtain ⟨e1, m, e2⟩ := R.ra.pt id g hm hs
    obtain ⟨m', e3, _⟩ := G.ver id m e2
    exact ⟨e1, m', e3⟩
  · obtain ⟨m, e1, e2⟩ := R.ra.kp id hm
    obtain ⟨m', e3, e4, e5⟩ := G.ver id m e1
    exact ⟨m', e3, fun h0 hk => (e5 (by omega)).trans (e2 (by omega) hk)⟩
  · dsimp only at h
    rw [hget_hset] at h
    unfold upd at h
    by_cases hi : id = i
    · subst hi; exact R.lt id (by rw [hb]; simp)
    · rw [if_neg hi] at h; exact R.lt id h
theorem doPre1_ok (p : PreC) {st : St} {σ : Nat → Value} {a : Act} {w : World} (R : RelS F nt st σ a w) : RelS F nt (doPre1 p st) σ a w := by
  cases p with
  | freeze id =>
    have key : ∀ o, hget st.hp id = o → RelS F nt (match o with
      | some (.row ver sz n _ f) => ⟨fzTm id ver sz n f st.tm, hset (fzHp id ver sz n f st.hp) id (.dead (ver + 1)), st.c⟩
      | some (.nilrow ver) => ⟨fzTm id ver 1 0 (fun _ => []) st.tm, hset (fzHp id ver 1 0 (fun _ => []) st.hp) id (.dead (ver + 1)), st.c⟩
      | _ => st) σ a w := by
      intro o hb
      split
      · rename_i ver sz n e f
        refine freeze_ok (v := ver) hb rfl trivial (fun g hg => ?_) (fun M' h1 h2 => (R.ra.rel.bl id _ hb).row_slc h1 h2) R
        obtain ⟨xs, _, h1, _⟩ := R.ra.rel.bl id _ hb
        rcases h1.2 with ⟨h, _⟩ | ⟨_, _, _, h, _⟩ <;> rw [hg] at h <;> cases h
      · rename_i ver
        have hn : σ id = .slice none 0 0 := R.ra.rel.bl id _ hb
        exact freeze_ok (v := ver) (sz := 1) (n := 0) (f := fun _ => []) hb rfl trivial (fun g hg => by rw [hn] at hg; cases hg) (fun M' _ _ => by rw [hn]; exact .slc0 _ _ _ (.inl rfl)) R
      · exact R
    exact key _ rfl
  | asrow id e sz f =>
    have key : ∀ o, hget st.hp id = o → RelS F nt (match o with
      | some (.nilrow ver) => (match Nat.blt 0 sz with
        | true => ⟨st.tm, hset st.hp id (.row ver sz 0 e f), st.c⟩
        | false => st)
      | _ => st) σ a w := by
      intro o hb
      split
      · cases hsz : Nat.blt 0 sz with
        | true => exact asrow_ok hb (Nat.le_of_ble_eq_true hsz) R
        | false => exact R
      · exact R
    exact key _ rfl
theorem doPre_ok : ∀ (l : List PreC) {st : St} {σ : Nat → Value} {a : Act} {w : World}, RelS F nt st σ a w → RelS F nt (doPre l st) σ a w := by
  intro l
  induction l with
  | nil => intro st σ a w R; exact R
  | cons p l ih => intro st σ a w R; exact ih (doPre1_ok p R)
theorem doPre1_c (p : PreC) (st : St) : (doPre1 p st).c = st.c := by
  unfold doPre1
  split
  · split <;> rfl
  · split
    · split <;> rfl
    · rfl
theorem doPre_c : ∀ (l : List PreC) (st : St), (doPre l st).c = st.c := by
  intro l
  induction l with
  | nil => intro st; rfl
  | cons p l ih => intro st; exact (ih _).trans (doPre1_c p st)

/-! ### At a loop's head -/
theorem aget_trTm (t : Tr) (tm : List (Nat × AV)) (j : Nat) : aget (trTm t tm) j = (aget tm j).tr t := by
  induction tm with
  | nil => rfl
  | cons p tm ih =>
    obtain ⟨i, v⟩ := p
    simp only [trTm, aget]
    cases Nat.beq i j with
    | true => rfl
    | false => exact ih
theorem aget_keepTm (tm : List (Nat × AV)) (l : List Nat) (j : Nat) : aget (keepTm tm l) j = aget tm j ∨ aget (keepTm tm l) j = .undef := by
  induction l with
  | nil => exact .inr rfl
  | cons t l ih =>
    simp only [keepTm, aget]
    cases hb : Nat.beq t j with
    | true => rw [Nat.eq_of_beq_eq_true hb]; exact .inl rfl
    | false => exact ih
theorem hget_trHp (t : Tr) (q : Nat → Bool) (tv : Nat → Nat → Nat) (h : List (Nat × Blk)) (id : Nat) : hget (trHp t q tv h) id = if q id = true then (hget h id).map (fun b => Blk.tr t (tv id b.ver) b) else none := by
  induction h with
  | nil => simp [trHp, hget]
  | cons p h ih =>
    obtain ⟨i, b⟩ := p
    unfold trHp
    cases hb : q i with
    | true =>
      simp only [hget]
      cases hi : Nat.beq i id with
      | true => obtain rfl := Nat.eq_of_beq_eq_true hi; simp [hb]
      | false => exact ih
    | false =>
      simp only [hget]
      rw [ih]
      cases hi : Nat.beq i id with
      | true => obtain rfl := Nat.eq_of_beq_eq_true hi; simp [hb]
      | false => rfl
theorem nrm_ok {st : St} {σ : Nat → Value} {a : Act} {w : World} {q : Nat → Bool} {tv : Nat → Nat → Nat} (htv : ∀ id v, F.kv → id < F.mm → tv id v = 0 → v = 0) (live : Option (List Nat)) (c : Nat) (hq1 : ∀ id, q id = true → id < c) (hq2 : ∀ id, id < F.mm → q id = true) (hc : F.mm ≤ c) (R : RelS F nt st σ a w) : RelS F nt (nrm q tv live c st) σ a w := by
  have rel := R.ra.rel
  have hH : ∀ id b', hget (nrm q tv live c st).hp id = some b' → q id = true ∧ ∃ b, hget st.hp id = some b ∧ b' = b.tr (curOf st.hp q tv) (tv id b.ver) := by
    intro id b' h
    have h : hget (trHp (curOf st.hp q tv) q tv st.hp) id = some b' := h
    rw [hget_trHp] at h
    split at h
    · rename_i hlt
      obtain ⟨b, hb, e⟩ := Option.map_eq_some_iff.1 h
      exact ⟨hlt, b, hb, e.symm⟩
    · cases h
  have hH2 : ∀ id b, q id = true → hget st.hp id = some b → hget (nrm q tv live c st).hp id = some (b.tr (curOf st.hp q tv) (tv id b.ver)) := by
    intro id b hlt hb
    show hget (trHp (curOf st.hp q tv) q tv st.hp) id = _
    rw [hget_trHp, if_pos hlt, hb]; rfl
  have hM : ∀ g, Mut F (hget (nrm q tv live c st).hp) σ g → Mut F (hget st.hp) σ g := by
    rintro g (h | ⟨id, b', h1, h2, h3⟩)
    · exact .inl h
    · obtain ⟨_, b, e1, rfl⟩ := hH id b' h1
      exact .inr ⟨id, b, e1, tr_live.1 h2, h3⟩
  have hp : ∀ id i m, Ver (hget st.hp) id = some m → (curOf st.hp q tv).gp id = some i → (∃ m', Ver (hget (nrm q tv live c st).hp) i = some m') ∧ ∀ g, σ id = .pointer (some g) → σ i = σ id := by
    intro id i m hV hg
    have hg : (match q id with | true => some id | false => none) = some i := hg
    cases hb : q id with
    | false => rw [hb] at hg; cases hg
    | true =>
      rw [hb] at hg
      injection hg with hg
      subst hg
      obtain ⟨b, hb2, _⟩ := Option.map_eq_some_iff.1 hV
      exact ⟨⟨_, ver_of (hH2 id b hb hb2)⟩, fun _ _ => rfl⟩
  have ho : ∀ id ver i ver' m, Ver (hget st.hp) id = some m → ver ≤ m → (curOf st.hp q tv).go id ver = some (i, ver') → ∃ m', Ver (hget (nrm q tv live c st).hp) i = some m' ∧ ver' ≤ m' ∧ (ver' = m' → ver = m ∧ σ i = σ id) := by
    intro id ver i ver' m hV _ hg
    have hg : (match q id with | true => (match hget st.hp id with | some b => (match Nat.beq ver b.ver && !b.isVar with | true => some (id, tv id ver) | false => none) | none => none) | false => none) = some (i, ver') := hg
    cases hb : q id with
    | false => rw [hb] at hg; cases hg
    | true =>
      rw [hb] at hg
      obtain ⟨b, hb2, hb3⟩ := Option.map_eq_some_iff.1 hV
      simp only [hb2] at hg
      cases hq : (Nat.beq ver b.ver && !b.isVar) with
      | false => rw [hq] at hg; cases hg
      | true =>
        rw [hq] at hg
        simp only [Option.some.injEq, Prod.mk.injEq] at hg
        obtain ⟨rfl, rfl⟩ := hg
        rw [Bool.and_eq_true] at hq
        have hv := Nat.eq_of_beq_eq_true hq.1
        have hn : b.isVar = false := by cases h : b.isVar <;> simp [h] at hq; rfl
        refine ⟨_, ver_of (hH2 id b hb hb2), ?_, fun _ => ⟨by omega, rfl⟩⟩
        rw [tr_ver, hn, hv]; exact Nat.le_refl _
  refine ⟨⟨⟨rel.os, rel.tape, rel.output, rel.size, rel.old, fun id b' h => ?_, fun id id' b b' g hne h1 h2 l1 l2 k1 k2 => ?_, fun id b' g h1 h2 h3 => ?_, rel.mxl⟩, fun t => ?_, R.ra.df, R.ra.sz, fun id g hm hs => ?_, fun id hm => ?_⟩, fun id h => ?_, hc⟩
  · obtain ⟨_, b, e1, rfl⟩ := hH id b' h
    exact (rel.bl id b e1).tr hM hp ho rfl
  · obtain ⟨_, b0, e1, rfl⟩ := hH id b h1
    obtain ⟨_, b0', e2, rfl⟩ := hH id' b' h2
    exact rel.ds id id' b0 b0' g hne e1 e2 (tr_live.1 l1) (tr_live.1 l2) k1 k2
  · obtain ⟨_, b0, e1, rfl⟩ := hH id b' h1
    exact rel.new id b0 g e1 (tr_live.1 h2) h3
  · have key : ∀ x, VR w (Mut F (hget st.hp) σ) σ (Ver (hget st.hp)) x (a.tmps.getD t Go.undef) → VR w (Mut F (hget (nrm q tv live c st).hp) σ) σ (Ver (hget (nrm q tv live c st).hp)) (x.tr (curOf st.hp q tv)) (a.tmps.getD t Go.undef) := fun x hx => hx.tr hM hp ho
    cases live with
    | none =>
      show VR w _ σ _ (aget (trTm (curOf st.hp q tv) st.tm) t) _
      rw [aget_trTm]
      exact key _ (R.ra.tm t)
    | some l =>
      show VR w _ σ _ (aget (trTm (curOf st.hp q tv) (keepTm st.tm l)) t) _
      rw [aget_trTm]
      rcases aget_keepTm st.tm l t with h | h
      · rw [h]; exact key _ (R.ra.tm t)
      · rw [h]; exact .pure (.undef _)
  · obtain ⟨e1, m, e2⟩ := R.ra.pt id g hm hs
    obtain ⟨b, hb, _⟩ := Option.map_eq_some_iff.1 e2
    exact ⟨e1, _, ver_of (hH2 id b (hq2 id hm) hb)⟩
  · obtain ⟨m, e1, e2⟩ := R.ra.kp id hm
    obtain ⟨b, hb, hbv⟩ := Option.map_eq_some_iff.1 e1
    refine ⟨_, ver_of (hH2 id b (hq2 id hm) hb), fun h0 hk => e2 ?_ hk⟩
    rw [tr_ver] at h0
    cases hv : b.isVar with
    | true => rw [← hbv]; cases b <;> simp [Blk.isVar] at hv; rfl
    | false => rw [hv] at h0; rw [← hbv]; exact htv id _ hk hm h0
  · cases hh : hget (nrm q tv live c st).hp id with
    | none => exact absurd hh h
    | some b' => exact hq1 id (hH id b' hh).1

theorem nrmK_ok {st : St} {σ : Nat → Value} {a : Act} {w : World} {q : Nat → Bool} {tv : Nat → Nat → Nat} (htv : ∀ id v, F.kv → id < F.mm → tv id v = 0 → v = 0) (ka live : Option (List Nat)) (c : Nat) (hq1 : ∀ id, q id = true → id < c) (hq2 : ∀ id, id < F.mm → q id = true) (hc : F.mm ≤ c) (R : RelS F nt st σ a w) : RelS F nt (nrmK q tv ka live c st) σ a w := by
  cases ka with
  | none => exact nrm_ok htv live c hq1 hq2 hc R
  | some l =>
    refine ⟨⟨R.ra.rel, fun t => ?_, R.ra.df, R.ra.sz, R.ra.pt, R.ra.kp⟩, R.lt, R.mc⟩
    show VR w _ σ _ (aget (keepTm st.tm l) t) _
    rcases aget_keepTm st.tm l t with h | h
    · rw [h]; exact R.ra.tm t
    · rw [h]; exact .pure (.undef _)
theorem nrmK_c {q : Nat → Bool} {tv : Nat → Nat → Nat} {ka live : Option (List Nat)} {m c : Nat} {st : St} (h1 : m ≤ c) (h2 : m ≤ st.c) : m ≤ (nrmK q tv ka live c st).c := by
  cases ka with
  | none => exact h1
  | some l => exact h2

theorem keepQ_lt {E : Env} {r c id : Nat} (h : keepQ E r c id = true) : id < c := by
  unfold keepQ at h
  cases hb : Nat.blt id c with
  | true => exact Nat.le_of_ble_eq_true hb
  | false => rw [hb] at h; cases h
theorem keepQ_mm {E : Env} {r c id : Nat} (hm : ∀ m, E.mm = some m → F.mm ≤ m) (hc : F.mm ≤ c) (h : id < F.mm) : keepQ E r c id = true := by
  unfold keepQ
  rw [show Nat.blt id c = true from Nat.ble_eq_true_of_le (by omega)]
  cases he : E.mm with
  | none => rfl
  | some m =>
    have := hm m he
    cases E.gc r with
    | none => rfl
    | some l =>
      dsimp only
      rw [show Nat.blt id m = true from Nat.ble_eq_true_of_le (by omega)]
theorem tvOf_ok {E : Env} {r : Nat} (hm : ∀ m, E.mm = some m → F.mm ≤ m) (hkv : F.kv → E.mm.isSome = true) (id v : Nat) (hk : F.kv) (h : id < F.mm) (h0 : tvOf E r id v = 0) : v = 0 := by
  have hs := hkv hk
  unfold tvOf at h0
  cases he : E.mm with
  | none => rw [he] at hs; cases hs
  | some m =>
    have := hm m he
    rw [he] at h0
    dsimp only at h0
    rw [show Nat.blt id m = true from Nat.ble_eq_true_of_le (by omega)] at h0
    cases v with
    | zero => rfl
    | succ v => cases h0
theorem lift_ok {st : St} {σ : Nat → Value} {a : Act} {w : World} (c : Nat) (R : RelS F nt st σ a w) : RelS F nt (lift c st) σ a w := by
  have hc : st.c ≤ (lift c st).c := by
    unfold lift
    cases h : Nat.ble st.c c with
    | true => exact Nat.le_of_ble_eq_true h
    | false => exact Nat.le_refl _
  exact ⟨R.ra, fun id h => Nat.lt_of_lt_of_le (R.lt id h) hc, Nat.le_trans R.mc hc⟩
theorem lift_c {m c : Nat} {st : St} (h : m ≤ st.c) : m ≤ (lift c st).c := by
  unfold lift
  cases hb : Nat.ble st.c c with
  | true => exact Nat.le_trans h (Nat.le_of_ble_eq_true hb)
  | false => exact h
/-- What is told of a loop, is so. -/
def LoopTells (E : Env) (c : Code) (f : St → Option LRes) : Prop :=
  ∀ s r z, f s = some r → r.get = some z → ∃ N, ∀ {R : Type} (k : AX → St → Option R), aloop (fun s j => aexec E c s j) (headOf E c s.c) (exitOf E c s.c) N s k = match z with | .inl x => k r.axl (r.stl x) | .inr y => k r.axr (r.str y)
def LoopsOK (E : Env) : Code → Prop
  | .seq a b => LoopsOK E a ∧ LoopsOK E b
  | .cond _ a b => LoopsOK E a ∧ LoopsOK E b
  | .block _ a => LoopsOK E a
  | .loop c => LoopsOK E c ∧ ∀ f, E.loops (firstReg c) = some f → LoopTells E c f
  | _ => True
/-- What an evaluation of code comes to. -/
def ExecOK (P : Program) (F : Fr) (E : Env) (c : Code) (st : St) (ax : AX) (st' : St) : Prop :=
  ∀ σ a w (Q : Exit → Act → World → Prop), RelS F E.nt st σ a w → (∀ a' w' σ', RelS F E.nt st' σ' a' w' → Q ax.out a' w') → c.wp P Q a w
theorem loop_ok {R : Type} {E : Env} {c : Code} {n : Nat} (ih : ∀ {R : Type} (st : St) (k : AX → St → Option R) (r : R), F.mm ≤ st.c → aexec E c st k = some r → ∃ ax st', k ax st' = some r ∧ F.mm ≤ st'.c ∧ ExecOK P F E c st ax st') (hn : F.mm ≤ n) (hmm : ∀ m, E.mm = some m → F.mm ≤ m) (hkv : F.kv → E.mm.isSome = true) :
    ∀ (N : Nat) (s : St) (k : AX → St → Option R) (r : R), F.mm ≤ s.c → aloop (fun s j => aexec E c s j) (headOf E c n) (exitOf E c n) N s k = some r →
      ∃ ax s', k ax s' = some r ∧ F.mm ≤ s'.c ∧ ∀ σ a w (Q : Exit → Act → World → Prop), RelS F E.nt s σ a w → (∀ a' w' σ', RelS F E.nt s' σ' a' w' → Q ax.out a' w') → Code.rounds P c Q N a w := by
  intro N
  induction N with
  | zero => intro s k r _ h; simp [aloop] at h
  | succ N ihN =>
    intro s k r hm h
    unfold aloop at h
    obtain ⟨ax, s1, h1, m1, h2⟩ := ih s _ r hm h
    cases ax with
    | normal =>
      obtain ⟨ax2, s2, h3, m2, h4⟩ := ihN _ k r (nrmK_c hn m1) h1
      refine ⟨ax2, s2, h3, m2, fun σ a w Q R0 hQ => ?_⟩
      rw [rounds_succ]
      exact h2 σ a w _ R0 fun a' w' σ' R' => h4 σ' a' w' Q (nrmK_ok (tvOf_ok hmm hkv) _ _ n (fun _ h => keepQ_lt h) (fun _ h => keepQ_mm hmm hn h) hn R') hQ
    | exit id =>
      refine ⟨.exit id, _, h1, nrmK_c hn m1, fun σ a w Q R0 hQ => ?_⟩
      rw [rounds_succ]
      exact h2 σ a w _ R0 fun a' w' σ' R' => hQ a' w' σ' (nrmK_ok (tvOf_ok hmm hkv) _ _ n (fun _ h => keepQ_lt h) (fun _ h => keepQ_mm hmm hn h) hn R')
    | ret =>
      refine ⟨.ret, _, h1, nrmK_c hn m1, fun σ a w Q R0 hQ => ?_⟩
      rw [rounds_succ]
      exact h2 σ a w _ R0 fun a' w' σ' R' => hQ a' w' σ' (nrmK_ok (tvOf_ok hmm hkv) _ _ n (fun _ h => keepQ_lt h) (fun _ h => keepQ_mm hmm hn h) hn R')

theorem known_c (c : Operand) (b : Bool) (st : St) : (known c b st).c = st.c := by cases c <;> rfl
theorem known_ok {st : St} {σ : Nat → Value} {a : Act} {w : World} {c : Operand} {b : Bool} (h : aev st.tm c = .bool b) (R : RelS F nt st σ a w) : RelS F nt (known c b st) σ a w := by
  cases c with
  | tmp t =>
    have e : aget ((t, .bool b) :: st.tm) = aget st.tm := by
      funext j
      show (match Nat.beq t j with | true => AV.bool b | false => aget st.tm j) = _
      cases hb : Nat.beq t j with
      | true =>
        obtain rfl := Nat.eq_of_beq_eq_true hb
        exact (h : aget st.tm t = .bool b).symm
      | false => rfl
    exact ⟨by show RelA F nt (aget ((t, .bool b) :: st.tm)) _ σ a w; rw [e]; exact R.ra, R.lt, R.mc⟩
  | _ => exact R
theorem exec_ok {E : Env} (hE : E.tt = ttOf P) (hP : POK P) (hfs : ∀ f, Tells P f (E.fs f)) (hmm : ∀ m, E.mm = some m → F.mm ≤ m) (hkv : F.kv → E.mm.isSome = true) : ∀ (c : Code), LoopsOK E c → ∀ {R : Type} (st : St) (k : AX → St → Option R) (r : R), F.mm ≤ st.c → aexec E c st k = some r →
    ∃ ax st', k ax st' = some r ∧ F.mm ≤ st'.c ∧ ExecOK P F E c st ax st' := by
  intro c
  induction c with
  | skip =>
    intro _ R st k r hm h
    exact ⟨.normal, st, h, hm, fun σ a w Q R0 hQ => wp_skip (hQ a w σ R0)⟩
  | region id ops draw =>
    intro _ R st k r hm h
    unfold aexec at h
    obtain ⟨st', h1, h2, h3⟩ := region_ok (F := F) (id := id) hE hP hfs h
    rw [doPre_c] at h2
    exact ⟨.normal, st', h1, by omega, fun σ a w Q R0 hQ => h3 σ a w Q (doPre_ok _ R0) hQ⟩
  | seq x y ihx ihy =>
    intro hl R st k r hm h
    unfold aexec at h
    obtain ⟨ax, s1, h1, m1, h2⟩ := ihx hl.1 st _ r hm h
    cases ax with
    | normal =>
      obtain ⟨ax2, s2, h3, m2, h4⟩ := ihy hl.2 s1 k r m1 h1
      refine ⟨ax2, s2, h3, m2, fun σ a w Q R0 hQ => wp_seq (h2 σ a w _ R0 fun a' w' σ' R' => h4 σ' a' w' Q R' hQ)⟩
    | exit id => exact ⟨.exit id, s1, h1, m1, fun σ a w Q R0 hQ => wp_seq (h2 σ a w _ R0 fun a' w' σ' R' => hQ a' w' σ' R')⟩
    | ret => exact ⟨.ret, s1, h1, m1, fun σ a w Q R0 hQ => wp_seq (h2 σ a w _ R0 fun a' w' σ' R' => hQ a' w' σ' R')⟩
  | cond c x y ihx ihy =>
    intro hl R st k r hm h
    unfold aexec at h
    cases hc : aev st.tm c with
    | bool b =>
      simp only [hc] at h
      have heval : ∀ σ a w, RelS F E.nt st σ a w → a.eval c = .bool b := fun σ a w R0 => by
        have := ev_rel R0.ra.tm c
        rw [← aev_ev, hc] at this
        exact this.bool_inv
      cases b with
      | true =>
        obtain ⟨ax, s1, h1, m1, h2⟩ := ihx hl.1 (known c true st) _ r (by rw [known_c]; exact hm) h
        exact ⟨ax, _, h1, lift_c m1, fun σ a w Q R0 hQ => wp_cond_true (heval σ a w R0) (h2 σ a w Q (known_ok hc R0) fun a' w' σ' R' => hQ a' w' σ' (lift_ok _ R'))⟩
      | false =>
        obtain ⟨ax, s1, h1, m1, h2⟩ := ihy hl.2 (known c false st) _ r (by rw [known_c]; exact hm) h
        exact ⟨ax, _, h1, lift_c m1, fun σ a w Q R0 hQ => wp_cond_false (heval σ a w R0) (h2 σ a w Q (known_ok hc R0) fun a' w' σ' R' => hQ a' w' σ' (lift_ok _ R'))⟩
    | _ => simp [hc] at h
  | block id c ih =>
    intro hl R st k r hm h
    unfold aexec at h
    obtain ⟨ax, s1, h1, m1, h2⟩ := ih hl st _ r hm h
    cases ax with
    | normal => exact ⟨.normal, _, h1, lift_c m1, fun σ a w Q R0 hQ => wp_block (h2 σ a w _ R0 fun a' w' σ' R' => hQ a' w' σ' (lift_ok _ R'))⟩
    | exit id' =>
      cases hb : Nat.beq id' id with
      | true =>
        simp only [hb] at h1
        have e := Nat.eq_of_beq_eq_true hb
        refine ⟨.normal, _, h1, lift_c m1, fun σ a w Q R0 hQ => wp_block (h2 σ a w _ R0 fun a' w' σ' R' => ?_)⟩
        show (if id' = id then Q .normal a' w' else Q (.exit id') a' w')
        rw [if_pos e]
        exact hQ a' w' σ' (lift_ok _ R')
      | false =>
        simp only [hb] at h1
        have e : id' ≠ id := fun e => by rw [e, Nat.beq_refl] at hb; cases hb
        refine ⟨.exit id', s1, h1, m1, fun σ a w Q R0 hQ => wp_block (h2 σ a w _ R0 fun a' w' σ' R' => ?_)⟩
        show (if id' = id then Q .normal a' w' else Q (.exit id') a' w')
        rw [if_neg e]
        exact hQ a' w' σ' R'
    | ret => exact ⟨.ret, s1, h1, m1, fun σ a w Q R0 hQ => wp_block (h2 σ a w _ R0 fun a' w' σ' R' => hQ a' w' σ' R')⟩
  | loop c ih =>
    intro hl R st k r hm h
    unfold aexec at h
    have run : ∀ N, aloop (fun s j => aexec E c s j) (headOf E c st.c) (exitOf E c st.c) N (headOf E c st.c (doPre (E.pre (1000000 + firstReg c)) st)) k = some r → ∃ ax st', k ax st' = some r ∧ F.mm ≤ st'.c ∧ ExecOK P F E (.loop c) st ax st' := by
      intro N hN
      obtain ⟨ax, s', g1, g2, g3⟩ := loop_ok (F := F) (n := st.c) (fun st k r => ih hl.1 st k r) hm hmm hkv N (headOf E c st.c (doPre (E.pre (1000000 + firstReg c)) st)) k r (nrmK_c hm (by rw [doPre_c]; exact hm)) hN
      exact ⟨ax, s', g1, g2, fun σ a w Q R0 hQ => wp_loop_rounds N (g3 σ a w Q (nrmK_ok (tvOf_ok hmm hkv) _ _ _ (fun _ h => keepQ_lt h) (fun _ h => keepQ_mm hmm hm h) hm (doPre_ok _ R0)) hQ)⟩
    cases hf : E.loops (firstReg c) with
    | none =>
      simp only [hf] at h
      exact run _ h
    | some f =>
      simp only [hf] at h
      cases hr : f (headOf E c st.c (doPre (E.pre (1000000 + firstReg c)) st)) with
      | none => simp [hr] at h
      | some q =>
        simp only [hr] at h
        cases hz : q.get with
        | none => simp [hz] at h
        | some z =>
          obtain ⟨N, hN⟩ := hl.2 f hf _ q z hr hz
          have hce : (headOf E c st.c (doPre (E.pre (1000000 + firstReg c)) st)).c = st.c := by
            unfold headOf
            cases keepAll (E.live (firstReg c)) with
            | none => rfl
            | some l => exact doPre_c _ _
          rw [hce] at hN
          refine run N ((hN k).trans ?_)
          cases z with
          | inl x => simp only [hz] at h; exact h
          | inr y =>
            simp only [hz] at h
            cases ho : q.one with
            | true => rw [ho] at h; cases h
            | false => rw [ho] at h; exact h
  | exit id =>
    intro _ R st k r hm h
    exact ⟨.exit id, st, h, hm, fun σ a w Q R0 hQ => wp_exit (hQ a w σ R0)⟩
  | ret =>
    intro _ R st k r hm h
    exact ⟨.ret, st, h, hm, fun σ a w Q R0 hQ => wp_ret (hQ a w σ R0)⟩
  | _ => intro _ R st k r hm h; simp [aexec] at h
end
end Go.Proofs.Ythkdmemkjojmoaa.Ab
