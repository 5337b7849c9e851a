/- The checks of a mine. -/
import Derived.Test.YtbiikgkfklhohaaCd
namespace Go.Proofs.Ytbiikgkfklhohaa
open Go.RowKit

structure Pl where
  h : Int
  s : Bool
structure Sp where
  lo : Int
  hi : Int
structure Rd where
  f : Int
  t : Int
  len : Int
  area : Int
  walk : Bool
  closed : Bool
  rest : Sp
  lift : Sp
structure Mn where
  ps : List Pl
  rs : List Rd
def Pl.cells (p : Pl) : List Value := [.int .i64 p.h, .bool p.s]
def Sp.cells (p : Sp) : List Value := [.int .i64 p.lo, .int .i64 p.hi]
def Rd.cells (r : Rd) : List Value := [.int .i64 r.f, .int .i64 r.t, .int .i64 r.len, .int .i64 r.area, .bool r.walk, .bool r.closed, .int .i64 r.rest.lo, .int .i64 r.rest.hi, .int .i64 r.lift.lo, .int .i64 r.lift.hi]
def Sp.v (p : Sp) : Value := .agg #[.int .i64 p.lo, .int .i64 p.hi]
def Pl.v (p : Pl) : Value := .agg #[.int .i64 p.h, .bool p.s]
def Rd.v (r : Rd) : Value := .agg #[.int .i64 r.f, .int .i64 r.t, .int .i64 r.len, .int .i64 r.area, .bool r.walk, .bool r.closed, .int .i64 r.rest.lo, .int .i64 r.rest.hi, .int .i64 r.lift.lo, .int .i64 r.lift.hi]

def wi (n lo hi : Int) : Bool := decide (lo ≤ n ∧ n ≤ hi)
def spn (s : Sp) (lo hi : Int) : Bool := decide (lo ≤ s.lo ∧ s.lo ≤ s.hi ∧ s.hi ≤ hi)
def ckRd (r : Rd) (n : Int) : Int :=
  if !wi r.f 0 (n - 1) || !wi r.t 0 (n - 1) || decide (r.f = r.t) then 4
  else if !wi r.len 1 100000 || !wi r.area 1 1000 then 1
  else if !spn r.rest 1 262144 || !spn r.lift (-2199023255552) 2199023255552 then 1
  else 0

theorem ret_bool {a b : Bool} (h : a = b) : Ending.returned (.bool a) = .returned (.bool b) := by rw [h]

set_option maxHeartbeats 400000 in
theorem within_any (n lo hi : Int) (w : World) :
    Calls Try.prog 40 #[.int .i64 n, .int .i64 lo, .int .i64 hi] w fun e w' => e = .returned (.bool (wi n lo hi)) ∧ w = w' := by
  by_cases h1 : lo ≤ n
  · have E := Lib.hid (show decide (n ≤ hi) = wi n lo hi by simp [wi, h1])
    go_enter Try.func40, Try.ntmps40
    go_wp2
    go_ret
    exact ⟨ret_bool E.out, rfl⟩
  · have E := Lib.hid (show false = wi n lo hi by simp [wi, h1])
    have hd : decide (lo ≤ n) = false := by simpa using h1
    go_enter Try.func40, Try.ntmps40
    go_wp2
    go_ret
    exact ⟨ret_bool E.out, rfl⟩

set_option maxHeartbeats 400000 in
theorem spans_any (s : Sp) (lo hi : Int) (w : World) :
    Calls Try.prog 53 #[s.v, .int .i64 lo, .int .i64 hi] w fun e w' => e = .returned (.bool (spn s lo hi)) ∧ Below w.heap.size w w' := by
  obtain ⟨l, h⟩ := s
  unfold Sp.v
  have hB := Lib.hid ((Below.refl w.heap.size w).alloc (Nat.le_refl _) (.cells #[.int .i64 l, .int .i64 h] 39))
  by_cases h1 : lo ≤ l
  · by_cases h2 : l ≤ h
    · have E := Lib.hid (show decide (h ≤ hi) = spn ⟨l, h⟩ lo hi by simp [spn, h1, h2])
      go_enter Try.func53, Try.ntmps53
      go_wp2
      go_ret
      exact ⟨ret_bool E.out, hB.out⟩
    · have E := Lib.hid (show false = spn ⟨l, h⟩ lo hi by simp [spn, h1, h2])
      have hd : decide (l ≤ h) = false := by simpa using h2
      go_enter Try.func53, Try.ntmps53
      go_wp2
      go_ret
      exact ⟨ret_bool E.out, hB.out⟩
  · have E := Lib.hid (show false = spn ⟨l, h⟩ lo hi by simp [spn, h1])
    have hd : decide (lo ≤ l) = false := by simpa using h1
    go_enter Try.func53, Try.ntmps53
    go_wp2
    go_ret
    exact ⟨ret_bool E.out, hB.out⟩

/-- What is old stays: cells and marks below a number. -/
theorem bcell {B : Nat} {W w1 : World} (hb : Below B W w1) : (∀ b o, b < B → w1.cell? ⟨b, o, none⟩ = W.cell? ⟨b, o, none⟩) ∧ (∀ b o, b < B → w1.frozen? ⟨b, o, none⟩ = W.frozen? ⟨b, o, none⟩) :=
  ⟨fun b o h => hb.cell (p := ⟨b, o, none⟩) h, fun b o h => hb.frozen (p := ⟨b, o, none⟩) h⟩

theorem bl_alloc {a w : World} (h : Below a.heap.size a w) (o : Obj) : Below a.heap.size a (w.alloc o) := h.alloc h.size o
theorem bl_call {a w w' : World} (h : Below a.heap.size a w) (k : Below w.heap.size w w') : Below a.heap.size a w' := h.trans (k.mono h.size)
theorem bl_drewN {a w : World} (h : Below a.heap.size a w) (n : Nat) : Below a.heap.size a (w.drewN n) := h.trans ⟨rfl, rfl, rfl, Nat.le_refl _, fun _ _ => rfl⟩

set_option maxHeartbeats 2000000 in
theorem checkRoad_any (r : Rd) (n : Int) (w : World) (h0 : 0 ≤ n) (h1 : n ≤ 4611686018427387904) :
    Calls Try.prog 41 #[r.v, .int .i64 n] w fun e w' => e = .returned (.int .i64 (ckRd r n)) ∧ Below w.heap.size w w' := by
  obtain ⟨f, t, len, area, walk, closed, ⟨rl, rh⟩, ⟨ll, lh⟩⟩ := r
  unfold Rd.v
  have hB := Lib.hid ((Below.refl w.heap.size w).alloc (Nat.le_refl _) (.cells #[.int .i64 f, .int .i64 t, .int .i64 len, .int .i64 area, .bool walk, .bool closed, .int .i64 rl, .int .i64 rh, .int .i64 ll, .int .i64 lh] 41))
  have E : ckRd ⟨f, t, len, area, walk, closed, ⟨rl, rh⟩, ⟨ll, lh⟩⟩ n = if !wi f 0 (n - 1) || !wi t 0 (n - 1) || (f == t) then 4
    else if !wi len 1 100000 || !wi area 1 1000 then 1 else if !spn ⟨rl, rh⟩ 1 262144 || !spn ⟨ll, lh⟩ (-2199023255552) 2199023255552 then 1 else 0 := by rfl
  rw [E]
  clear E
  rcases g1 : wi f 0 (n - 1) with _ | _
  rotate_left
  rcases g2 : wi t 0 (n - 1) with _ | _
  rotate_left
  rcases g3 : (f == t) with _ | _
  rcases g4 : wi len 1 100000 with _ | _
  rotate_left
  rcases g5 : wi area 1 1000 with _ | _
  rotate_left
  rcases g6 : spn ⟨rl, rh⟩ 1 262144 with _ | _
  rotate_left
  rcases g7 : spn ⟨ll, lh⟩ (-2199023255552) 2199023255552 with _ | _
  all_goals
    go_enter Try.func41, Try.ntmps41
    go_wp2_with (first
      | (go_at_call 40; refine (within_any _ _ _ _).mono ?_; rintro e w' ⟨rfl, rfl⟩)
      | (go_at_call 53; refine (spans_any ⟨_, _⟩ _ _ _).mono ?_; rintro e w' ⟨rfl, hb1⟩; obtain ⟨hc, hf⟩ := bcell hb1; have hB := Lib.hid (bl_call hB.out hb1)))
    go_ret
    exact ⟨rfl, hB.out⟩

/-- The slice v has n elements of sz cells each, and these are xs. -/
def Sl (w : World) (v : Value) (sz n : Nat) (xs : List Value) : Prop :=
  xs.length = n * sz ∧ ((n = 0 ∧ (v = .slice none 0 0 ∨ ∃ a cap, v = .slice (some a) 0 cap ∧ cap ≤ maxLen)) ∨ ∃ g off cap, v = .slice (some ⟨g, off, none⟩) n cap ∧ n ≤ cap ∧ cap ≤ maxLen ∧ ∀ j, j < n * sz → w.cell? ⟨g, off + j, none⟩ = some (xs.getD j undef))

theorem Sl.below {w w' : World} {v : Value} {sz n : Nat} {xs : List Value} (h : Sl w v sz n xs) (hb : Below w.heap.size w w') : Sl w' v sz n xs := by
  refine ⟨h.1, ?_⟩
  rcases h.2 with h | ⟨g, off, cap, hv, hn, hm, hc⟩
  · exact .inl h
  · refine .inr ⟨g, off, cap, hv, hn, hm, fun j hj => ?_⟩
    rw [← hc j hj]
    exact hb.cell (World.block_lt_of_cell? w _ (hc j hj))

theorem Sl.shape {w : World} {v : Value} {sz n : Nat} {xs : List Value} (h : Sl w v sz n xs) : ∃ a cap, v = .slice a n cap ∧ n ≤ cap ∧ cap ≤ maxLen ∧ (n = 0 ∨ ∃ g off, a = some ⟨g, off, none⟩ ∧ ∀ j, j < n * sz → w.cell? ⟨g, off + j, none⟩ = some (xs.getD j undef)) := by
  rcases h.2 with ⟨rfl, h0 | ⟨a, cap, h0, hm⟩⟩ | ⟨g, off, cap, hv, hn, hm, hc⟩
  · exact ⟨none, 0, h0, Nat.le_refl _, Nat.zero_le _, .inl rfl⟩
  · exact ⟨some a, cap, h0, Nat.zero_le _, hm, .inl rfl⟩
  · exact ⟨_, cap, hv, hn, hm, .inr ⟨g, off, rfl, hc⟩⟩

theorem Sl.cases {w : World} {v : Value} {sz n : Nat} {xs : List Value} (h : Sl w v sz n xs) : (v = .slice none 0 0 ∧ n = 0) ∨ ∃ a cap, v = .slice (some a) n cap ∧ n ≤ cap ∧ cap ≤ maxLen := by
  rcases h.2 with ⟨rfl, h0 | ⟨a, cap, h0, hm⟩⟩ | ⟨g, off, cap, hv, hn, hm, _⟩
  · exact .inl ⟨h0, rfl⟩
  · exact .inr ⟨a, cap, h0, Nat.zero_le _, hm⟩
  · exact .inr ⟨_, cap, hv, hn, hm⟩

def MnV (w : World) (v : Value) (m : Mn) : Prop :=
  ∃ a b, v = .agg #[a, b] ∧ Sl w a 2 m.ps.length (m.ps.flatMap Pl.cells) ∧ Sl w b 10 m.rs.length (m.rs.flatMap Rd.cells)

theorem MnV.below {w w' : World} {v : Value} {m : Mn} (h : MnV w v m) (hb : Below w.heap.size w w') : MnV w' v m := by
  obtain ⟨a, b, hv, h1, h2⟩ := h
  exact ⟨a, b, hv, h1.below hb, h2.below hb⟩

def ckPls (l : List Pl) : Bool := l.all fun p => wi p.h (-10000) 10000
def ckRds (n : Int) : List Rd → Int
  | [] => 0
  | r :: l => if ckRd r n = 0 then ckRds n l else ckRd r n
def ck (m : Mn) : Int :=
  if 64 < m.ps.length ∨ 128 < m.rs.length then 2 else if !ckPls m.ps then 1 else ckRds m.ps.length m.rs

end Go.Proofs.Ytbiikgkfklhohaa
