/- The edit that is drawn. -/
import Derived.Test.YtbiikgkfklhohaaCe1
import Derived.Test.YtbiikgkfklhohaaCe2
import Derived.Test.YtbiikgkfklhohaaCe3
import Derived.Test.YtbiikgkfklhohaaCe4
import Derived.Test.YtbiikgkfklhohaaCe5
import Derived.Test.YtbiikgkfklhohaaCe6
namespace Go.Proofs.Ytbiikgkfklhohaa
open Go.RowKit

theorem drawEdit_any (b : Nat) (l : List Nat) (i : Nat) (v : Value) (m : Mn) (w : World) (h : CdAt w b l i) (hm : MnV w v m) :
    Calls Try.prog 17 #[.pointer (some ⟨b, 0, none⟩), v] w fun e w' => ∃ d : Ed, e = .returned d.v ∧ (∃ j, CdAt w' b l j) ∧ w.grownBy w' (some b) := by
  have hb := nx_bd l i 6
  have hk : 1 + (nx l i 6).1 = 1 ∨ 1 + (nx l i 6).1 = 2 ∨ 1 + (nx l i 6).1 = 3 ∨ 1 + (nx l i 6).1 = 4 ∨ 1 + (nx l i 6).1 = 5 ∨ 1 + (nx l i 6).1 = 6 := by omega
  rcases hk with hk | hk | hk | hk | hk | hk
  · exact drawEdit_1 b l i v m w h hm hk
  · exact drawEdit_2 b l i v m w h hm hk
  · exact drawEdit_3 b l i v m w h hm hk
  · exact drawEdit_4 b l i v m w h hm hk
  · exact drawEdit_5 b l i v m w h hm hk
  · exact drawEdit_6 b l i v m w h hm hk
end Go.Proofs.Ytbiikgkfklhohaa
