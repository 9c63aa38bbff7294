/- Texts of one proof, one behind the other. -/
import Derived.Test.YtglmhdlkhnlkiaaMgTermApplies2
import Derived.Test.YtglmhdlkhnlkiaaMgTermApplies1
/- A row of one's own stands behind what lays new blocks alone. -/
namespace Go.Proofs.Ytglmhdlkhnlkiaa
open Go.RowKit
theorem own_below {w w' : World} {base : Nat} {e : TypeId} {size : Nat} {v : Value} {n : Nat} {xs : List Value} (h : w.ownsRow base e size v n xs) (hb : Below w.heap.size w w') : w'.ownsRow base e size v n xs := by
  refine ⟨h.1, ?_⟩
  rcases h.2 with h0 | ⟨g, cap, cur, h0, hbg, hg, hr⟩
  · exact .inl h0
  · exact .inr ⟨g, cap, cur, h0, hbg, (hb.block g (Array.getElem?_eq_some_iff.1 hg).1).trans hg, hr⟩
end Go.Proofs.Ytglmhdlkhnlkiaa
