/-
  The document's All: all loads with which bytes begin, as a list that the call owns.
-/
import Derived.Test.YtcofiidibhmhgabJoined
import Derived.Test.YtcofiidibhmhgabSeqs
namespace Go.Proofs.Ytcofiidibhmhgab
open Go.RowKit

theorem texts_one (w : World) (t : ByteArray) : IsTexts (w.alloc (.cells #[.string t] 9)) (some ⟨w.heap.size, 0, none⟩) 1 1 [t] :=
  ⟨rfl, .inr ⟨w.heap.size, 0, rfl, ⟨by simp, fun j hj => by
    have : j = 0 := by simpa using hj
    subst this
    simp⟩⟩⟩



end Go.Proofs.Ytcofiidibhmhgab
