/-
  The walks of Of, (*Reader).Bad and (*Reader).Over, and of the law's own 'alive': it returns true, and nothing that was there has turned.
-/
import Derived.Test.YtcofiidibhmhgaaYPens
namespace Go.Proofs.Ytcofiidibhmhgaa.Sty
open Go.RowKit

set_option maxHeartbeats 400000 in
set_option maxRecDepth 100000 in
theorem of_any (w : World) (s : ByteArray) :
    Calls Try.prog 56 #[.string s] w fun e w' => e = .returned (.pointer (some ⟨w.heap.size, 0, none⟩)) ∧ w' = w.alloc (.cells #[.string s, .bool false] 104) := by
  go_enter Try.func56, Try.ntmps56
  go_wp2
  go_ret
  exact ⟨rfl, rfl⟩

set_option maxHeartbeats 400000 in
set_option maxRecDepth 100000 in
theorem bad_any (w : World) (r : Nat) (bad : Bool) (h1 : w.cell? ⟨r, 1, none⟩ = some (.bool bad)) :
    Calls Try.prog 68 #[.pointer (some ⟨r, 0, none⟩)] w fun e w' => e = .returned (.bool bad) ∧ w' = w := by
  go_enter Try.func68, Try.ntmps68
  go_wp2
  go_ret
  exact ⟨rfl, rfl⟩

end Go.Proofs.Ytcofiidibhmhgaa.Sty
