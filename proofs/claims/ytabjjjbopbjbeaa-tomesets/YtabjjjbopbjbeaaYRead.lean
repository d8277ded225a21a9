/-
  The walks of Of, (*Reader).Bad and (*Reader).Over, and of the law's own 'alive': it returns true, and nothing that was there has turned.
-/
import Derived.Test.YtabjjjbopbjbeaaYPens
namespace Go.Proofs.Ytabjjjbopbjbeaa.Sty
open Go.RowKit

set_option maxHeartbeats 400000 in
set_option maxRecDepth 100000 in
theorem of_any (w : World) (s : ByteArray) :
    Calls Try.prog 31 #[.string s] w fun e w' => e = .returned (.pointer (some ⟨w.heap.size, 0, none⟩)) ∧ w' = w.alloc (.cells #[.string s, .bool false] 89) := by
  go_enter Try.func31, Try.ntmps31
  go_wp2
  go_ret
  exact ⟨rfl, rfl⟩

set_option maxHeartbeats 400000 in
set_option maxRecDepth 100000 in
theorem bad_any (w : World) (r : Nat) (bad : Bool) (h1 : w.cell? ⟨r, 1, none⟩ = some (.bool bad)) :
    Calls Try.prog 35 #[.pointer (some ⟨r, 0, none⟩)] w fun e w' => e = .returned (.bool bad) ∧ w' = w := by
  go_enter Try.func35, Try.ntmps35
  go_wp2
  go_ret
  exact ⟨rfl, rfl⟩

set_option maxHeartbeats 400000 in
set_option maxRecDepth 100000 in
theorem over_any (w : World) (r : Nat) (s : ByteArray) (bad : Bool) (h0 : w.cell? ⟨r, 0, none⟩ = some (.string s)) (h1 : w.cell? ⟨r, 1, none⟩ = some (.bool bad)) :
    Calls Try.prog 32 #[.pointer (some ⟨r, 0, none⟩)] w fun e w' => e = .returned (.bool (!bad && (s.size : Int) == 0)) ∧ w' = w := by
  cases bad
  · go_enter Try.func32, Try.ntmps32
    go_wp2_with fail
    refine (bad_any _ r false h1).mono ?_
    rintro e w1 ⟨rfl, rfl⟩
    go_wp2
    go_ret
    exact ⟨rfl, rfl⟩
  · go_enter Try.func32, Try.ntmps32
    go_wp2_with fail
    refine (bad_any _ r true h1).mono ?_
    rintro e w1 ⟨rfl, rfl⟩
    go_wp2
    go_ret
    exact ⟨rfl, rfl⟩

end Go.Proofs.Ytabjjjbopbjbeaa.Sty
