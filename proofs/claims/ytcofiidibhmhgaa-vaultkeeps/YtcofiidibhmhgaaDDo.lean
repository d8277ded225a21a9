/-
  The walk of do: a change done to two areas.
-/
import Derived.Deep.RegionHeld3
import Derived.Test.YtcofiidibhmhgaaDSmall
namespace Go.Proofs.Ytcofiidibhmhgaa
open Go.RowKit

set_option maxHeartbeats 800000 in
set_option maxRecDepth 100000 in
theorem do_any (w : World) (b off : Nat) (o r : Bool) (bs x0 x1 : ByteArray) (h0 : w.cell? ⟨b, off, none⟩ = some (.string x0)) (h1 : w.cell? ⟨b, off + 1, none⟩ = some (.string x1))
    (f0 : w.frozen? ⟨b, off, none⟩ = false) (f1 : w.frozen? ⟨b, off + 1, none⟩ = false) (k0 : x0.size ≤ 16384) (k1 : x1.size ≤ 16384) (k2 : r = false → bs.size ≤ 16384) :
    Calls Try.prog 40 #[.pointer (some ⟨b, off, none⟩), .agg #[.int .i64 (ar o), .bool r, .string bs]] w fun e w' => e = .returned (.tuple #[]) ∧
      Set1 b (off + (if o then 1 else 0)) (.string (if r then ⟨#[]⟩ else (if o then x1 else x0) ++ bs)) w w' := by
  have hlt : b < w.heap.size := World.block_lt_of_cell? w _ h0
  have n0 := World.new_ne w _ h0
  have n1 := World.new_ne w _ h1
  cases r with
  | true =>
    cases o with
    | true =>
      simp only [ar, ↓reduceIte]
      go_enter Try.func40, Try.ntmps40
      go_wp2_with fail
      go_region_with fail
      go_wp2
      refine bodyPost_ret (results_none rfl _ _ _) rfl ?_
      exact ⟨rfl, Set1.of _ hlt⟩
    | false =>
      simp only [ar, ↓reduceIte, Bool.false_eq_true, Nat.add_zero]
      go_enter Try.func40, Try.ntmps40
      go_wp2_with fail
      go_region_with fail
      go_wp2
      refine bodyPost_ret (results_none rfl _ _ _) rfl ?_
      exact ⟨rfl, Set1.of _ hlt⟩
  | false =>
    have k3 := k2 rfl
    clear k2
    cases o with
    | true =>
      simp only [ar, ↓reduceIte, Bool.false_eq_true]
      go_enter Try.func40, Try.ntmps40
      go_wp2_with fail
      go_region_with fail
      all_goals
        go_wp2
        go_end0
        exact ⟨rfl, Set1.of _ hlt⟩
    | false =>
      simp only [ar, ↓reduceIte, Bool.false_eq_true, Nat.add_zero]
      go_enter Try.func40, Try.ntmps40
      go_wp2_with fail
      go_region_with fail
      all_goals
        go_wp2
        go_end0
        exact ⟨rfl, Set1.of _ hlt⟩

end Go.Proofs.Ytcofiidibhmhgaa
