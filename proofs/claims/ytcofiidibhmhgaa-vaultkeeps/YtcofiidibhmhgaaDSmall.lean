/-
  The walks of New, Read, Safe, Waits, Sync, and of has and nearest.
-/
import Derived.Test.YtcofiidibhmhgaaSums
import Derived.Test.YtcofiidibhmhgaaDMem
namespace Go.Proofs.Ytcofiidibhmhgaa
open Go.RowKit


theorem ret_int {x y : Int} (h : x = y) : Ending.returned (.int .i64 x) = Ending.returned (.int .i64 y) := by rw [h]
theorem ret_bool {x y : Bool} (h : x = y) : Ending.returned (.bool x) = Ending.returned (.bool y) := by rw [h]

set_option maxHeartbeats 400000 in
set_option maxRecDepth 100000 in
theorem nearest_any (n : Int) (most : Nat) (w : World) :
    Calls Try.prog 39 #[.int .i64 n, .int .i64 most] w fun e w' => e = .returned (.int .i64 (near n most : Nat)) ∧ w' = w := by
  by_cases h1 : n < 0
  · have e : near n most = 0 := by unfold near; omega
    rw [e]
    go_enter Try.func39, Try.ntmps39
    go_wp2
    go_ret
    exact ⟨rfl, rfl⟩
  by_cases h2 : n ≤ (most : Int)
  · have e : ((near n most : Nat) : Int) = n := by unfold near; omega
    rw [e]
    go_enter Try.func39, Try.ntmps39
    go_wp2
    go_ret
    exact ⟨rfl, rfl⟩
  · have e : ((near n most : Nat) : Int) = (most : Int) := by unfold near; omega
    rw [e]
    go_enter Try.func39, Try.ntmps39
    go_wp2
    go_ret
    exact ⟨rfl, rfl⟩

def ar (o : Bool) : Int := if o then 1 else 0

set_option maxHeartbeats 400000 in
set_option maxRecDepth 100000 in
theorem has_yes (p : Value) (o : Bool) (w : World) :
    Calls Try.prog 27 #[p, .int .i64 (ar o)] w fun e w' => e = .returned (.bool true) ∧ w' = w := by
  cases o <;>
  · unfold ar
    go_enter Try.func27, Try.ntmps27
    go_wp2
    go_ret
    exact ⟨rfl, rfl⟩

set_option maxHeartbeats 400000 in
set_option maxRecDepth 100000 in
theorem has_no (p : Value) (a : Int) (w : World) (h0 : a ≠ 0) (h1 : a ≠ 1) :
    Calls Try.prog 27 #[p, .int .i64 a] w fun e w' => e = .returned (.bool false) ∧ w' = w := by
  by_cases h2 : 0 ≤ a
  · have h3 : ¬ a < 2 := by omega
    go_enter Try.func27, Try.ntmps27
    go_wp2
    go_ret
    exact ⟨rfl, rfl⟩
  · go_enter Try.func27, Try.ntmps27
    go_wp2
    go_ret
    exact ⟨rfl, rfl⟩

set_option maxHeartbeats 400000 in
set_option maxRecDepth 100000 in
theorem new_any (w : World) :
    Calls Try.prog 11 #[] w fun e w' => e = .returned (.pointer (some ⟨w.heap.size, 0, none⟩)) ∧ w' = w.alloc (.cells #[.string ⟨#[]⟩, .string ⟨#[]⟩, .string ⟨#[]⟩, .string ⟨#[]⟩, .slice none 0 0] 55) := by
  go_enter Try.func11, Try.ntmps11
  go_wp2
  go_ret
  exact ⟨rfl, rfl⟩

section
variable {w : World} {b : Nat} {v : Value} {dn ws : List Ch}

set_option maxHeartbeats 400000 in
set_option maxRecDepth 100000 in
theorem read_yes (o : Bool) (h : Has w b v dn ws) :
    Calls Try.prog 26 #[.pointer (some ⟨b, 0, none⟩), .int .i64 (ar o)] w fun e w' => e = .returned (.string (txt o (dn ++ ws))) ∧ w' = w := by
  have c0 := h.dsk.c0
  have c1 := h.dsk.c1
  go_enter Try.func26, Try.ntmps26
  go_wp2_with fail
  refine (has_yes _ o _).mono ?_
  rintro e w1 ⟨rfl, rfl⟩
  cases o <;>
  · unfold ar
    go_wp2
    go_ret
    exact ⟨rfl, rfl⟩

set_option maxHeartbeats 400000 in
set_option maxRecDepth 100000 in
theorem read_no (a : Int) (h0 : a ≠ 0) (h1 : a ≠ 1) (p : Addr) :
    Calls Try.prog 26 #[.pointer (some p), .int .i64 a] w fun e w' => e = .returned (.string ⟨#[]⟩) ∧ w' = w := by
  go_enter Try.func26, Try.ntmps26
  go_wp2_with fail
  refine (has_no _ a _ h0 h1).mono ?_
  rintro e w1 ⟨rfl, rfl⟩
  go_wp2
  go_ret
  exact ⟨rfl, rfl⟩





set_option maxHeartbeats 400000 in
set_option maxRecDepth 100000 in
theorem sync_any (h : Has w b v dn ws) :
    Calls Try.prog 25 #[.pointer (some ⟨b, 0, none⟩)] w fun e w' => e = .returned (.tuple #[]) ∧ Has w' b (.slice none 0 0) (dn ++ ws) [] ∧ Wrote b v w (.slice none 0 0) w' := by
  have c0 := h.dsk.c0
  have c1 := h.dsk.c1
  have c2 := h.dsk.c2
  have c3 := h.dsk.c3
  have c4 := h.dsk.c4
  have f2 := h.dsk.fz 2
  have f3 := h.dsk.fz 3
  have f4 := h.dsk.fz 4
  go_enter Try.func25, Try.ntmps25
  go_wp2
  go_end0
  refine ⟨rfl, ⟨⟨?_, by simp [Value.ownBlock], World.ownsRow_nil _ _ _ _⟩, by simpa using h.fits⟩, ((((Wrote.refl b v w).set _ _).set _ _).set _ _).turn (by simp [Value.ownBlock])⟩
  rw [heap_set _ (heap_set _ (heap_set _ h.dsk.at_))]
  simp

end

end Go.Proofs.Ytcofiidibhmhgaa
