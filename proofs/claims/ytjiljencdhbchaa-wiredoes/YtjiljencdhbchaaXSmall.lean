/-
  The walks of New, way, All, Trace, Left and Pump of a wire.
-/
import Derived.Test.YtjiljencdhbchaaRows
import Derived.BigRegion
import Derived.BigQuiet
import Derived.Test.YtjiljencdhbchaaXMem
namespace Go.Proofs.Ytjiljencdhbchaa
open Go.RowKit

set_option maxHeartbeats 400000 in
set_option maxRecDepth 100000 in
theorem new_any (w : World) :
    Calls Try.prog 10 #[] w fun e w' => e = .returned (.pointer (some ⟨w.heap.size, 0, none⟩)) ∧
      w' = w.alloc (.cells #[.slice none 0 0, .int .i64 0, .int .i64 0, .slice none 0 0, .int .i64 0, .int .i64 0, .slice none 0 0, .int .i64 0, .int .i64 0] 48) := by
  go_enter Try.func10, Try.ntmps10
  go_wp2
  go_ret
  exact ⟨rfl, rfl⟩

set_option maxHeartbeats 400000 in
set_option maxRecDepth 100000 in
theorem way_yes (b i : Nat) (hi : i < 3) (w : World) :
    Calls Try.prog 22 #[.pointer (some ⟨b, 0, none⟩), .int .i64 i] w fun e w' => e = .returned (.pointer (some ⟨b, i * 3, none⟩)) ∧ w' = w := by
  have h0 : ¬ (i : Int) < 0 := by omega
  have h1 : ¬ (3 : Int) ≤ i := by omega
  go_enter Try.func22, Try.ntmps22
  go_wp2
  go_ret
  exact ⟨rfl, rfl⟩

/-- No such socket. -/
def Not3 (s : Int) : Prop := s < 0 ∨ 3 ≤ s

set_option maxHeartbeats 400000 in
set_option maxRecDepth 100000 in
theorem way_no (p : Option Addr) (s : Int) (hs : Not3 s) (w : World) :
    Calls Try.prog 22 #[.pointer p, .int .i64 s] w fun e w' => e = .returned (.pointer none) ∧ w' = w := by
  by_cases h0 : s < 0
  · cases p <;>
    · go_enter Try.func22, Try.ntmps22
      go_wp2
      go_ret
      exact ⟨rfl, rfl⟩
  · have h1 : (3 : Int) ≤ s := by unfold Not3 at hs; omega
    clear hs
    cases p <;>
    · go_enter Try.func22, Try.ntmps22
      go_wp2
      go_ret
      exact ⟨rfl, rfl⟩

set_option maxHeartbeats 400000 in
set_option maxRecDepth 100000 in
theorem way_nil (s : Int) (w : World) :
    Calls Try.prog 22 #[.pointer none, .int .i64 s] w fun e w' => e = .returned (.pointer none) ∧ w' = w := by
  go_enter Try.func22, Try.ntmps22
  go_wp2
  go_ret
  exact ⟨rfl, rfl⟩

/-- A pointer and a number that name no way. -/
def NoWay (p : Option Addr) (s : Int) : Prop := p = none ∨ Not3 s

set_option maxRecDepth 100000 in
theorem way_none (p : Option Addr) (s : Int) (h : NoWay p s) (w : World) :
    Calls Try.prog 22 #[.pointer p, .int .i64 s] w fun e w' => e = .returned (.pointer none) ∧ w' = w := by
  rcases h with h | h
  · rw [h]; exact way_nil s w
  · exact way_no p s h w

set_option maxHeartbeats 400000 in
set_option maxRecDepth 100000 in
theorem push_none (p : Option Addr) (s : Int) (x : ByteArray) (h : NoWay p s) (w : World) :
    Calls Try.prog 12 #[.pointer p, .int .i64 s, .string x] w fun e w' => e = .returned (.bool false) ∧ w' = w := by
  go_enter Try.func12, Try.ntmps12
  go_wp2_with fail
  refine (way_none p s h _).mono ?_
  rintro e w1 ⟨rfl, rfl⟩
  go_wp2
  go_ret
  exact ⟨rfl, rfl⟩

set_option maxHeartbeats 400000 in
set_option maxRecDepth 100000 in
theorem pump_none (p : Option Addr) (s : Int) (h : NoWay p s) (w : World) :
    Calls Try.prog 14 #[.pointer p, .int .i64 s] w fun e w' => e = .returned (.int .i64 0) ∧ w' = w := by
  go_enter Try.func14, Try.ntmps14
  go_wp2_with fail
  refine (way_none p s h _).mono ?_
  rintro e w1 ⟨rfl, rfl⟩
  go_wp2
  go_ret
  exact ⟨rfl, rfl⟩

set_option maxHeartbeats 400000 in
set_option maxRecDepth 100000 in
theorem take_none (p : Option Addr) (s n : Int) (h : NoWay p s) (w : World) :
    Calls Try.prog 16 #[.pointer p, .int .i64 s, .int .i64 n] w fun e w' => e = .returned (.string ⟨#[]⟩) ∧ w' = w := by
  go_enter Try.func16, Try.ntmps16
  go_wp2_with fail
  refine (way_none p s h _).mono ?_
  rintro e w1 ⟨rfl, rfl⟩
  go_wp2
  go_ret
  exact ⟨rfl, rfl⟩

set_option maxHeartbeats 400000 in
set_option maxRecDepth 100000 in
theorem trace_none (p : Option Addr) (s : Int) (h : NoWay p s) (w : World) :
    Calls Try.prog 19 #[.pointer p, .int .i64 s] w fun e w' => e = .returned (.string ⟨#[]⟩) ∧ w' = w := by
  go_enter Try.func19, Try.ntmps19
  go_wp2_with fail
  refine (way_none p s h _).mono ?_
  rintro e w1 ⟨rfl, rfl⟩
  go_wp2
  go_ret
  exact ⟨rfl, rfl⟩

set_option maxHeartbeats 400000 in
set_option maxRecDepth 100000 in
theorem all_none (p : Option Addr) (s : Int) (h : NoWay p s) (w : World) :
    Calls Try.prog 20 #[.pointer p, .int .i64 s] w fun e w' => e = .returned (.string ⟨#[]⟩) ∧ w' = w := by
  go_enter Try.func20, Try.ntmps20
  go_wp2_with fail
  refine (way_none p s h _).mono ?_
  rintro e w1 ⟨rfl, rfl⟩
  go_wp2
  go_ret
  exact ⟨rfl, rfl⟩

set_option maxHeartbeats 400000 in
set_option maxRecDepth 100000 in
theorem left_none (p : Option Addr) (s : Int) (h : NoWay p s) (w : World) :
    Calls Try.prog 21 #[.pointer p, .int .i64 s] w fun e w' => e = .returned (.int .i64 0) ∧ w' = w := by
  go_enter Try.func21, Try.ntmps21
  go_wp2_with fail
  refine (way_none p s h _).mono ?_
  rintro e w1 ⟨rfl, rfl⟩
  go_wp2
  go_ret
  exact ⟨rfl, rfl⟩

set_option maxHeartbeats 400000 in
set_option maxRecDepth 100000 in
theorem crash_none (w : World) :
    Calls Try.prog 17 #[.pointer none] w fun e w' => e = .returned (.tuple #[]) ∧ w' = w := by
  go_enter Try.func17, Try.ntmps17
  go_wp2
  refine bodyPost_ret (results_none rfl _ _ _) rfl ?_
  exact ⟨rfl, rfl⟩

end Go.Proofs.Ytjiljencdhbchaa
