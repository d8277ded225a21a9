/-
  The walks of fits, later ops.
-/
import Derived.Laws.StructEq
import Derived.Test.YtkpbampffndjoaaCFile
namespace Go.Proofs.Ytkpbampffndjoaa
open Go.RowKit

theorem fits_eq14 (a b c : Int) : fitsB ⟨14, a, b, c⟩ = (lowB a 4 && lowB b 3 && isZ c) := rfl
set_option maxHeartbeats 1600000 in
set_option maxRecDepth 100000 in
theorem fits_14 (a b c : Int) (w : World) :
    Calls Try.prog 16 #[.agg #[.int .i64 14, .int .i64 a, .int .i64 b, .int .i64 c]] w fun e w' => e = .returned (.bool (fitsB ⟨14, a, b, c⟩)) ∧ Below w.heap.size w w' := by
  rw [fits_eq14]
  cases h0 : lowB a 4 <;> cases h1 : lowB b 3 <;>
  (go_enter Try.func16, Try.ntmps16
   go_wp2_with (go_at_call 22; refine (below_any _ _ _).mono ?_; rintro e w1 ⟨rfl, rfl⟩)
   all_goals
     go_ret
     exact ⟨ret_bool (by simp_all [isZ]), (Below.refl _ _).alloc (Nat.le_refl _) _⟩)

theorem fits_eq15 (a b c : Int) : fitsB ⟨15, a, b, c⟩ = (lowB a 3 && lowB b 4 && isZ c) := rfl
set_option maxHeartbeats 1600000 in
set_option maxRecDepth 100000 in
theorem fits_15 (a b c : Int) (w : World) :
    Calls Try.prog 16 #[.agg #[.int .i64 15, .int .i64 a, .int .i64 b, .int .i64 c]] w fun e w' => e = .returned (.bool (fitsB ⟨15, a, b, c⟩)) ∧ Below w.heap.size w w' := by
  rw [fits_eq15]
  cases h0 : lowB a 3 <;> cases h1 : lowB b 4 <;>
  (go_enter Try.func16, Try.ntmps16
   go_wp2_with (go_at_call 22; refine (below_any _ _ _).mono ?_; rintro e w1 ⟨rfl, rfl⟩)
   all_goals
     go_ret
     exact ⟨ret_bool (by simp_all [isZ]), (Below.refl _ _).alloc (Nat.le_refl _) _⟩)

theorem fits_eq16 (a b c : Int) : fitsB ⟨16, a, b, c⟩ = (lowB a 3 && lowB b 256 && isZ c) := rfl
set_option maxHeartbeats 1600000 in
set_option maxRecDepth 100000 in
theorem fits_16 (a b c : Int) (w : World) :
    Calls Try.prog 16 #[.agg #[.int .i64 16, .int .i64 a, .int .i64 b, .int .i64 c]] w fun e w' => e = .returned (.bool (fitsB ⟨16, a, b, c⟩)) ∧ Below w.heap.size w w' := by
  rw [fits_eq16]
  cases h0 : lowB a 3 <;> cases h1 : lowB b 256 <;>
  (go_enter Try.func16, Try.ntmps16
   go_wp2_with (go_at_call 22; refine (below_any _ _ _).mono ?_; rintro e w1 ⟨rfl, rfl⟩)
   all_goals
     go_ret
     exact ⟨ret_bool (by simp_all [isZ]), (Below.refl _ _).alloc (Nat.le_refl _) _⟩)

theorem fits_eq17 (a b c : Int) : fitsB ⟨17, a, b, c⟩ = (lowB a 256 && isZ b && isZ c) := rfl
set_option maxHeartbeats 1600000 in
set_option maxRecDepth 100000 in
theorem fits_17 (a b c : Int) (w : World) :
    Calls Try.prog 16 #[.agg #[.int .i64 17, .int .i64 a, .int .i64 b, .int .i64 c]] w fun e w' => e = .returned (.bool (fitsB ⟨17, a, b, c⟩)) ∧ Below w.heap.size w w' := by
  rw [fits_eq17]
  cases h0 : lowB a 256 <;>
  (go_enter Try.func16, Try.ntmps16
   go_wp2_with (go_at_call 22; refine (below_any _ _ _).mono ?_; rintro e w1 ⟨rfl, rfl⟩)
   all_goals
     go_ret
     exact ⟨ret_bool (by simp_all [isZ]), (Below.refl _ _).alloc (Nat.le_refl _) _⟩)

theorem fits_eq18 (a b c : Int) : fitsB ⟨18, a, b, c⟩ = (lowB a 4 && decide (-100 ≤ b) && decide (b ≤ 100) && isZ c) := rfl
set_option maxHeartbeats 1600000 in
set_option maxRecDepth 100000 in
theorem fits_18 (a b c : Int) (w : World) :
    Calls Try.prog 16 #[.agg #[.int .i64 18, .int .i64 a, .int .i64 b, .int .i64 c]] w fun e w' => e = .returned (.bool (fitsB ⟨18, a, b, c⟩)) ∧ Below w.heap.size w w' := by
  rw [fits_eq18]
  cases h0 : lowB a 4 <;>
  (go_enter Try.func16, Try.ntmps16
   go_wp2_with (go_at_call 22; refine (below_any _ _ _).mono ?_; rintro e w1 ⟨rfl, rfl⟩)
   all_goals
     go_ret
     exact ⟨ret_bool (by simp_all [isZ] <;> omega), (Below.refl _ _).alloc (Nat.le_refl _) _⟩)

theorem fits_eq20 (a b c : Int) : fitsB ⟨20, a, b, c⟩ = (isZ b && isZ c) := rfl
set_option maxHeartbeats 1600000 in
set_option maxRecDepth 100000 in
theorem fits_20 (a b c : Int) (w : World) :
    Calls Try.prog 16 #[.agg #[.int .i64 20, .int .i64 a, .int .i64 b, .int .i64 c]] w fun e w' => e = .returned (.bool (fitsB ⟨20, a, b, c⟩)) ∧ Below w.heap.size w w' := by
  rw [fits_eq20]
  go_enter Try.func16, Try.ntmps16
  go_wp2
  all_goals
    go_ret
    exact ⟨ret_bool (by simp_all [isZ]), (Below.refl _ _).alloc (Nat.le_refl _) _⟩

end Go.Proofs.Ytkpbampffndjoaa
