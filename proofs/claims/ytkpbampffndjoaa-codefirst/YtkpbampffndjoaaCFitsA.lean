/-
  The walks of fits, the first ops.
-/
import Derived.Laws.StructEq
import Derived.Test.YtkpbampffndjoaaCFile
namespace Go.Proofs.Ytkpbampffndjoaa
open Go.RowKit

theorem fits_eq1 (a b c : Int) : fitsB ⟨1, a, b, c⟩ = (lowB a 4 && isZ c) := rfl
set_option maxHeartbeats 1600000 in
set_option maxRecDepth 100000 in
theorem fits_1 (a b c : Int) (w : World) :
    Calls Try.prog 16 #[.agg #[.int .i64 1, .int .i64 a, .int .i64 b, .int .i64 c]] w fun e w' => e = .returned (.bool (fitsB ⟨1, a, b, c⟩)) ∧ Below w.heap.size w w' := by
  rw [fits_eq1]
  cases h0 : lowB a 4 <;>
  (go_enter Try.func16, Try.ntmps16
   go_wp2_with (go_at_call 22; refine (below_any _ _ _).mono ?_; rintro e w1 ⟨rfl, rfl⟩)
   all_goals
     go_ret
     exact ⟨ret_bool (by simp_all [isZ]), (Below.refl _ _).alloc (Nat.le_refl _) _⟩)

theorem fits_eq2 (a b c : Int) : fitsB ⟨2, a, b, c⟩ = (lowB a 4 && lowB b 4 && isZ c) := rfl
set_option maxHeartbeats 1600000 in
set_option maxRecDepth 100000 in
theorem fits_2 (a b c : Int) (w : World) :
    Calls Try.prog 16 #[.agg #[.int .i64 2, .int .i64 a, .int .i64 b, .int .i64 c]] w fun e w' => e = .returned (.bool (fitsB ⟨2, a, b, c⟩)) ∧ Below w.heap.size w w' := by
  rw [fits_eq2]
  cases h0 : lowB a 4 <;> cases h1 : lowB b 4 <;>
  (go_enter Try.func16, Try.ntmps16
   go_wp2_with (go_at_call 22; refine (below_any _ _ _).mono ?_; rintro e w1 ⟨rfl, rfl⟩)
   all_goals
     go_ret
     exact ⟨ret_bool (by simp_all [isZ]), (Below.refl _ _).alloc (Nat.le_refl _) _⟩)

theorem fits_eq3 (a b c : Int) : fitsB ⟨3, a, b, c⟩ = (lowB b 4 && lowB c 3) := rfl
set_option maxHeartbeats 1600000 in
set_option maxRecDepth 100000 in
theorem fits_3 (a b c : Int) (w : World) :
    Calls Try.prog 16 #[.agg #[.int .i64 3, .int .i64 a, .int .i64 b, .int .i64 c]] w fun e w' => e = .returned (.bool (fitsB ⟨3, a, b, c⟩)) ∧ Below w.heap.size w w' := by
  rw [fits_eq3]
  cases h0 : lowB b 4 <;> cases h1 : lowB c 3 <;>
  (go_enter Try.func16, Try.ntmps16
   go_wp2_with (go_at_call 22; refine (below_any _ _ _).mono ?_; rintro e w1 ⟨rfl, rfl⟩)
   all_goals
     go_ret
     exact ⟨ret_bool (by simp_all ), (Below.refl _ _).alloc (Nat.le_refl _) _⟩)

theorem fits_eq6 (a b c : Int) : fitsB ⟨6, a, b, c⟩ = (lowB a 4 && lowB b 8 && isZ c) := rfl
set_option maxHeartbeats 1600000 in
set_option maxRecDepth 100000 in
theorem fits_6 (a b c : Int) (w : World) :
    Calls Try.prog 16 #[.agg #[.int .i64 6, .int .i64 a, .int .i64 b, .int .i64 c]] w fun e w' => e = .returned (.bool (fitsB ⟨6, a, b, c⟩)) ∧ Below w.heap.size w w' := by
  rw [fits_eq6]
  cases h0 : lowB a 4 <;> cases h1 : lowB b 8 <;>
  (go_enter Try.func16, Try.ntmps16
   go_wp2_with (go_at_call 22; refine (below_any _ _ _).mono ?_; rintro e w1 ⟨rfl, rfl⟩)
   all_goals
     go_ret
     exact ⟨ret_bool (by simp_all [isZ]), (Below.refl _ _).alloc (Nat.le_refl _) _⟩)

theorem fits_eq7 (a b c : Int) : fitsB ⟨7, a, b, c⟩ = (lowB a 8 && lowB b 4 && isZ c) := rfl
set_option maxHeartbeats 1600000 in
set_option maxRecDepth 100000 in
theorem fits_7 (a b c : Int) (w : World) :
    Calls Try.prog 16 #[.agg #[.int .i64 7, .int .i64 a, .int .i64 b, .int .i64 c]] w fun e w' => e = .returned (.bool (fitsB ⟨7, a, b, c⟩)) ∧ Below w.heap.size w w' := by
  rw [fits_eq7]
  cases h0 : lowB a 8 <;> cases h1 : lowB b 4 <;>
  (go_enter Try.func16, Try.ntmps16
   go_wp2_with (go_at_call 22; refine (below_any _ _ _).mono ?_; rintro e w1 ⟨rfl, rfl⟩)
   all_goals
     go_ret
     exact ⟨ret_bool (by simp_all [isZ]), (Below.refl _ _).alloc (Nat.le_refl _) _⟩)

end Go.Proofs.Ytkpbampffndjoaa
