/-
  The walks of fitsFile.
-/
import Derived.Laws.StructEq
import Derived.Test.YtkpbampffndjoaaCSmall
namespace Go.Proofs.Ytkpbampffndjoaa
open Go.RowKit

theorem ret_bool {a b : Bool} (h : a = b) : Ending.returned (.bool a) = .returned (.bool b) := by rw [h]

theorem file_eq8 (a b c : Int) : fitsFileB ⟨8, a, b, c⟩ = (lowB a 4 && lowB b 6 && lowB c 32) := rfl
set_option maxHeartbeats 1600000 in
set_option maxRecDepth 100000 in
theorem file_8 (a b c : Int) (w : World) :
    Calls Try.prog 23 #[.agg #[.int .i64 8, .int .i64 a, .int .i64 b, .int .i64 c]] w fun e w' => e = .returned (.bool (fitsFileB ⟨8, a, b, c⟩)) ∧ Below w.heap.size w w' := by
  rw [file_eq8]
  cases h0 : lowB a 4 <;> cases h1 : lowB b 6 <;> cases h2 : lowB c 32 <;>
  (go_enter Try.func23, Try.ntmps23
   go_wp2_with (go_at_call 22; refine (below_any _ _ _).mono ?_; rintro e w1 ⟨rfl, rfl⟩)
   all_goals
     go_ret
     exact ⟨ret_bool (by simp_all ), (Below.refl _ _).alloc (Nat.le_refl _) _⟩)

theorem file_eq9 (a b c : Int) : fitsFileB ⟨9, a, b, c⟩ = (lowB a 6 && lowB b 32 && lowB c 4) := rfl
set_option maxHeartbeats 1600000 in
set_option maxRecDepth 100000 in
theorem file_9 (a b c : Int) (w : World) :
    Calls Try.prog 23 #[.agg #[.int .i64 9, .int .i64 a, .int .i64 b, .int .i64 c]] w fun e w' => e = .returned (.bool (fitsFileB ⟨9, a, b, c⟩)) ∧ Below w.heap.size w w' := by
  rw [file_eq9]
  cases h0 : lowB a 6 <;> cases h1 : lowB b 32 <;> cases h2 : lowB c 4 <;>
  (go_enter Try.func23, Try.ntmps23
   go_wp2_with (go_at_call 22; refine (below_any _ _ _).mono ?_; rintro e w1 ⟨rfl, rfl⟩)
   all_goals
     go_ret
     exact ⟨ret_bool (by simp_all ), (Below.refl _ _).alloc (Nat.le_refl _) _⟩)

theorem file_eq10 (a b c : Int) : fitsFileB ⟨10, a, b, c⟩ = (lowB a 6 && isZ b && isZ c) := rfl
set_option maxHeartbeats 1600000 in
set_option maxRecDepth 100000 in
theorem file_10 (a b c : Int) (w : World) :
    Calls Try.prog 23 #[.agg #[.int .i64 10, .int .i64 a, .int .i64 b, .int .i64 c]] w fun e w' => e = .returned (.bool (fitsFileB ⟨10, a, b, c⟩)) ∧ Below w.heap.size w w' := by
  rw [file_eq10]
  cases h0 : lowB a 6 <;>
  (go_enter Try.func23, Try.ntmps23
   go_wp2_with (go_at_call 22; refine (below_any _ _ _).mono ?_; rintro e w1 ⟨rfl, rfl⟩)
   all_goals
     go_ret
     exact ⟨ret_bool (by simp_all [isZ]), (Below.refl _ _).alloc (Nat.le_refl _) _⟩)

theorem file_eq11 (a b c : Int) : fitsFileB ⟨11, a, b, c⟩ = (lowB a 6 && isZ b && isZ c) := rfl
set_option maxHeartbeats 1600000 in
set_option maxRecDepth 100000 in
theorem file_11 (a b c : Int) (w : World) :
    Calls Try.prog 23 #[.agg #[.int .i64 11, .int .i64 a, .int .i64 b, .int .i64 c]] w fun e w' => e = .returned (.bool (fitsFileB ⟨11, a, b, c⟩)) ∧ Below w.heap.size w w' := by
  rw [file_eq11]
  cases h0 : lowB a 6 <;>
  (go_enter Try.func23, Try.ntmps23
   go_wp2_with (go_at_call 22; refine (below_any _ _ _).mono ?_; rintro e w1 ⟨rfl, rfl⟩)
   all_goals
     go_ret
     exact ⟨ret_bool (by simp_all [isZ]), (Below.refl _ _).alloc (Nat.le_refl _) _⟩)

theorem file_eq12 (a b c : Int) : fitsFileB ⟨12, a, b, c⟩ = (lowB a 6 && lowB b 6 && (a != b) && isZ c) := rfl
set_option maxHeartbeats 1600000 in
set_option maxRecDepth 100000 in
theorem file_12 (a b c : Int) (w : World) :
    Calls Try.prog 23 #[.agg #[.int .i64 12, .int .i64 a, .int .i64 b, .int .i64 c]] w fun e w' => e = .returned (.bool (fitsFileB ⟨12, a, b, c⟩)) ∧ Below w.heap.size w w' := by
  rw [file_eq12]
  cases h0 : lowB a 6 <;> cases h1 : lowB b 6 <;>
  (go_enter Try.func23, Try.ntmps23
   go_wp2_with (go_at_call 22; refine (below_any _ _ _).mono ?_; rintro e w1 ⟨rfl, rfl⟩)
   all_goals
     go_ret
     exact ⟨ret_bool (by simp_all [isZ]), (Below.refl _ _).alloc (Nat.le_refl _) _⟩)

theorem file_eq13 (a b c : Int) : fitsFileB ⟨13, a, b, c⟩ = (lowB a 6 && lowB b 33 && isZ c) := rfl
set_option maxHeartbeats 1600000 in
set_option maxRecDepth 100000 in
theorem file_13 (a b c : Int) (w : World) :
    Calls Try.prog 23 #[.agg #[.int .i64 13, .int .i64 a, .int .i64 b, .int .i64 c]] w fun e w' => e = .returned (.bool (fitsFileB ⟨13, a, b, c⟩)) ∧ Below w.heap.size w w' := by
  rw [file_eq13]
  cases h0 : lowB a 6 <;> cases h1 : lowB b 33 <;>
  (go_enter Try.func23, Try.ntmps23
   go_wp2_with (go_at_call 22; refine (below_any _ _ _).mono ?_; rintro e w1 ⟨rfl, rfl⟩)
   all_goals
     go_ret
     exact ⟨ret_bool (by simp_all [isZ]), (Below.refl _ _).alloc (Nat.le_refl _) _⟩)

end Go.Proofs.Ytkpbampffndjoaa
