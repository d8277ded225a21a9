/-
  The walks of fits, of ops without fields, of files, and of those that there aren't.
-/
import Derived.Laws.StructEq
import Derived.Test.YtkpbampffndjoaaCFitsA
import Derived.Test.YtkpbampffndjoaaCFitsB
namespace Go.Proofs.Ytkpbampffndjoaa
open Go.RowKit

set_option maxHeartbeats 1600000 in
set_option maxRecDepth 100000 in
theorem eql_ins (o a b c o' a' b' c' : Int) (w : World) :
    (binOp .eql 31 (.agg #[.int .i64 o, .int .i64 a, .int .i64 b, .int .i64 c]) (.agg #[.int .i64 o', .int .i64 a', .int .i64 b', .int .i64 c'])).run Try.prog w = .ok (.bool (o == o' && (a == a' && (b == b' && c == c')))) w := by
  have h0 : Try.prog.underlying 31 = some (.struct (Try.prog.fieldsOf 31)) := by kernel_rfl
  have h1 : Try.prog.stoodInHeld 31 = false := by kernel_rfl
  rw [run_eql_struct, run_equalIn_struct w 9999 _ _ _ h0 h1]
  simp [Program.fieldsOf, Try.underlying31, Op.eqFields, go_sem]
  split <;> (try split) <;> (try split) <;> (try split) <;> simp_all

theorem fits_eq0 (a b c : Int) : fitsB ⟨0, a, b, c⟩ = (isZ a && isZ b && isZ c) := rfl
set_option maxHeartbeats 1600000 in
set_option maxRecDepth 100000 in
theorem fits_0 (a b c : Int) (w : World) :
    Calls Try.prog 16 #[.agg #[.int .i64 0, .int .i64 a, .int .i64 b, .int .i64 c]] w fun e w' => e = .returned (.bool (fitsB ⟨0, a, b, c⟩)) ∧ Below w.heap.size w w' := by
  rw [fits_eq0]
  have q := fun w => eql_ins 0 a b c 0 0 0 0 w
  go_enter Try.func16, Try.ntmps16
  go_wp2
  go_ret
  exact ⟨ret_bool (by simp [isZ, Bool.and_assoc]), (Below.refl _ _).alloc (Nat.le_refl _) _⟩

theorem fits_eq4 (a b c : Int) : fitsB ⟨4, a, b, c⟩ = (isZ a && isZ b && isZ c) := rfl
set_option maxHeartbeats 1600000 in
set_option maxRecDepth 100000 in
theorem fits_4 (a b c : Int) (w : World) :
    Calls Try.prog 16 #[.agg #[.int .i64 4, .int .i64 a, .int .i64 b, .int .i64 c]] w fun e w' => e = .returned (.bool (fitsB ⟨4, a, b, c⟩)) ∧ Below w.heap.size w w' := by
  rw [fits_eq4]
  have q := fun w => eql_ins 4 a b c 4 0 0 0 w
  go_enter Try.func16, Try.ntmps16
  go_wp2
  go_ret
  exact ⟨ret_bool (by simp [isZ, Bool.and_assoc]), (Below.refl _ _).alloc (Nat.le_refl _) _⟩

theorem fits_eq5 (a b c : Int) : fitsB ⟨5, a, b, c⟩ = (isZ a && isZ b && isZ c) := rfl
set_option maxHeartbeats 1600000 in
set_option maxRecDepth 100000 in
theorem fits_5 (a b c : Int) (w : World) :
    Calls Try.prog 16 #[.agg #[.int .i64 5, .int .i64 a, .int .i64 b, .int .i64 c]] w fun e w' => e = .returned (.bool (fitsB ⟨5, a, b, c⟩)) ∧ Below w.heap.size w w' := by
  rw [fits_eq5]
  have q := fun w => eql_ins 5 a b c 5 0 0 0 w
  go_enter Try.func16, Try.ntmps16
  go_wp2
  go_ret
  exact ⟨ret_bool (by simp [isZ, Bool.and_assoc]), (Below.refl _ _).alloc (Nat.le_refl _) _⟩

theorem fits_eq19 (a b c : Int) : fitsB ⟨19, a, b, c⟩ = (isZ a && isZ b && isZ c) := rfl
set_option maxHeartbeats 1600000 in
set_option maxRecDepth 100000 in
theorem fits_19 (a b c : Int) (w : World) :
    Calls Try.prog 16 #[.agg #[.int .i64 19, .int .i64 a, .int .i64 b, .int .i64 c]] w fun e w' => e = .returned (.bool (fitsB ⟨19, a, b, c⟩)) ∧ Below w.heap.size w w' := by
  rw [fits_eq19]
  have q := fun w => eql_ins 19 a b c 19 0 0 0 w
  go_enter Try.func16, Try.ntmps16
  go_wp2
  go_ret
  exact ⟨ret_bool (by simp [isZ, Bool.and_assoc]), (Below.refl _ _).alloc (Nat.le_refl _) _⟩

theorem fits_eq21 (a b c : Int) : fitsB ⟨21, a, b, c⟩ = (isZ a && isZ b && isZ c) := rfl
set_option maxHeartbeats 1600000 in
set_option maxRecDepth 100000 in
theorem fits_21 (a b c : Int) (w : World) :
    Calls Try.prog 16 #[.agg #[.int .i64 21, .int .i64 a, .int .i64 b, .int .i64 c]] w fun e w' => e = .returned (.bool (fitsB ⟨21, a, b, c⟩)) ∧ Below w.heap.size w w' := by
  rw [fits_eq21]
  have q := fun w => eql_ins 21 a b c 21 0 0 0 w
  go_enter Try.func16, Try.ntmps16
  go_wp2
  go_ret
  exact ⟨ret_bool (by simp [isZ, Bool.and_assoc]), (Below.refl _ _).alloc (Nat.le_refl _) _⟩

set_option maxHeartbeats 1600000 in
set_option maxRecDepth 100000 in
theorem fits_8 (a b c : Int) (w : World) :
    Calls Try.prog 16 #[.agg #[.int .i64 8, .int .i64 a, .int .i64 b, .int .i64 c]] w fun e w' => e = .returned (.bool (fitsB ⟨8, a, b, c⟩)) ∧ Below w.heap.size w w' := by
  show Calls _ _ _ _ fun e w' => e = .returned (.bool (fitsFileB ⟨8, a, b, c⟩)) ∧ Below w.heap.size w w'
  go_enter Try.func16, Try.ntmps16
  go_wp2_with fail
  refine (file_8 a b c _).mono ?_
  rintro e w1 ⟨rfl, hb⟩
  go_wp2
  go_ret
  exact ⟨rfl, ((Below.refl _ _).alloc (Nat.le_refl _) _).trans (hb.mono (by simp))⟩

set_option maxHeartbeats 1600000 in
set_option maxRecDepth 100000 in
theorem fits_9 (a b c : Int) (w : World) :
    Calls Try.prog 16 #[.agg #[.int .i64 9, .int .i64 a, .int .i64 b, .int .i64 c]] w fun e w' => e = .returned (.bool (fitsB ⟨9, a, b, c⟩)) ∧ Below w.heap.size w w' := by
  show Calls _ _ _ _ fun e w' => e = .returned (.bool (fitsFileB ⟨9, a, b, c⟩)) ∧ Below w.heap.size w w'
  go_enter Try.func16, Try.ntmps16
  go_wp2_with fail
  refine (file_9 a b c _).mono ?_
  rintro e w1 ⟨rfl, hb⟩
  go_wp2
  go_ret
  exact ⟨rfl, ((Below.refl _ _).alloc (Nat.le_refl _) _).trans (hb.mono (by simp))⟩

set_option maxHeartbeats 1600000 in
set_option maxRecDepth 100000 in
theorem fits_10 (a b c : Int) (w : World) :
    Calls Try.prog 16 #[.agg #[.int .i64 10, .int .i64 a, .int .i64 b, .int .i64 c]] w fun e w' => e = .returned (.bool (fitsB ⟨10, a, b, c⟩)) ∧ Below w.heap.size w w' := by
  show Calls _ _ _ _ fun e w' => e = .returned (.bool (fitsFileB ⟨10, a, b, c⟩)) ∧ Below w.heap.size w w'
  go_enter Try.func16, Try.ntmps16
  go_wp2_with fail
  refine (file_10 a b c _).mono ?_
  rintro e w1 ⟨rfl, hb⟩
  go_wp2
  go_ret
  exact ⟨rfl, ((Below.refl _ _).alloc (Nat.le_refl _) _).trans (hb.mono (by simp))⟩

set_option maxHeartbeats 1600000 in
set_option maxRecDepth 100000 in
theorem fits_11 (a b c : Int) (w : World) :
    Calls Try.prog 16 #[.agg #[.int .i64 11, .int .i64 a, .int .i64 b, .int .i64 c]] w fun e w' => e = .returned (.bool (fitsB ⟨11, a, b, c⟩)) ∧ Below w.heap.size w w' := by
  show Calls _ _ _ _ fun e w' => e = .returned (.bool (fitsFileB ⟨11, a, b, c⟩)) ∧ Below w.heap.size w w'
  go_enter Try.func16, Try.ntmps16
  go_wp2_with fail
  refine (file_11 a b c _).mono ?_
  rintro e w1 ⟨rfl, hb⟩
  go_wp2
  go_ret
  exact ⟨rfl, ((Below.refl _ _).alloc (Nat.le_refl _) _).trans (hb.mono (by simp))⟩

set_option maxHeartbeats 1600000 in
set_option maxRecDepth 100000 in
theorem fits_12 (a b c : Int) (w : World) :
    Calls Try.prog 16 #[.agg #[.int .i64 12, .int .i64 a, .int .i64 b, .int .i64 c]] w fun e w' => e = .returned (.bool (fitsB ⟨12, a, b, c⟩)) ∧ Below w.heap.size w w' := by
  show Calls _ _ _ _ fun e w' => e = .returned (.bool (fitsFileB ⟨12, a, b, c⟩)) ∧ Below w.heap.size w w'
  go_enter Try.func16, Try.ntmps16
  go_wp2_with fail
  refine (file_12 a b c _).mono ?_
  rintro e w1 ⟨rfl, hb⟩
  go_wp2
  go_ret
  exact ⟨rfl, ((Below.refl _ _).alloc (Nat.le_refl _) _).trans (hb.mono (by simp))⟩

set_option maxHeartbeats 1600000 in
set_option maxRecDepth 100000 in
theorem fits_13 (a b c : Int) (w : World) :
    Calls Try.prog 16 #[.agg #[.int .i64 13, .int .i64 a, .int .i64 b, .int .i64 c]] w fun e w' => e = .returned (.bool (fitsB ⟨13, a, b, c⟩)) ∧ Below w.heap.size w w' := by
  show Calls _ _ _ _ fun e w' => e = .returned (.bool (fitsFileB ⟨13, a, b, c⟩)) ∧ Below w.heap.size w w'
  go_enter Try.func16, Try.ntmps16
  go_wp2_with fail
  refine (file_13 a b c _).mono ?_
  rintro e w1 ⟨rfl, hb⟩
  go_wp2
  go_ret
  exact ⟨rfl, ((Below.refl _ _).alloc (Nat.le_refl _) _).trans (hb.mono (by simp))⟩

/-- No op. -/
def NoOp (op : Int) : Prop := op < 0 ∨ 21 < op

theorem fits_no {op : Int} (h : NoOp op) (a b c : Int) : fitsB ⟨op, a, b, c⟩ = false := by
  unfold NoOp at h
  simp only [fitsB, isBare, isFile]
  repeat rw [if_neg (by omega)]

set_option maxHeartbeats 1600000 in
set_option maxRecDepth 100000 in
theorem fits_none {op : Int} (h : NoOp op) (a b c : Int) (w : World) :
    Calls Try.prog 16 #[.agg #[.int .i64 op, .int .i64 a, .int .i64 b, .int .i64 c]] w fun e w' => e = .returned (.bool (fitsB ⟨op, a, b, c⟩)) ∧ Below w.heap.size w w' := by
  rw [fits_no h]
  unfold NoOp at h
  have n0 : ¬ op = 0 := by omega
  have n1 : ¬ op = 1 := by omega
  have n2 : ¬ op = 2 := by omega
  have n3 : ¬ op = 3 := by omega
  have n4 : ¬ op = 4 := by omega
  have n5 : ¬ op = 5 := by omega
  have n6 : ¬ op = 6 := by omega
  have n7 : ¬ op = 7 := by omega
  have n8 : ¬ op = 8 := by omega
  have n9 : ¬ op = 9 := by omega
  have n10 : ¬ op = 10 := by omega
  have n11 : ¬ op = 11 := by omega
  have n12 : ¬ op = 12 := by omega
  have n13 : ¬ op = 13 := by omega
  have n14 : ¬ op = 14 := by omega
  have n15 : ¬ op = 15 := by omega
  have n16 : ¬ op = 16 := by omega
  have n17 : ¬ op = 17 := by omega
  have n18 : ¬ op = 18 := by omega
  have n19 : ¬ op = 19 := by omega
  have n20 : ¬ op = 20 := by omega
  have n21 : ¬ op = 21 := by omega
  clear h
  go_enter Try.func16, Try.ntmps16
  go_wp2
  go_ret
  exact ⟨rfl, (Below.refl _ _).alloc (Nat.le_refl _) _⟩

set_option maxRecDepth 100000 in
theorem fits_any (x : Ins) (w : World) :
    Calls Try.prog 16 #[insV x] w fun e w' => e = .returned (.bool (fitsB x)) ∧ Below w.heap.size w w' := by
  obtain ⟨op, a, b, c⟩ := x
  show Calls Try.prog 16 #[.agg #[.int .i64 op, .int .i64 a, .int .i64 b, .int .i64 c]] w _
  by_cases h : NoOp op
  · exact fits_none h a b c w
  unfold NoOp at h
  obtain ⟨n, rfl⟩ : ∃ n : Nat, op = n := ⟨op.toNat, by omega⟩
  have hn : n < 22 := by omega
  clear h
  match n, hn with
  | 0, _ => exact fits_0 a b c w
  | 1, _ => exact fits_1 a b c w
  | 2, _ => exact fits_2 a b c w
  | 3, _ => exact fits_3 a b c w
  | 4, _ => exact fits_4 a b c w
  | 5, _ => exact fits_5 a b c w
  | 6, _ => exact fits_6 a b c w
  | 7, _ => exact fits_7 a b c w
  | 8, _ => exact fits_8 a b c w
  | 9, _ => exact fits_9 a b c w
  | 10, _ => exact fits_10 a b c w
  | 11, _ => exact fits_11 a b c w
  | 12, _ => exact fits_12 a b c w
  | 13, _ => exact fits_13 a b c w
  | 14, _ => exact fits_14 a b c w
  | 15, _ => exact fits_15 a b c w
  | 16, _ => exact fits_16 a b c w
  | 17, _ => exact fits_17 a b c w
  | 18, _ => exact fits_18 a b c w
  | 19, _ => exact fits_19 a b c w
  | 20, _ => exact fits_20 a b c w
  | 21, _ => exact fits_21 a b c w
  | n + 22, hn => exact absurd hn (by omega)

end Go.Proofs.Ytkpbampffndjoaa
