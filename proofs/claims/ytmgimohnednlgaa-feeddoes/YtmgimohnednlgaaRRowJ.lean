/-
  A row of things with versions in memory (things: int), and the walks of its calls.
-/
import Derived.Test.YtmgimohnednlgaaRLow
namespace Go.Proofs.Ytmgimohnednlgaa.Cel.I
open Go.RowKit

/-- Things as cells. -/
def thC : List (Int × Int) → List Value
  | [] => []
  | x :: r => (.int .i64 (x.1)) :: .int .i64 x.2 :: thC r

theorem thC_length (R : List (Int × Int)) : (thC R).length = R.length * 2 := by
  induction R with
  | nil => rfl
  | cons x r ih => simp [thC, ih]; omega

theorem thC_get (R : List (Int × Int)) : ∀ j, j < R.length → (thC R)[j * 2]? = some (.int .i64 (R[j]!.1)) ∧ (thC R)[j * 2 + 1]? = some (.int .i64 R[j]!.2) := by
  induction R with
  | nil => intro j hj; simp at hj
  | cons x r ih =>
    intro j hj
    cases j with
    | zero => exact ⟨rfl, rfl⟩
    | succ j =>
      have h := ih j (by simpa using hj)
      have e0 : (j + 1) * 2 = j * 2 + 2 := by omega
      rw [e0]
      have g : (x :: r)[j + 1]! = r[j]! := by simp
      rw [g]
      exact h

theorem thC_set (R : List (Int × Int)) (x : Int) (v : Int) : ∀ j, j < R.length → ((thC R).set (j * 2) (.int .i64 (x))).set (j * 2 + 1) (.int .i64 v) = thC (R.set j (x, v)) := by
  induction R with
  | nil => intro j hj; simp at hj
  | cons y r ih =>
    intro j hj
    cases j with
    | zero => rfl
    | succ j =>
      have h := ih j (by simpa using hj)
      have e0 : (j + 1) * 2 = j * 2 + 2 := by omega
      have e1 : j * 2 + 2 + 1 = j * 2 + 1 + 2 := by omega
      rw [e0, e1]
      show _ :: _ :: ((thC r).set (j * 2) _).set (j * 2 + 1) _ = _ :: _ :: thC (r.set j (x, v))
      rw [h]

theorem thC_set0 (R : List (Int × Int)) (x : Int) : ∀ j, j < R.length → (thC R).set (j * 2) (.int .i64 (x)) = thC (R.set j (x, R[j]!.2)) := by
  induction R with
  | nil => intro j hj; simp at hj
  | cons y r ih =>
    intro j hj
    cases j with
    | zero => rfl
    | succ j =>
      have h := ih j (by simpa using hj)
      have e0 : (j + 1) * 2 = j * 2 + 2 := by omega
      have g : (y :: r)[j + 1]! = r[j]! := by simp
      rw [e0, g]
      show _ :: _ :: (thC r).set (j * 2) _ = _ :: _ :: thC (r.set j (x, r[j]!.2))
      rw [h]

/-- The row in block b, its things in block g. -/
structure RowAt (w : World) (b g : Nat) (R : List (Int × Int)) : Prop where
  at_ : w.heap[b]? = some (.cells #[.slice (some ⟨g, 0, none⟩) R.length R.length] 55 (0, 0))
  row : w.heap[g]? = some (.cells (thC R).toArray 57 (0, 0))
  short : R.length ≤ 1024

section
variable {w w' : World} {b g : Nat} {R : List (Int × Int)}

theorem RowAt.sl (h : RowAt w b g R) : w.cell? ⟨b, 0, none⟩ = some (.slice (some ⟨g, 0, none⟩) R.length R.length) := cell_at h.at_ rfl
theorem RowAt.val (h : RowAt w b g R) (j : Nat) (hj : j < R.length) : w.cell? ⟨g, j * 2, none⟩ = some (.int .i64 (R[j]!.1)) := cell_at h.row (by simpa using (thC_get R j hj).1)
theorem RowAt.ver (h : RowAt w b g R) (j : Nat) (hj : j < R.length) : w.cell? ⟨g, j * 2 + 1, none⟩ = some (.int .i64 R[j]!.2) := cell_at h.row (by simpa using (thC_get R j hj).2)
theorem RowAt.fz (h : RowAt w b g R) (i : Nat) : w.frozen? ⟨g, i, none⟩ = false := free_at h.row
theorem RowAt.lt (h : RowAt w b g R) : b < w.heap.size := (Array.getElem?_eq_some_iff.1 h.at_).1
theorem RowAt.ltg (h : RowAt w b g R) : g < w.heap.size := (Array.getElem?_eq_some_iff.1 h.row).1
theorem RowAt.ne (h : RowAt w b g R) : b ≠ g := fun e => by
  have h1 := h.at_
  rw [e, h.row] at h1
  injection h1 with h1
  injection h1 with _ h1
  exact absurd h1 (by decide)
theorem RowAt.keep (h : RowAt w b g R) (hb : w'.heap[b]? = w.heap[b]?) (hg : w'.heap[g]? = w.heap[g]?) : RowAt w' b g R := ⟨hb.trans h.at_, hg.trans h.row, h.short⟩
theorem RowAt.grown (h : RowAt w b g R) (hb : Below w.heap.size w w') : RowAt w' b g R := h.keep (hb.block b h.lt) (hb.block g h.ltg)
theorem RowAt.drewN (h : RowAt w b g R) (n : Nat) : RowAt (w.drewN n) b g R := h.keep (by rw [heap_drewN]) (by rw [heap_drewN])

theorem RowAt.set0 (h : RowAt w b g R) (j : Nat) (hj : j < R.length) (x : Int) : RowAt (w.setCell ⟨g, j * 2, none⟩ (.int .i64 (x))) b g (R.set j (x, R[j]!.2)) := by
  refine ⟨?_, ?_, by simpa using h.short⟩
  · rw [Below.heap_setCell _ _ _ _ h.ne, List.length_set]
    exact h.at_
  · rw [heap_set _ h.row, ← thC_set0 R x j hj]
    simp

theorem RowAt.set1 (h : RowAt w b g R) (j : Nat) (hj : j < R.length) (x : Int) (v : Int) : RowAt ((w.setCell ⟨g, j * 2, none⟩ (.int .i64 (x))).setCell ⟨g, j * 2 + 1, none⟩ (.int .i64 v)) b g (R.set j (x, v)) := by
  refine ⟨?_, ?_, by simpa using h.short⟩
  · rw [Below.heap_setCell _ _ _ _ h.ne, Below.heap_setCell _ _ _ _ h.ne, List.length_set]
    exact h.at_
  · rw [heap_set _ (heap_set _ h.row), ← thC_set R x v j hj]
    simp

/-! ### The walks -/

set_option maxHeartbeats 400000 in
set_option maxRecDepth 100000 in
theorem len_yes (h : RowAt w b g R) :
    Calls Try.prog 24 #[.pointer (some ⟨b, 0, none⟩)] w fun e w' => e = .returned (.int .i64 (R.length : Nat)) ∧ w' = w := by
  have c0 := h.sl
  clear h
  go_enter Try.func24, Try.ntmps24
  go_wp2
  go_ret
  exact ⟨rfl, rfl⟩

set_option maxHeartbeats 400000 in
set_option maxRecDepth 100000 in
theorem len_nil (w : World) : Calls Try.prog 24 #[.pointer none] w fun e w' => e = .returned (.int .i64 0) ∧ w' = w := by
  go_enter Try.func24, Try.ntmps24
  go_wp2
  go_ret
  exact ⟨rfl, rfl⟩

set_option maxHeartbeats 400000 in
set_option maxRecDepth 100000 in
theorem has_yes (h : RowAt w b g R) (j : Nat) (hj : j < R.length) :
    Calls Try.prog 23 #[.pointer (some ⟨b, 0, none⟩), .int .i64 (j : Nat)] w fun e w' => e = .returned (.bool true) ∧ w' = w := by
  go_enter Try.func23, Try.ntmps23
  go_wp2_with fail
  refine (len_yes h).mono ?_
  rintro e w1 ⟨rfl, rfl⟩
  go_wp2
  go_ret
  exact ⟨rfl, rfl⟩

set_option maxHeartbeats 400000 in
set_option maxRecDepth 100000 in
theorem has_no (h : RowAt w b g R) (i : Int) (hi : ¬ (0 ≤ i ∧ i < (R.length : Int))) :
    Calls Try.prog 23 #[.pointer (some ⟨b, 0, none⟩), .int .i64 i] w fun e w' => e = .returned (.bool false) ∧ w' = w := by
  by_cases h0 : 0 ≤ i
  · have h1 : (R.length : Int) ≤ i := by omega
    clear hi
    go_enter Try.func23, Try.ntmps23
    go_wp2_with fail
    refine (len_yes h).mono ?_
    rintro e w1 ⟨rfl, rfl⟩
    go_wp2
    go_ret
    exact ⟨by simp; omega, rfl⟩
  · clear hi
    go_enter Try.func23, Try.ntmps23
    go_wp2
    go_ret
    exact ⟨rfl, rfl⟩

set_option maxHeartbeats 400000 in
set_option maxRecDepth 100000 in
theorem has_nil (i : Int) (w : World) :
    Calls Try.prog 23 #[.pointer none, .int .i64 i] w fun e w' => e = .returned (.bool false) ∧ w' = w := by
  by_cases h0 : 0 ≤ i
  · go_enter Try.func23, Try.ntmps23
    go_wp2_with fail
    refine (len_nil _).mono ?_
    rintro e w1 ⟨rfl, rfl⟩
    go_wp2
    go_ret
    exact ⟨by simp; omega, rfl⟩
  · go_enter Try.func23, Try.ntmps23
    go_wp2
    go_ret
    exact ⟨rfl, rfl⟩







set_option maxHeartbeats 800000 in
set_option maxRecDepth 100000 in
theorem get_yes (h : RowAt w b g R) (j : Nat) (hj : j < R.length) :
    Calls Try.prog 22 #[.pointer (some ⟨b, 0, none⟩), .int .i64 (j : Nat)] w fun e w' => e = .returned (.tuple #[(.int .i64 (R[j]!.1)), .int .i64 R[j]!.2]) ∧ ∃ n, w' = w.drewN n := by
  have c0 := h.sl
  have c1 := h.val j hj
  have c2 := h.ver j hj
  have HR := Hid.mk h
  obtain ⟨X, hX⟩ : ∃ X, X = R[j]!.1 := ⟨_, rfl⟩
  obtain ⟨Y, hY⟩ : ∃ Y, Y = R[j]!.2 := ⟨_, rfl⟩
  rw [← hX] at c1 ⊢
  rw [← hY] at c2 ⊢
  clear h hX hY
  go_enter Try.func22, Try.ntmps22
  go_wp2_with fail
  refine (has_yes HR.out j hj).mono ?_
  rintro e w1 ⟨rfl, rfl⟩
  go_wp2_with fail
  go_quiet (fail)
  go_wp2
  go_ret2
  exact ⟨rfl, _, rfl⟩

set_option maxHeartbeats 400000 in
set_option maxRecDepth 100000 in
theorem get_no (h : RowAt w b g R) (i : Int) (hi : ¬ (0 ≤ i ∧ i < (R.length : Int))) :
    Calls Try.prog 22 #[.pointer (some ⟨b, 0, none⟩), .int .i64 i] w fun e w' => e = .returned (.tuple #[(.int .i64 0), .int .i64 0]) ∧ w' = w := by
  go_enter Try.func22, Try.ntmps22
  go_wp2_with fail
  refine (has_no h i hi).mono ?_
  rintro e w1 ⟨rfl, rfl⟩
  go_wp2
  go_ret2
  exact ⟨rfl, rfl⟩

set_option maxHeartbeats 400000 in
set_option maxRecDepth 100000 in
theorem get_nil (i : Int) (w : World) :
    Calls Try.prog 22 #[.pointer none, .int .i64 i] w fun e w' => e = .returned (.tuple #[(.int .i64 0), .int .i64 0]) ∧ w' = w := by
  go_enter Try.func22, Try.ntmps22
  go_wp2_with fail
  refine (has_nil i _).mono ?_
  rintro e w1 ⟨rfl, rfl⟩
  go_wp2
  go_ret2
  exact ⟨rfl, rfl⟩

set_option maxHeartbeats 800000 in
set_option maxRecDepth 100000 in
theorem set_yes (h : RowAt w b g R) (j : Nat) (hj : j < R.length) (x : Int) (v : Int) :
    Calls Try.prog 21 #[.pointer (some ⟨b, 0, none⟩), .int .i64 (j : Nat), (.int .i64 (x)), .int .i64 v] w fun e w' => e = .returned (.bool true) ∧ RowAt w' b g (R.set j (x, v)) ∧ Only g w w' := by
  have c0 := h.sl
  have c1 := h.val j hj
  have c2 := h.ver j hj
  have f1 := h.fz (j * 2)
  have f2 := h.fz (j * 2 + 1)
  have HR := Hid.mk h
  clear h
  go_enter Try.func21, Try.ntmps21
  go_wp2_with fail
  refine (has_yes HR.out j hj).mono ?_
  rintro e w1 ⟨rfl, rfl⟩
  go_wp2
  go_ret
  exact ⟨rfl, HR.out.set1 j hj x v, ((Only.refl _ _).set _ _).set _ _⟩

set_option maxHeartbeats 400000 in
set_option maxRecDepth 100000 in
theorem set_no (h : RowAt w b g R) (i : Int) (hi : ¬ (0 ≤ i ∧ i < (R.length : Int))) (x : Int) (v : Int) :
    Calls Try.prog 21 #[.pointer (some ⟨b, 0, none⟩), .int .i64 i, (.int .i64 (x)), .int .i64 v] w fun e w' => e = .returned (.bool false) ∧ w' = w := by
  go_enter Try.func21, Try.ntmps21
  go_wp2_with fail
  refine (has_no h i hi).mono ?_
  rintro e w1 ⟨rfl, rfl⟩
  go_wp2
  go_ret
  exact ⟨rfl, rfl⟩

set_option maxHeartbeats 400000 in
set_option maxRecDepth 100000 in
theorem set_nil (i : Int) (x : Int) (v : Int) (w : World) :
    Calls Try.prog 21 #[.pointer none, .int .i64 i, (.int .i64 (x)), .int .i64 v] w fun e w' => e = .returned (.bool false) ∧ w' = w := by
  go_enter Try.func21, Try.ntmps21
  go_wp2_with fail
  refine (has_nil i _).mono ?_
  rintro e w1 ⟨rfl, rfl⟩
  go_wp2
  go_ret
  exact ⟨rfl, rfl⟩

end

end Go.Proofs.Ytmgimohnednlgaa.Cel.I
