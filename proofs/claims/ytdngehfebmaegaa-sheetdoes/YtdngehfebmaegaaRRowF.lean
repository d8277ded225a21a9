/-
  A row of things with versions in memory (things: files), and the walks of its calls.
-/
import Derived.Test.YtdngehfebmaegaaRLow
namespace Go.Proofs.Ytdngehfebmaegaa.Cel.F
open Go.RowKit

/-- A file's value. -/
def fv (x : Bool × ByteArray) : Value := .agg #[.bool x.1, .string x.2]

/-- Things as cells. -/
def thC : List ((Bool × ByteArray) × Int) → List Value
  | [] => []
  | x :: r => .bool x.1.1 :: .string x.1.2 :: .int .i64 x.2 :: thC r

theorem thC_length (R : List ((Bool × ByteArray) × Int)) : (thC R).length = R.length * 3 := by
  induction R with
  | nil => rfl
  | cons x r ih => simp [thC, ih]; omega

theorem thC_get (R : List ((Bool × ByteArray) × Int)) : ∀ j, j < R.length → (thC R)[j * 3]? = some (.bool R[j]!.1.1) ∧ (thC R)[j * 3 + 1]? = some (.string R[j]!.1.2) ∧ (thC R)[j * 3 + 2]? = some (.int .i64 R[j]!.2) := by
  induction R with
  | nil => intro j hj; simp at hj
  | cons x r ih =>
    intro j hj
    cases j with
    | zero => exact ⟨rfl, rfl, rfl⟩
    | succ j =>
      have h := ih j (by simpa using hj)
      have e0 : (j + 1) * 3 = j * 3 + 3 := by omega
      rw [e0]
      have g : (x :: r)[j + 1]! = r[j]! := by simp
      rw [g]
      exact h

theorem thC_set (R : List ((Bool × ByteArray) × Int)) (x : Bool × ByteArray) (v : Int) : ∀ j, j < R.length → (((thC R).set (j * 3) (.bool x.1)).set (j * 3 + 1) (.string x.2)).set (j * 3 + 2) (.int .i64 v) = thC (R.set j (x, v)) := by
  induction R with
  | nil => intro j hj; simp at hj
  | cons y r ih =>
    intro j hj
    cases j with
    | zero => rfl
    | succ j =>
      have h := ih j (by simpa using hj)
      have e0 : (j + 1) * 3 = j * 3 + 3 := by omega
      have e1 : j * 3 + 3 + 1 = j * 3 + 1 + 3 := by omega
      have e2 : j * 3 + 3 + 2 = j * 3 + 2 + 3 := by omega
      rw [e0, e1, e2]
      show _ :: _ :: _ :: (((thC r).set (j * 3) _).set (j * 3 + 1) _).set (j * 3 + 2) _ = _ :: _ :: _ :: thC (r.set j (x, v))
      rw [h]

theorem thC_set0 (R : List ((Bool × ByteArray) × Int)) (x : Bool × ByteArray) : ∀ j, j < R.length → ((thC R).set (j * 3) (.bool x.1)).set (j * 3 + 1) (.string x.2) = thC (R.set j (x, R[j]!.2)) := by
  induction R with
  | nil => intro j hj; simp at hj
  | cons y r ih =>
    intro j hj
    cases j with
    | zero => rfl
    | succ j =>
      have h := ih j (by simpa using hj)
      have e0 : (j + 1) * 3 = j * 3 + 3 := by omega
      have e1 : j * 3 + 3 + 1 = j * 3 + 1 + 3 := by omega
      have g : (y :: r)[j + 1]! = r[j]! := by simp
      rw [e0, e1, g]
      show _ :: _ :: _ :: ((thC r).set (j * 3) _).set (j * 3 + 1) _ = _ :: _ :: _ :: thC (r.set j (x, r[j]!.2))
      rw [h]

/-- The row in block b, its things in block g. -/
structure RowAt (w : World) (b g : Nat) (R : List ((Bool × ByteArray) × Int)) : Prop where
  at_ : w.heap[b]? = some (.cells #[.slice (some ⟨g, 0, none⟩) R.length R.length] 107 (0, 0))
  row : w.heap[g]? = some (.cells (thC R).toArray 104 (0, 0))
  short : R.length ≤ 1024

section
variable {w w' : World} {b g : Nat} {R : List ((Bool × ByteArray) × Int)}

theorem RowAt.sl (h : RowAt w b g R) : w.cell? ⟨b, 0, none⟩ = some (.slice (some ⟨g, 0, none⟩) R.length R.length) := cell_at h.at_ rfl
theorem RowAt.is (h : RowAt w b g R) (j : Nat) (hj : j < R.length) : w.cell? ⟨g, j * 3, none⟩ = some (.bool R[j]!.1.1) := cell_at h.row (by simpa using (thC_get R j hj).1)
theorem RowAt.val (h : RowAt w b g R) (j : Nat) (hj : j < R.length) : w.cell? ⟨g, j * 3 + 1, none⟩ = some (.string R[j]!.1.2) := cell_at h.row (by simpa using (thC_get R j hj).2.1)
theorem RowAt.ver (h : RowAt w b g R) (j : Nat) (hj : j < R.length) : w.cell? ⟨g, j * 3 + 2, none⟩ = some (.int .i64 R[j]!.2) := cell_at h.row (by simpa using (thC_get R j hj).2.2)
theorem RowAt.fz (h : RowAt w b g R) (i : Nat) : w.frozen? ⟨g, i, none⟩ = false := free_at h.row
theorem RowAt.lt (h : RowAt w b g R) : b < w.heap.size := (Array.getElem?_eq_some_iff.1 h.at_).1
theorem RowAt.ltg (h : RowAt w b g R) : g < w.heap.size := (Array.getElem?_eq_some_iff.1 h.row).1
theorem RowAt.ne (h : RowAt w b g R) : b ≠ g := fun e => by
  have h1 := h.at_
  rw [e, h.row] at h1
  injection h1 with h1
  injection h1 with _ h1
  exact absurd h1 (by decide)
theorem RowAt.keep (h : RowAt w b g R) (hb : w'.heap[b]? = w.heap[b]?) (hg : w'.heap[g]? = w.heap[g]?) : RowAt w' b g R := ⟨hb.trans h.at_, hg.trans h.row, h.short⟩
theorem RowAt.grown (h : RowAt w b g R) (hb : Below w.heap.size w w') : RowAt w' b g R := h.keep (hb.block b h.lt) (hb.block g h.ltg)
theorem RowAt.drewN (h : RowAt w b g R) (n : Nat) : RowAt (w.drewN n) b g R := h.keep (by rw [heap_drewN]) (by rw [heap_drewN])

theorem RowAt.set0 (h : RowAt w b g R) (j : Nat) (hj : j < R.length) (x : Bool × ByteArray) : RowAt ((w.setCell ⟨g, j * 3, none⟩ (.bool x.1)).setCell ⟨g, j * 3 + 1, none⟩ (.string x.2)) b g (R.set j (x, R[j]!.2)) := by
  refine ⟨?_, ?_, by simpa using h.short⟩
  · rw [Below.heap_setCell _ _ _ _ h.ne, Below.heap_setCell _ _ _ _ h.ne, List.length_set]
    exact h.at_
  · rw [heap_set _ (heap_set _ h.row), ← thC_set0 R x j hj]
    simp

theorem RowAt.set1 (h : RowAt w b g R) (j : Nat) (hj : j < R.length) (x : Bool × ByteArray) (v : Int) : RowAt (((w.setCell ⟨g, j * 3, none⟩ (.bool x.1)).setCell ⟨g, j * 3 + 1, none⟩ (.string x.2)).setCell ⟨g, j * 3 + 2, none⟩ (.int .i64 v)) b g (R.set j (x, v)) := by
  refine ⟨?_, ?_, by simpa using h.short⟩
  · rw [Below.heap_setCell _ _ _ _ h.ne, Below.heap_setCell _ _ _ _ h.ne, Below.heap_setCell _ _ _ _ h.ne, List.length_set]
    exact h.at_
  · rw [heap_set _ (heap_set _ (heap_set _ h.row)), ← thC_set R x v j hj]
    simp

/-! ### The walks -/

set_option maxHeartbeats 400000 in
set_option maxRecDepth 100000 in
theorem len_yes (h : RowAt w b g R) :
    Calls Try.prog 63 #[.pointer (some ⟨b, 0, none⟩)] w fun e w' => e = .returned (.int .i64 (R.length : Nat)) ∧ w' = w := by
  have c0 := h.sl
  clear h
  go_enter Try.func63, Try.ntmps63
  go_wp2
  go_ret
  exact ⟨rfl, rfl⟩

set_option maxHeartbeats 400000 in
set_option maxRecDepth 100000 in
theorem len_nil (w : World) : Calls Try.prog 63 #[.pointer none] w fun e w' => e = .returned (.int .i64 0) ∧ w' = w := by
  go_enter Try.func63, Try.ntmps63
  go_wp2
  go_ret
  exact ⟨rfl, rfl⟩

set_option maxHeartbeats 400000 in
set_option maxRecDepth 100000 in
theorem has_yes (h : RowAt w b g R) (j : Nat) (hj : j < R.length) :
    Calls Try.prog 61 #[.pointer (some ⟨b, 0, none⟩), .int .i64 (j : Nat)] w fun e w' => e = .returned (.bool true) ∧ w' = w := by
  go_enter Try.func61, Try.ntmps61
  go_wp2_with fail
  refine (len_yes h).mono ?_
  rintro e w1 ⟨rfl, rfl⟩
  go_wp2
  go_ret
  exact ⟨rfl, rfl⟩

set_option maxHeartbeats 400000 in
set_option maxRecDepth 100000 in
theorem has_no (h : RowAt w b g R) (i : Int) (hi : ¬ (0 ≤ i ∧ i < (R.length : Int))) :
    Calls Try.prog 61 #[.pointer (some ⟨b, 0, none⟩), .int .i64 i] w fun e w' => e = .returned (.bool false) ∧ w' = w := by
  by_cases h0 : 0 ≤ i
  · have h1 : (R.length : Int) ≤ i := by omega
    clear hi
    go_enter Try.func61, Try.ntmps61
    go_wp2_with fail
    refine (len_yes h).mono ?_
    rintro e w1 ⟨rfl, rfl⟩
    go_wp2
    go_ret
    exact ⟨by simp; omega, rfl⟩
  · clear hi
    go_enter Try.func61, Try.ntmps61
    go_wp2
    go_ret
    exact ⟨rfl, rfl⟩

set_option maxHeartbeats 400000 in
set_option maxRecDepth 100000 in
theorem has_nil (i : Int) (w : World) :
    Calls Try.prog 61 #[.pointer none, .int .i64 i] w fun e w' => e = .returned (.bool false) ∧ w' = w := by
  by_cases h0 : 0 ≤ i
  · go_enter Try.func61, Try.ntmps61
    go_wp2_with fail
    refine (len_nil _).mono ?_
    rintro e w1 ⟨rfl, rfl⟩
    go_wp2
    go_ret
    exact ⟨by simp; omega, rfl⟩
  · go_enter Try.func61, Try.ntmps61
    go_wp2
    go_ret
    exact ⟨rfl, rfl⟩

/-- Four cells lie as they lay behind a file's store elsewhere. -/
theorem keep4 {wx : World} {B b g i0 i1 i2 i3 : Nat} {v0 v1 v2 v3 : Value} (hb : b ≠ B) (hg : g ≠ B) (x y : Value) (h : wx.cell? ⟨b, i0, none⟩ = some v0 ∧ wx.cell? ⟨g, i1, none⟩ = some v1 ∧ wx.cell? ⟨g, i2, none⟩ = some v2 ∧ wx.cell? ⟨g, i3, none⟩ = some v3) :
    ((wx.setCell ⟨B, 0, none⟩ x).setCell ⟨B, 1, none⟩ y).cell? ⟨b, i0, none⟩ = some v0 ∧ ((wx.setCell ⟨B, 0, none⟩ x).setCell ⟨B, 1, none⟩ y).cell? ⟨g, i1, none⟩ = some v1 ∧ ((wx.setCell ⟨B, 0, none⟩ x).setCell ⟨B, 1, none⟩ y).cell? ⟨g, i2, none⟩ = some v2 ∧ ((wx.setCell ⟨B, 0, none⟩ x).setCell ⟨B, 1, none⟩ y).cell? ⟨g, i3, none⟩ = some v3 := by
  have e : ∀ k, k ≠ B → ((wx.setCell ⟨B, 0, none⟩ x).setCell ⟨B, 1, none⟩ y).heap[k]? = wx.heap[k]? := fun k hk => by rw [Below.heap_setCell _ _ _ _ hk, Below.heap_setCell _ _ _ _ hk]
  exact ⟨(World.cell?_of_block (e b hb)).trans h.1, (World.cell?_of_block (e g hg)).trans h.2.1, (World.cell?_of_block (e g hg)).trans h.2.2.1, (World.cell?_of_block (e g hg)).trans h.2.2.2⟩

set_option maxHeartbeats 800000 in
set_option maxRecDepth 100000 in
theorem get_yes (h : RowAt w b g R) (j : Nat) (hj : j < R.length) :
    Calls Try.prog 46 #[.pointer (some ⟨b, 0, none⟩), .int .i64 (j : Nat)] w fun e w' => e = .returned (.tuple #[.agg #[.bool R[j]!.1.1, .string R[j]!.1.2], .int .i64 R[j]!.2]) ∧ Below w.heap.size w w' := by
  obtain ⟨w0, hw0⟩ : ∃ w0, w0 = w.alloc (.cells #[.bool false, .string ⟨#[]⟩] 23) := ⟨_, rfl⟩
  have hb0 := (Below.refl w.heap.size w).alloc (Nat.le_refl _) (.cells #[.bool false, .string ⟨#[]⟩] 23)
  have hn0 := heap_new w (.cells #[.bool false, .string ⟨#[]⟩] 23)
  rw [← hw0] at hb0 hn0
  have h0 := h.grown hb0
  have c0 := h0.sl
  have c1 := h0.is j hj
  have c2 := h0.val j hj
  have c3 := h0.ver j hj
  have hh := has_yes h0 j hj
  have hnb : b ≠ w.heap.size := Nat.ne_of_lt h.lt
  have hng : g ≠ w.heap.size := Nat.ne_of_lt h.ltg
  obtain ⟨X, hX⟩ : ∃ X, X = R[j]!.1.1 := ⟨_, rfl⟩
  obtain ⟨Z, hZ⟩ : ∃ Z, Z = R[j]!.1.2 := ⟨_, rfl⟩
  obtain ⟨Y, hY⟩ : ∃ Y, Y = R[j]!.2 := ⟨_, rfl⟩
  rw [← hX] at c1
  rw [← hZ] at c2
  rw [← hY] at c3
  rw [← hX, ← hY, ← hZ]
  have HB := Hid.mk hb0
  have HN := Hid.mk hn0
  have HH := Hid.mk hh
  clear h hX hY hZ hb0 hn0 h0 hh
  go_enter Try.func46, Try.ntmps46
  go_wp2_with fail
  rw [← hw0]
  refine HH.out.mono ?_
  rintro e w1 ⟨rfl, hw1⟩
  rw [hw1]
  clear hw1 w1
  have d0 : w0.cell? ⟨w.heap.size, 0, none⟩ = some (.bool false) := cell_at HN.out rfl
  have d1 : w0.cell? ⟨w.heap.size, 1, none⟩ = some (.string ⟨#[]⟩) := cell_at HN.out rfl
  have hf0 := free_at (i := 0) HN.out
  have hf1 := free_at (i := 1) HN.out
  obtain ⟨B, hB⟩ : ∃ B, B = w.heap.size := ⟨_, rfl⟩
  rw [← hB] at d0 d1 hf0 hf1 hnb hng ⊢
  have HBB := Hid.mk hB
  clear hw0 hB
  go_wp2_with fail
  go_big_region
  all_goals
    go_wp2
    refine bodyPost_ret (v := .tuple #[.agg #[.bool X, .string Z], .int .i64 Y]) ?_ rfl ⟨rfl, ?_⟩
    · simp [results, Try.f46, go_sem, d0, d1]
    · rw [HBB.out]
      exact ((HB.out.setCell (by simp) _).setCell (by simp) _).drew

set_option maxHeartbeats 800000 in
set_option maxRecDepth 100000 in
theorem get_no (h : RowAt w b g R) (i : Int) (hi : ¬ (0 ≤ i ∧ i < (R.length : Int))) :
    Calls Try.prog 46 #[.pointer (some ⟨b, 0, none⟩), .int .i64 i] w fun e w' => e = .returned (.tuple #[.agg #[.bool false, .string ⟨#[]⟩], .int .i64 0]) ∧ Below w.heap.size w w' := by
  obtain ⟨w0, hw0⟩ : ∃ w0, w0 = w.alloc (.cells #[.bool false, .string ⟨#[]⟩] 23) := ⟨_, rfl⟩
  have hb0 := (Below.refl w.heap.size w).alloc (Nat.le_refl _) (.cells #[.bool false, .string ⟨#[]⟩] 23)
  rw [← hw0] at hb0
  have hh := has_no (h.grown hb0) i hi
  have HB := Hid.mk (hb0.alloc hb0.size (.cells #[.bool false, .string ⟨#[]⟩] 23))
  have HH := Hid.mk hh
  have HN := Hid.mk (by rw [hw0]; exact heap_new w _ : w0.heap[w.heap.size]? = some (.cells #[.bool false, .string ⟨#[]⟩] 23 (0, 0)))
  have hsz : w0.heap.size = w.heap.size + 1 := by rw [hw0]; simp
  have HS := Hid.mk hsz
  clear h hi hb0 hh hsz
  go_enter Try.func46, Try.ntmps46
  go_wp2_with fail
  rw [← hw0]
  refine HH.out.mono ?_
  rintro e w1 ⟨rfl, hw1⟩
  rw [hw1]
  clear hw1 w1 hw0
  have hN := HN.out
  have hN2 : (w0.alloc (.cells #[.bool false, .string ⟨#[]⟩] 23)).heap[w.heap.size]? = some (.cells #[.bool false, .string ⟨#[]⟩] 23 (0, 0)) := (Below.heap_alloc _ _ _ (by rw [HS.out]; omega)).trans hN
  have e0 : (w0.alloc (.cells #[.bool false, .string ⟨#[]⟩] 23)).cell? ⟨w.heap.size, 0, none⟩ = some (.bool false) := cell_at hN2 rfl
  have e1 : (w0.alloc (.cells #[.bool false, .string ⟨#[]⟩] 23)).cell? ⟨w.heap.size, 1, none⟩ = some (.string ⟨#[]⟩) := cell_at hN2 rfl
  have f0 : (w0.alloc (.cells #[.bool false, .string ⟨#[]⟩] 23)).frozen? ⟨w.heap.size, 0, none⟩ = false := free_at hN2
  have f1 : (w0.alloc (.cells #[.bool false, .string ⟨#[]⟩] 23)).frozen? ⟨w.heap.size, 1, none⟩ = false := free_at hN2
  clear hN hN2
  go_wp2
  refine bodyPost_ret (v := .tuple #[.agg #[.bool false, .string ⟨#[]⟩], .int .i64 0]) ?_ rfl ⟨rfl, ?_⟩
  · simp [results, Try.f46, go_sem, e0, e1]
  · exact (HB.out.setCell (by simp) _).setCell (by simp) _

set_option maxHeartbeats 800000 in
set_option maxRecDepth 100000 in
theorem get_nil (i : Int) (w : World) :
    Calls Try.prog 46 #[.pointer none, .int .i64 i] w fun e w' => e = .returned (.tuple #[.agg #[.bool false, .string ⟨#[]⟩], .int .i64 0]) ∧ Below w.heap.size w w' := by
  obtain ⟨w0, hw0⟩ : ∃ w0, w0 = w.alloc (.cells #[.bool false, .string ⟨#[]⟩] 23) := ⟨_, rfl⟩
  have hb0 := (Below.refl w.heap.size w).alloc (Nat.le_refl _) (.cells #[.bool false, .string ⟨#[]⟩] 23)
  rw [← hw0] at hb0
  have hh := has_nil i w0
  have HB := Hid.mk (hb0.alloc hb0.size (.cells #[.bool false, .string ⟨#[]⟩] 23))
  have HH := Hid.mk hh
  have HN := Hid.mk (by rw [hw0]; exact heap_new w _ : w0.heap[w.heap.size]? = some (.cells #[.bool false, .string ⟨#[]⟩] 23 (0, 0)))
  have hsz : w0.heap.size = w.heap.size + 1 := by rw [hw0]; simp
  have HS := Hid.mk hsz
  clear hb0 hh hsz
  go_enter Try.func46, Try.ntmps46
  go_wp2_with fail
  rw [← hw0]
  refine HH.out.mono ?_
  rintro e w1 ⟨rfl, hw1⟩
  rw [hw1]
  clear hw1 w1 hw0
  have hN := HN.out
  have hN2 : (w0.alloc (.cells #[.bool false, .string ⟨#[]⟩] 23)).heap[w.heap.size]? = some (.cells #[.bool false, .string ⟨#[]⟩] 23 (0, 0)) := (Below.heap_alloc _ _ _ (by rw [HS.out]; omega)).trans hN
  have e0 : (w0.alloc (.cells #[.bool false, .string ⟨#[]⟩] 23)).cell? ⟨w.heap.size, 0, none⟩ = some (.bool false) := cell_at hN2 rfl
  have e1 : (w0.alloc (.cells #[.bool false, .string ⟨#[]⟩] 23)).cell? ⟨w.heap.size, 1, none⟩ = some (.string ⟨#[]⟩) := cell_at hN2 rfl
  have f0 : (w0.alloc (.cells #[.bool false, .string ⟨#[]⟩] 23)).frozen? ⟨w.heap.size, 0, none⟩ = false := free_at hN2
  have f1 : (w0.alloc (.cells #[.bool false, .string ⟨#[]⟩] 23)).frozen? ⟨w.heap.size, 1, none⟩ = false := free_at hN2
  clear hN hN2
  go_wp2
  refine bodyPost_ret (v := .tuple #[.agg #[.bool false, .string ⟨#[]⟩], .int .i64 0]) ?_ rfl ⟨rfl, ?_⟩
  · simp [results, Try.f46, go_sem, e0, e1]
  · exact (HB.out.setCell (by simp) _).setCell (by simp) _

set_option maxHeartbeats 800000 in
set_option maxRecDepth 100000 in
theorem set_yes (h : RowAt w b g R) (j : Nat) (hj : j < R.length) (x : Bool × ByteArray) (v : Int) :
    Calls Try.prog 49 #[.pointer (some ⟨b, 0, none⟩), .int .i64 (j : Nat), .agg #[.bool x.1, .string x.2], .int .i64 v] w fun e w' => e = .returned (.bool true) ∧ RowAt w' b g (R.set j (x, v)) ∧ But [g] w w' := by
  obtain ⟨w0, hw0⟩ : ∃ w0, w0 = w.alloc (.cells #[.bool x.1, .string x.2] 23) := ⟨_, rfl⟩
  have hb0 := (Below.refl w.heap.size w).alloc (Nat.le_refl _) (.cells #[.bool x.1, .string x.2] 23)
  have hn0 := heap_new w (.cells #[.bool x.1, .string x.2] 23)
  rw [← hw0] at hb0 hn0
  have h0 := h.grown hb0
  have c0 := h0.sl
  have c1 := h0.is j hj
  have c2 := h0.val j hj
  have c3 := h0.ver j hj
  have f1 := h0.fz (j * 3)
  have f2 := h0.fz (j * 3 + 1)
  have f3 := h0.fz (j * 3 + 2)
  have x0 : w0.cell? ⟨w.heap.size, 0, none⟩ = some (.bool x.1) := cell_at hn0 rfl
  have x1 : w0.cell? ⟨w.heap.size, 1, none⟩ = some (.string x.2) := cell_at hn0 rfl
  have HR := Hid.mk h0
  have HB := Hid.mk (But.of_below (l := [g]) hb0)
  have HH := Hid.mk (has_yes h0 j hj)
  obtain ⟨X, hX⟩ : ∃ X, X = R[j]!.1.1 := ⟨_, rfl⟩
  obtain ⟨Z, hZ⟩ : ∃ Z, Z = R[j]!.1.2 := ⟨_, rfl⟩
  obtain ⟨Y, hY⟩ : ∃ Y, Y = R[j]!.2 := ⟨_, rfl⟩
  rw [← hX] at c1
  rw [← hZ] at c2
  rw [← hY] at c3
  have hng : g ≠ w.heap.size := Nat.ne_of_lt h.ltg
  have hnb : b ≠ w.heap.size := Nat.ne_of_lt h.lt
  obtain ⟨B, hB⟩ : ∃ B, B = w.heap.size := ⟨_, rfl⟩
  have HBB := Hid.mk hB
  have hx : x = (x.1, x.2) := rfl
  obtain ⟨x, y⟩ := x
  clear h h0 hb0 hX hZ hY hn0 hx
  go_enter Try.func49, Try.ntmps49
  go_wp2_with fail
  rw [← hw0]
  refine HH.out.mono ?_
  rintro e w1 ⟨rfl, hw1⟩
  rw [hw1]
  clear hw1 w1 hw0
  rw [← hB] at x0 x1 hng hnb ⊢
  clear hB
  go_wp2_with fail
  go_big_region
  all_goals
    go_wp2
    go_ret
    have hg : g ∈ [g] := by simp
    exact ⟨rfl, (HR.out.set1 j hj (x, y) v).keep rfl rfl, (((HB.out.set (.inl hg) _ _).set (.inl hg) _ _).set (.inl hg) _ _).drewN 1⟩

set_option maxHeartbeats 800000 in
set_option maxRecDepth 100000 in
theorem set_no (h : RowAt w b g R) (i : Int) (hi : ¬ (0 ≤ i ∧ i < (R.length : Int))) (x : Bool) (y : ByteArray) (v : Int) :
    Calls Try.prog 49 #[.pointer (some ⟨b, 0, none⟩), .int .i64 i, .agg #[.bool x, .string y], .int .i64 v] w fun e w' => e = .returned (.bool false) ∧ Below w.heap.size w w' := by
  have hb0 := (Below.refl w.heap.size w).alloc (Nat.le_refl _) (.cells #[.bool x, .string y] 23)
  have hh := has_no (h.grown hb0) i hi
  have HB := Hid.mk hb0
  have HH := Hid.mk hh
  clear h hi hb0 hh
  go_enter Try.func49, Try.ntmps49
  go_wp2_with fail
  refine HH.out.mono ?_
  rintro e w1 ⟨rfl, hw1⟩
  rw [hw1]
  clear hw1 w1
  go_wp2
  go_ret
  exact ⟨rfl, HB.out⟩

set_option maxHeartbeats 800000 in
set_option maxRecDepth 100000 in
theorem set_nil (i : Int) (x : Bool) (y : ByteArray) (v : Int) (w : World) :
    Calls Try.prog 49 #[.pointer none, .int .i64 i, .agg #[.bool x, .string y], .int .i64 v] w fun e w' => e = .returned (.bool false) ∧ Below w.heap.size w w' := by
  have HB := Hid.mk ((Below.refl w.heap.size w).alloc (Nat.le_refl _) (.cells #[.bool x, .string y] 23))
  go_enter Try.func49, Try.ntmps49
  go_wp2_with fail
  refine (has_nil i _).mono ?_
  rintro e w1 ⟨rfl, hw1⟩
  rw [hw1]
  clear hw1 w1
  go_wp2
  go_ret
  exact ⟨rfl, HB.out⟩

end

end Go.Proofs.Ytdngehfebmaegaa.Cel.F
