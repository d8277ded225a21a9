/-
  The document's limits: of each op, what its fields may be.
-/
import Derived.Test.YtkpbampffndjoaaCAlive
namespace Go.Proofs.Ytkpbampffndjoaa
open Go.RowKit

/-- What is told of an op's limits. -/
def Lim (op a0 a1 b0 b1 c0 c1 : Int) (ok : Bool) : Prop := ∀ a b c, Fit a → Fit b → (fitsB ⟨op, a, b, c⟩ = true ↔ ok = true ∧ a0 ≤ a ∧ a ≤ a1 ∧ b0 ≤ b ∧ b ≤ b1 ∧ c0 ≤ c ∧ c ≤ c1 ∧ ¬ (op = 12 ∧ a = b))

def limV (a0 a1 b0 b1 c0 c1 : Int) (ok : Bool) : Value := .tuple #[.agg #[.int .i64 a0, .int .i64 a1, .int .i64 b0, .int .i64 b1, .int .i64 c0, .int .i64 c1], .bool ok]

theorem below7 (w : World) (o1 o2 o3 o4 o5 o6 o7 : Obj) : Below w.heap.size w (((((((w.alloc o1).alloc o2).alloc o3).alloc o4).alloc o5).alloc o6).alloc o7) :=
  ((((((((Below.refl w.heap.size w).alloc (by simp) _).alloc (by simp <;> omega) _).alloc (by simp <;> omega) _).alloc (by simp <;> omega) _).alloc (by simp <;> omega) _).alloc (by simp <;> omega) _).alloc (by simp <;> omega) _)

set_option maxRecDepth 100000 in
theorem limRes : Try.f20.results = #[.cell 2 46, .tmp 3] := by rfl

theorem lim0 : Lim 0 0 0 0 0 0 0 true := by
  intro a b c ha hb
  unfold Fit at ha hb
  simp [fitsB, isBare, isZ]
  omega

theorem lim4 : Lim 4 0 0 0 0 0 0 true := by
  intro a b c ha hb
  unfold Fit at ha hb
  simp [fitsB, isBare, isZ]
  omega

theorem lim5 : Lim 5 0 0 0 0 0 0 true := by
  intro a b c ha hb
  unfold Fit at ha hb
  simp [fitsB, isBare, isZ]
  omega

theorem lim19 : Lim 19 0 0 0 0 0 0 true := by
  intro a b c ha hb
  unfold Fit at ha hb
  simp [fitsB, isBare, isZ]
  omega

theorem lim21 : Lim 21 0 0 0 0 0 0 true := by
  intro a b c ha hb
  unfold Fit at ha hb
  simp [fitsB, isBare, isZ]
  omega

theorem lim1 : Lim 1 0 3 (-9223372036854775808) 9223372036854775807 0 0 true := by
  intro a b c ha hb
  unfold Fit at ha hb
  simp [fitsB, isBare, lowB, isZ]
  omega

theorem lim2 : Lim 2 0 3 0 3 0 0 true := by
  intro a b c ha hb
  unfold Fit at ha hb
  simp [fitsB, isBare, lowB, isZ]
  omega

theorem lim3 : Lim 3 (-9223372036854775808) 9223372036854775807 0 3 0 2 true := by
  intro a b c ha hb
  unfold Fit at ha hb
  simp [fitsB, isBare, lowB]
  omega

theorem lim6 : Lim 6 0 3 0 7 0 0 true := by
  intro a b c ha hb
  unfold Fit at ha hb
  simp [fitsB, isBare, lowB, isZ]
  omega

theorem lim7 : Lim 7 0 7 0 3 0 0 true := by
  intro a b c ha hb
  unfold Fit at ha hb
  simp [fitsB, isBare, lowB, isZ]
  omega

theorem lim8 : Lim 8 0 3 0 5 0 31 true := by
  intro a b c ha hb
  unfold Fit at ha hb
  simp [fitsB, isBare, isFile, fitsFileB, lowB]
  omega

theorem lim9 : Lim 9 0 5 0 31 0 3 true := by
  intro a b c ha hb
  unfold Fit at ha hb
  simp [fitsB, isBare, isFile, fitsFileB, lowB]
  omega

theorem lim10 : Lim 10 0 5 0 0 0 0 true := by
  intro a b c ha hb
  unfold Fit at ha hb
  simp [fitsB, isBare, isFile, fitsFileB, lowB, isZ]
  omega

theorem lim11 : Lim 11 0 5 0 0 0 0 true := by
  intro a b c ha hb
  unfold Fit at ha hb
  simp [fitsB, isBare, isFile, fitsFileB, lowB, isZ]
  omega

theorem lim12 : Lim 12 0 5 0 5 0 0 true := by
  intro a b c ha hb
  unfold Fit at ha hb
  simp [fitsB, isBare, isFile, fitsFileB, lowB, isZ]
  omega

theorem lim13 : Lim 13 0 5 0 32 0 0 true := by
  intro a b c ha hb
  unfold Fit at ha hb
  simp [fitsB, isBare, isFile, fitsFileB, lowB, isZ]
  omega

theorem lim14 : Lim 14 0 3 0 2 0 0 true := by
  intro a b c ha hb
  unfold Fit at ha hb
  simp [fitsB, isBare, isFile, lowB, isZ]
  omega

theorem lim15 : Lim 15 0 2 0 3 0 0 true := by
  intro a b c ha hb
  unfold Fit at ha hb
  simp [fitsB, isBare, isFile, lowB, isZ]
  omega

theorem lim16 : Lim 16 0 2 0 255 0 0 true := by
  intro a b c ha hb
  unfold Fit at ha hb
  simp [fitsB, isBare, isFile, lowB, isZ]
  omega

theorem lim17 : Lim 17 0 255 0 0 0 0 true := by
  intro a b c ha hb
  unfold Fit at ha hb
  simp [fitsB, isBare, isFile, lowB, isZ]
  omega

theorem lim18 : Lim 18 0 3 (-100) 100 0 0 true := by
  intro a b c ha hb
  unfold Fit at ha hb
  simp [fitsB, isBare, isFile, lowB, isZ]
  omega

theorem lim20 : Lim 20 (-9223372036854775808) 9223372036854775807 0 0 0 0 true := by
  intro a b c ha hb
  unfold Fit at ha hb
  simp [fitsB, isBare, isFile, isZ]
  omega

theorem limNo {op : Int} (h0 : ¬ op = 0) (h4 : ¬ op = 4) (h5 : ¬ op = 5) (h19 : ¬ op = 19) (h21 : ¬ op = 21) (h1 : ¬ op = 1) (h2 : ¬ op = 2) (h3 : ¬ op = 3) (h6 : ¬ op = 6) (h7 : ¬ op = 7) (h8 : ¬ op = 8) (h9 : ¬ op = 9) (h10 : ¬ op = 10) (h11 : ¬ op = 11) (h12 : ¬ op = 12) (h13 : ¬ op = 13) (h14 : ¬ op = 14) (h15 : ¬ op = 15) (h16 : ¬ op = 16) (h17 : ¬ op = 17) (h18 : ¬ op = 18) (h20 : ¬ op = 20) : Lim op 0 0 0 0 0 0 false := by
  intro a b c ha hb
  simp [fitsB, isBare, isFile, h0, h4, h5, h19, h21, h1, h2, h3, h6, h7, h8, h9, h10, h11, h12, h13, h14, h15, h16, h17, h18, h20]

set_option maxHeartbeats 6400000 in
set_option maxRecDepth 100000 in
theorem limits_any (op : Int) (w : World) : Calls Try.prog 20 #[.int .i64 op] w fun e w' => ∃ a0 a1 b0 b1 c0 c1 ok, e = .returned (limV a0 a1 b0 b1 c0 c1 ok) ∧ Lim op a0 a1 b0 b1 c0 c1 ok ∧ Below w.heap.size w w' := by
  by_cases h0 : op = 0
  · subst h0
    go_enter Try.func20, Try.ntmps20
    go_wp2
    refine bodyPost_ret (v := limV 0 0 0 0 0 0 true) ?_ rfl ⟨0, 0, 0, 0, 0, 0, true, rfl, lim0, below7 _ _ _ _ _ _ _ _⟩
    unfold results limV
    rw [limRes]
    go_simp
  by_cases h4 : op = 4
  · subst h4
    go_enter Try.func20, Try.ntmps20
    go_wp2
    refine bodyPost_ret (v := limV 0 0 0 0 0 0 true) ?_ rfl ⟨0, 0, 0, 0, 0, 0, true, rfl, lim4, below7 _ _ _ _ _ _ _ _⟩
    unfold results limV
    rw [limRes]
    go_simp
  by_cases h5 : op = 5
  · subst h5
    go_enter Try.func20, Try.ntmps20
    go_wp2
    refine bodyPost_ret (v := limV 0 0 0 0 0 0 true) ?_ rfl ⟨0, 0, 0, 0, 0, 0, true, rfl, lim5, below7 _ _ _ _ _ _ _ _⟩
    unfold results limV
    rw [limRes]
    go_simp
  by_cases h19 : op = 19
  · subst h19
    go_enter Try.func20, Try.ntmps20
    go_wp2
    refine bodyPost_ret (v := limV 0 0 0 0 0 0 true) ?_ rfl ⟨0, 0, 0, 0, 0, 0, true, rfl, lim19, below7 _ _ _ _ _ _ _ _⟩
    unfold results limV
    rw [limRes]
    go_simp
  by_cases h21 : op = 21
  · subst h21
    go_enter Try.func20, Try.ntmps20
    go_wp2
    refine bodyPost_ret (v := limV 0 0 0 0 0 0 true) ?_ rfl ⟨0, 0, 0, 0, 0, 0, true, rfl, lim21, below7 _ _ _ _ _ _ _ _⟩
    unfold results limV
    rw [limRes]
    go_simp
  by_cases h1 : op = 1
  · subst h1
    go_enter Try.func20, Try.ntmps20
    go_wp2
    refine bodyPost_ret (v := limV 0 3 (-9223372036854775808) 9223372036854775807 0 0 true) ?_ rfl ⟨0, 3, (-9223372036854775808), 9223372036854775807, 0, 0, true, rfl, lim1, below7 _ _ _ _ _ _ _ _⟩
    unfold results limV
    rw [limRes]
    go_simp
  by_cases h2 : op = 2
  · subst h2
    go_enter Try.func20, Try.ntmps20
    go_wp2
    refine bodyPost_ret (v := limV 0 3 0 3 0 0 true) ?_ rfl ⟨0, 3, 0, 3, 0, 0, true, rfl, lim2, below7 _ _ _ _ _ _ _ _⟩
    unfold results limV
    rw [limRes]
    go_simp
  by_cases h3 : op = 3
  · subst h3
    go_enter Try.func20, Try.ntmps20
    go_wp2
    refine bodyPost_ret (v := limV (-9223372036854775808) 9223372036854775807 0 3 0 2 true) ?_ rfl ⟨(-9223372036854775808), 9223372036854775807, 0, 3, 0, 2, true, rfl, lim3, below7 _ _ _ _ _ _ _ _⟩
    unfold results limV
    rw [limRes]
    go_simp
  by_cases h6 : op = 6
  · subst h6
    go_enter Try.func20, Try.ntmps20
    go_wp2
    refine bodyPost_ret (v := limV 0 3 0 7 0 0 true) ?_ rfl ⟨0, 3, 0, 7, 0, 0, true, rfl, lim6, below7 _ _ _ _ _ _ _ _⟩
    unfold results limV
    rw [limRes]
    go_simp
  by_cases h7 : op = 7
  · subst h7
    go_enter Try.func20, Try.ntmps20
    go_wp2
    refine bodyPost_ret (v := limV 0 7 0 3 0 0 true) ?_ rfl ⟨0, 7, 0, 3, 0, 0, true, rfl, lim7, below7 _ _ _ _ _ _ _ _⟩
    unfold results limV
    rw [limRes]
    go_simp
  by_cases h8 : op = 8
  · subst h8
    go_enter Try.func20, Try.ntmps20
    go_wp2
    refine bodyPost_ret (v := limV 0 3 0 5 0 31 true) ?_ rfl ⟨0, 3, 0, 5, 0, 31, true, rfl, lim8, below7 _ _ _ _ _ _ _ _⟩
    unfold results limV
    rw [limRes]
    go_simp
  by_cases h9 : op = 9
  · subst h9
    go_enter Try.func20, Try.ntmps20
    go_wp2
    refine bodyPost_ret (v := limV 0 5 0 31 0 3 true) ?_ rfl ⟨0, 5, 0, 31, 0, 3, true, rfl, lim9, below7 _ _ _ _ _ _ _ _⟩
    unfold results limV
    rw [limRes]
    go_simp
  by_cases h10 : op = 10
  · subst h10
    go_enter Try.func20, Try.ntmps20
    go_wp2
    refine bodyPost_ret (v := limV 0 5 0 0 0 0 true) ?_ rfl ⟨0, 5, 0, 0, 0, 0, true, rfl, lim10, below7 _ _ _ _ _ _ _ _⟩
    unfold results limV
    rw [limRes]
    go_simp
  by_cases h11 : op = 11
  · subst h11
    go_enter Try.func20, Try.ntmps20
    go_wp2
    refine bodyPost_ret (v := limV 0 5 0 0 0 0 true) ?_ rfl ⟨0, 5, 0, 0, 0, 0, true, rfl, lim11, below7 _ _ _ _ _ _ _ _⟩
    unfold results limV
    rw [limRes]
    go_simp
  by_cases h12 : op = 12
  · subst h12
    go_enter Try.func20, Try.ntmps20
    go_wp2
    refine bodyPost_ret (v := limV 0 5 0 5 0 0 true) ?_ rfl ⟨0, 5, 0, 5, 0, 0, true, rfl, lim12, below7 _ _ _ _ _ _ _ _⟩
    unfold results limV
    rw [limRes]
    go_simp
  by_cases h13 : op = 13
  · subst h13
    go_enter Try.func20, Try.ntmps20
    go_wp2
    refine bodyPost_ret (v := limV 0 5 0 32 0 0 true) ?_ rfl ⟨0, 5, 0, 32, 0, 0, true, rfl, lim13, below7 _ _ _ _ _ _ _ _⟩
    unfold results limV
    rw [limRes]
    go_simp
  by_cases h14 : op = 14
  · subst h14
    go_enter Try.func20, Try.ntmps20
    go_wp2
    refine bodyPost_ret (v := limV 0 3 0 2 0 0 true) ?_ rfl ⟨0, 3, 0, 2, 0, 0, true, rfl, lim14, below7 _ _ _ _ _ _ _ _⟩
    unfold results limV
    rw [limRes]
    go_simp
  by_cases h15 : op = 15
  · subst h15
    go_enter Try.func20, Try.ntmps20
    go_wp2
    refine bodyPost_ret (v := limV 0 2 0 3 0 0 true) ?_ rfl ⟨0, 2, 0, 3, 0, 0, true, rfl, lim15, below7 _ _ _ _ _ _ _ _⟩
    unfold results limV
    rw [limRes]
    go_simp
  by_cases h16 : op = 16
  · subst h16
    go_enter Try.func20, Try.ntmps20
    go_wp2
    refine bodyPost_ret (v := limV 0 2 0 255 0 0 true) ?_ rfl ⟨0, 2, 0, 255, 0, 0, true, rfl, lim16, below7 _ _ _ _ _ _ _ _⟩
    unfold results limV
    rw [limRes]
    go_simp
  by_cases h17 : op = 17
  · subst h17
    go_enter Try.func20, Try.ntmps20
    go_wp2
    refine bodyPost_ret (v := limV 0 255 0 0 0 0 true) ?_ rfl ⟨0, 255, 0, 0, 0, 0, true, rfl, lim17, below7 _ _ _ _ _ _ _ _⟩
    unfold results limV
    rw [limRes]
    go_simp
  by_cases h18 : op = 18
  · subst h18
    go_enter Try.func20, Try.ntmps20
    go_wp2
    refine bodyPost_ret (v := limV 0 3 (-100) 100 0 0 true) ?_ rfl ⟨0, 3, (-100), 100, 0, 0, true, rfl, lim18, below7 _ _ _ _ _ _ _ _⟩
    unfold results limV
    rw [limRes]
    go_simp
  by_cases h20 : op = 20
  · subst h20
    go_enter Try.func20, Try.ntmps20
    go_wp2
    refine bodyPost_ret (v := limV (-9223372036854775808) 9223372036854775807 0 0 0 0 true) ?_ rfl ⟨(-9223372036854775808), 9223372036854775807, 0, 0, 0, 0, true, rfl, lim20, below7 _ _ _ _ _ _ _ _⟩
    unfold results limV
    rw [limRes]
    go_simp
  have z0 : (op == 0) = false := by simpa using h0
  have z4 : (op == 4) = false := by simpa using h4
  have z5 : (op == 5) = false := by simpa using h5
  have z19 : (op == 19) = false := by simpa using h19
  have z21 : (op == 21) = false := by simpa using h21
  have z1 : (op == 1) = false := by simpa using h1
  have z2 : (op == 2) = false := by simpa using h2
  have z3 : (op == 3) = false := by simpa using h3
  have z6 : (op == 6) = false := by simpa using h6
  have z7 : (op == 7) = false := by simpa using h7
  have z8 : (op == 8) = false := by simpa using h8
  have z9 : (op == 9) = false := by simpa using h9
  have z10 : (op == 10) = false := by simpa using h10
  have z11 : (op == 11) = false := by simpa using h11
  have z12 : (op == 12) = false := by simpa using h12
  have z13 : (op == 13) = false := by simpa using h13
  have z14 : (op == 14) = false := by simpa using h14
  have z15 : (op == 15) = false := by simpa using h15
  have z16 : (op == 16) = false := by simpa using h16
  have z17 : (op == 17) = false := by simpa using h17
  have z18 : (op == 18) = false := by simpa using h18
  have z20 : (op == 20) = false := by simpa using h20
  go_enter Try.func20, Try.ntmps20
  go_wp2
  refine bodyPost_ret (v := limV 0 0 0 0 0 0 false) ?_ rfl ⟨0, 0, 0, 0, 0, 0, false, rfl, limNo h0 h4 h5 h19 h21 h1 h2 h3 h6 h7 h8 h9 h10 h11 h12 h13 h14 h15 h16 h17 h18 h20, below7 _ _ _ _ _ _ _ _⟩
  unfold results limV
  rw [limRes]
  go_simp

end Go.Proofs.Ytkpbampffndjoaa
