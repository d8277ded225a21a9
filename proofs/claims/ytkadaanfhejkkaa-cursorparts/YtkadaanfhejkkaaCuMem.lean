/-
  How many bytes were read at three sockets: a cursor in memory, and the walks of its calls.
-/
import Derived.Test.YtkadaanfhejkkaaRLow
namespace Go.Proofs.Ytkadaanfhejkkaa.Cur
open Go.RowKit Go.Proofs.Ytkadaanfhejkkaa.Cel

/-- One place another. -/
def upd (f : Nat → Nat) (j x : Nat) : Nat → Nat := fun k => if k = j then x else f k

/-- Is there such a socket? -/
def isS (s : Int) : Bool := decide (0 ≤ s) && decide (s ≤ 2)

theorem isS_yes {s : Int} (h : isS s = true) : ∃ i : Nat, i < 3 ∧ s = (i : Int) := by
  simp [isS] at h
  exact ⟨s.toNat, by omega, by omega⟩
theorem isS_of {i : Nat} (h : i < 3) : isS (i : Int) = true := by simp [isS]; omega
/-- No such socket. -/
def Not3 (s : Int) : Prop := ¬ (0 ≤ s ∧ s < 3)
theorem isS_no {s : Int} (h : isS s = false) : Not3 s := by
  simp [isS] at h
  unfold Not3
  omega

theorem below3 {j : Nat} (h : j < 3) : j = 0 ∨ j = 1 ∨ j = 2 := by omega

/-- Three numbers as cells. -/
def cA (f : Nat → Nat) : Array Value := #[.int .i64 (f 0), .int .i64 (f 1), .int .i64 (f 2)]

theorem cA_at (f : Nat → Nat) (j : Nat) (h : j < 3) : (cA f)[j]? = some (.int .i64 (f j)) := by
  rcases below3 h with rfl | rfl | rfl <;> rfl
theorem cA_set (f : Nat → Nat) (j x : Nat) (h : j < 3) : (cA f).setIfInBounds j (.int .i64 x) = cA (upd f j x) := by
  rcases below3 h with rfl | rfl | rfl <;> rfl

/-- A cursor in block b. -/
structure CurAt (w : World) (b : Nat) (f : Nat → Nat) : Prop where
  at_ : w.heap[b]? = some (.cells (cA f) 27 (0, 0))
  good : ∀ i, i < 3 → f i ≤ 64

def nones : Nat → Nat := fun _ => 0

/-- What a step does, and answers; what is read. -/
def okF (f : Nat → Nat) (s : Int) : Bool := isS s && decide (f s.toNat < 64)
def stF (f : Nat → Nat) (s : Int) : Nat → Nat := if okF f s then upd f s.toNat (f s.toNat + 1) else f
def rdF (f : Nat → Nat) (s : Int) : Nat := if isS s then f s.toNat else 0
def anyF (f : Nat → Nat) : Bool := decide (f 0 ≠ 0 ∨ f 1 ≠ 0 ∨ f 2 ≠ 0)

section
variable {w w' : World} {b : Nat} {f : Nat → Nat}

theorem CurAt.lt (h : CurAt w b f) : b < w.heap.size := (Array.getElem?_eq_some_iff.1 h.at_).1
theorem CurAt.grown (h : CurAt w b f) (hb : Below w.heap.size w w') : CurAt w' b f := ⟨(hb.block b h.lt).trans h.at_, h.good⟩
theorem CurAt.cell (h : CurAt w b f) (j : Nat) (hj : j < 3) : w.cell? ⟨b, j, none⟩ = some (.int .i64 (f j)) := cell_at h.at_ (cA_at f j hj)
theorem CurAt.fz (h : CurAt w b f) (i : Nat) : w.frozen? ⟨b, i, none⟩ = false := free_at h.at_
theorem CurAt.drewN (h : CurAt w b f) (n : Nat) : CurAt (w.drewN n) b f := ⟨by rw [heap_drewN]; exact h.at_, h.good⟩
theorem CurAt.drew (h : CurAt w b f) : CurAt w.drew b f := ⟨h.at_, h.good⟩
theorem CurAt.made (w : World) : CurAt (w.alloc (.cells #[.int .i64 0, .int .i64 0, .int .i64 0] 27)) w.heap.size nones := ⟨heap_new w _, fun _ _ => Nat.zero_le _⟩
theorem CurAt.other {d : Nat} {g : Nat → Nat} (h : CurAt w d g) (ho : Only b w w') (hn : d ≠ b) : CurAt w' d g := ⟨(ho.block d hn).trans h.at_, h.good⟩
theorem CurAt.rd_le (h : CurAt w b f) (s : Int) : rdF f s ≤ 64 := by
  unfold rdF
  split
  · rename_i e
    obtain ⟨i, hi, rfl⟩ := isS_yes e
    exact h.good i hi
  · omega

theorem good_upd (h : ∀ i, i < 3 → f i ≤ 64) (j : Nat) (hj : f j < 64) : ∀ i, i < 3 → upd f j (f j + 1) i ≤ 64 := fun i hi => by
  unfold upd
  split
  · omega
  · exact h i hi

set_option maxHeartbeats 400000 in
set_option maxRecDepth 100000 in
theorem has_yes (i : Nat) (hi : i < 3) (w : World) :
    Calls Try.prog 12 #[.pointer (some ⟨b, 0, none⟩), .int .i64 i] w fun e w' => e = .returned (.bool true) ∧ w' = w := by
  have h1 : (i : Int) < 3 := by omega
  have h0 : (0 : Int) ≤ i := by omega
  go_enter Try.func12, Try.ntmps12
  go_wp2
  go_ret
  exact ⟨rfl, rfl⟩

set_option maxHeartbeats 400000 in
set_option maxRecDepth 100000 in
theorem has_no (s : Int) (hs : Not3 s) (w : World) :
    Calls Try.prog 12 #[.pointer (some ⟨b, 0, none⟩), .int .i64 s] w fun e w' => e = .returned (.bool false) ∧ w' = w := by
  by_cases h0 : 0 ≤ s
  · have h1 : ¬ s < 3 := fun h => hs ⟨h0, h⟩
    clear hs
    go_enter Try.func12, Try.ntmps12
    go_wp2
    go_ret
    exact ⟨rfl, rfl⟩
  · clear hs
    go_enter Try.func12, Try.ntmps12
    go_wp2
    go_ret
    exact ⟨rfl, rfl⟩

set_option maxHeartbeats 400000 in
set_option maxRecDepth 100000 in
theorem has_nil (s : Int) (w : World) :
    Calls Try.prog 12 #[.pointer none, .int .i64 s] w fun e w' => e = .returned (.bool false) ∧ w' = w := by
  go_enter Try.func12, Try.ntmps12
  go_wp2
  go_ret
  exact ⟨rfl, rfl⟩

set_option maxHeartbeats 800000 in
set_option maxRecDepth 100000 in
theorem read_any (h : CurAt w b f) (s : Int) :
    Calls Try.prog 8 #[.pointer (some ⟨b, 0, none⟩), .int .i64 s] w fun e w' => e = .returned (.int .i64 (rdF f s)) ∧ w' = w := by
  unfold rdF
  cases hs : isS s with
  | true =>
    obtain ⟨i, hi, rfl⟩ := isS_yes hs
    have c0 := h.cell i hi
    have q0 : ¬ (i : Int) < 0 := by omega
    have q1 : (i : Int) < 3 := by omega
    rw [if_pos rfl, Int.toNat_natCast]
    clear h hs
    go_enter Try.func8, Try.ntmps8
    go_wp2_with fail
    refine (has_yes i hi _).mono ?_
    rintro e w1 ⟨rfl, rfl⟩
    go_wp2
    go_ret
    exact ⟨rfl, rfl⟩
  | false =>
    have hn := isS_no hs
    rw [if_neg (by decide)]
    clear h hs
    go_enter Try.func8, Try.ntmps8
    go_wp2_with fail
    refine (has_no s hn _).mono ?_
    rintro e w1 ⟨rfl, rfl⟩
    go_wp2
    go_ret
    exact ⟨rfl, rfl⟩

set_option maxHeartbeats 400000 in
set_option maxRecDepth 100000 in
theorem read_nil (s : Int) (w : World) :
    Calls Try.prog 8 #[.pointer none, .int .i64 s] w fun e w' => e = .returned (.int .i64 0) ∧ w' = w := by
  go_enter Try.func8, Try.ntmps8
  go_wp2_with fail
  refine (has_nil s _).mono ?_
  rintro e w1 ⟨rfl, rfl⟩
  go_wp2
  go_ret
  exact ⟨rfl, rfl⟩

set_option maxHeartbeats 800000 in
set_option maxRecDepth 100000 in
theorem place_any (h : CurAt w b f) (s p : Int) (p0 : 0 ≤ p) (p1 : p ≤ 1099511627776) :
    Calls Try.prog 10 #[.pointer (some ⟨b, 0, none⟩), .int .i64 s, .int .i64 p] w fun e w' => e = .returned (.int .i64 (p + (rdF f s : Nat))) ∧ w' = w := by
  have hl := h.rd_le s
  have hr := Hid.mk (read_any h s)
  obtain ⟨n, hn⟩ : ∃ n, n = rdF f s := ⟨_, rfl⟩
  rw [← hn] at hr hl ⊢
  clear hn h
  have q0 : (0 : Int) ≤ p + (n : Int) := by omega
  have q1 : p + (n : Int) ≤ 1099511627840 := by omega
  go_enter Try.func10, Try.ntmps10
  go_wp2_with fail
  refine hr.out.mono ?_
  rintro e w1 ⟨rfl, rfl⟩
  go_wp2
  go_ret
  exact ⟨rfl, rfl⟩

set_option maxHeartbeats 400000 in
set_option maxRecDepth 100000 in
theorem place_nil (s p : Int) (p0 : 0 ≤ p) (p1 : p ≤ 1099511627776) (w : World) :
    Calls Try.prog 10 #[.pointer none, .int .i64 s, .int .i64 p] w fun e w' => e = .returned (.int .i64 p) ∧ w' = w := by
  go_enter Try.func10, Try.ntmps10
  go_wp2_with fail
  refine (read_nil s _).mono ?_
  rintro e w1 ⟨rfl, rfl⟩
  go_wp2
  go_ret
  exact ⟨rfl, rfl⟩

end

end Go.Proofs.Ytkadaanfhejkkaa.Cur
