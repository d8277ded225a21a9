/-
  The walk of leads; the row of blocks in memory.
-/
import Derived.Test.YtkpbampffndjoaaCSmall
namespace Go.Proofs.Ytkpbampffndjoaa
open Go.RowKit

theorem below_drewN {B : Nat} {a w : World} (h : Below B a w) (n : Nat) : Below B a (w.drewN n) := by
  induction n with
  | zero => exact h
  | succ n ih => exact ih.drew

/-- In block g lies in which block each place is. -/
structure Row (w : World) (g : Nat) (ps : List Ins) : Prop where
  lt : g < w.heap.size
  cell : ∀ j, j ≤ ps.length → w.cell? ⟨g, j, none⟩ = some (.int .i64 (inB ps j : Nat))

theorem Row.keep {w w' : World} {g : Nat} {ps : List Ins} (h : Row w g ps) (hb : w'.heap[g]? = w.heap[g]?) (hs : w.heap.size ≤ w'.heap.size) : Row w' g ps :=
  ⟨Nat.lt_of_lt_of_le h.lt hs, fun j hj => (World.cell?_of_block (w := w) hb).trans (h.cell j hj)⟩
theorem Row.grown {w w' : World} {g : Nat} {ps : List Ins} (h : Row w g ps) (hb : Below w.heap.size w w') : Row w' g ps := h.keep (hb.block g h.lt) hb.size

set_option maxHeartbeats 1600000 in
set_option maxRecDepth 100000 in
theorem leads_any {w : World} {g : Nat} {ps : List Ins} (h : Row w g ps) (i : Nat) (hi : i < ps.length) (x : Ins) :
    Calls Try.prog 19 #[.int .i64 i, .agg #[.int .i64 x.op, .int .i64 x.a, .int .i64 x.b, .int .i64 x.c], .slice (some ⟨g, 0, none⟩) (ps.length + 1) (ps.length + 1)] w fun e w' => e = .returned (.bool (leadsB ps i x)) ∧ Below w.heap.size w w' := by
  have ci := h.cell i (by omega)
  obtain ⟨op, a, b, c⟩ := x
  obtain ⟨L, hL⟩ : ∃ L, L = ps.length + 1 := ⟨_, rfl⟩
  obtain ⟨A, hA⟩ : ∃ A, A = inB ps i := ⟨_, rfl⟩
  have hlt := h.lt
  rw [← hL]
  rw [← hA] at ci
  have hiL : (i : Int) < (L : Int) := by omega
  dsimp only
  by_cases h3 : op ≠ 3 ∧ op ≠ 20
  · have e : leadsB ps i ⟨op, a, b, c⟩ = true := by unfold leadsB; rw [if_pos h3]
    rw [e]
    have h31 : (op != 3) = true := by simpa using h3.1
    have h32 : (op != 20) = true := by simpa using h3.2
    clear h hA hL h3 e
    go_enter Try.func19, Try.ntmps19
    go_wp2
    go_ret
    exact ⟨rfl, (Below.refl _ _).alloc (Nat.le_refl _) _⟩
  have e : leadsB ps i ⟨op, a, b, c⟩ = (decide ((i : Int) < a) && decide (a < (L : Nat)) && decide (inB ps a.toNat = A)) := by unfold leadsB; rw [if_neg h3, hL, hA]
  rw [e]
  have hop : op = 3 ∨ op = 20 := by
    by_cases q : op = 3
    · exact .inl q
    · by_cases q2 : op = 20
      · exact .inr q2
      · exact absurd ⟨q, q2⟩ h3
  clear e h3
  by_cases h1 : (i : Int) < a
  · obtain ⟨n, rfl⟩ : ∃ n : Nat, a = n := ⟨a.toNat, by omega⟩
    by_cases h2 : (n : Int) < (L : Int)
    · have cn := h.cell n (by omega)
      have E1 : decide (inB ps (n : Int).toNat = A) = ((inB ps n : Int) == (A : Int)) := by
        rw [Int.toNat_natCast, Bool.eq_iff_iff]
        simp
        omega
      rw [E1]
      obtain ⟨D, hD⟩ : ∃ D, D = inB ps n := ⟨_, rfl⟩
      rw [← hD] at cn ⊢
      clear h hA hL hD E1
      rcases hop with rfl | rfl <;>
      · go_enter Try.func19, Try.ntmps19
        go_wp2_with fail
        go_quiet (fail)
        go_wp2
        go_ret
        exact ⟨by simp [h1, h2], below_drewN ((Below.refl _ _).alloc (Nat.le_refl _) _) _⟩
    · have d1 : decide ((n : Int) < (L : Int)) = false := by simpa using h2
      have d2 : decide (n < L) = false := by simpa using h2
      have D1 := Hid.mk d1
      clear h hA hL
      rcases hop with rfl | rfl <;>
      · go_enter Try.func19, Try.ntmps19
        go_wp2_with fail
        go_quiet (fail)
        go_wp2
        go_ret
        exact ⟨by rw [D1.out]; simp, below_drewN ((Below.refl _ _).alloc (Nat.le_refl _) _) _⟩
  · have d1 : decide ((i : Int) < a) = false := by simpa using h1
    have D1 := Hid.mk d1
    clear h hA hL
    rcases hop with rfl | rfl <;>
    · go_enter Try.func19, Try.ntmps19
      go_wp2_with fail
      go_quiet (fail)
      go_wp2
      go_ret
      exact ⟨by rw [D1.out]; simp, below_drewN ((Below.refl _ _).alloc (Nat.le_refl _) _) _⟩

end Go.Proofs.Ytkpbampffndjoaa
