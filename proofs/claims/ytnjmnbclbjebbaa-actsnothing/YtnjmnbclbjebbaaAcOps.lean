/-
  The walks of Flush, Mark, and of the generic cut.
-/
import Derived.Test.YtnjmnbclbjebbaaAcMem
namespace Go.Proofs.Ytnjmnbclbjebbaa.Ac
open Go.RowKit Go.Deep Go.Proofs.Ytnjmnbclbjebbaa.Cel Go.Proofs.Ytnjmnbclbjebbaa.Dft

/-- Four numbers as cells. -/
def mA (m : Nat → Int) : Array Value := #[.int .i64 (m 0), .int .i64 (m 1), .int .i64 (m 2), .int .i64 (m 3)]

set_option maxRecDepth 100000 in
theorem size_mark (m : Nat → Int) : (Try.prog.info? 42).map (·.size) = some (mA m).size := by
  show _ = some 4
  kernel_rfl

section
variable {w w' : World} {b : Nat} {vs : Vs} {T : AS}

theorem AcAt.shape (h : AcAt w b vs T) (i : Nat) (hi : i < 4) : ∃ a cap, vs i = .slice a (rowN T i) cap ∧ (a = none → rowN T i = 0 ∧ cap = 0) ∧ rowN T i ≤ cap ∧ cap ≤ maxLen := (h.row i hi).shape

set_option maxHeartbeats 1000000 in
set_option maxRecDepth 100000 in
theorem flush_any (h : AcAt w b vs T) :
    Calls Try.prog 14 #[.pointer (some ⟨b, 0, none⟩)] w fun e w' => (∃ a cap, e = .returned (.slice a T.out.length cap) ∧ View w' eO 2 a T.out.length cap T.out) ∧ AcAt w' b (updV vs 0 (.slice none 0 0)) T.flush ∧ Wrote (Ft b vs) (Ft b (updV vs 0 (.slice none 0 0))) w w' := by
  obtain ⟨a, cap, e0, _, hc, _⟩ := h.shape 0 (by decide)
  have e0 : vs 0 = .slice a T.out.length cap := e0
  have HA := Hid.mk (AcAt.added (i := 0) (w2 := w) (v' := .slice none 0 0) (by decide) h (T' := T.flush) (Held.nil _ _ _ _) (World.grownBy.refl _ _) (fun k e => by cases e) (fun j hj hne => by
      rcases below4 hj with rfl | rfl | rfl | rfl
      · exact absurd rfl hne
      · exact ⟨rfl, rfl⟩
      · exact ⟨rfl, rfl⟩
      · exact ⟨rfl, rfl⟩))
  have c0 := h.cell 0 (by decide)
  have z0 := h.fz 0
  have hr := h.row 0 (by decide)
  rw [e0] at c0 hr
  have HV : Hid (View (w.setCell ⟨b, 0, none⟩ (.slice none 0 0)) eO 2 a T.out.length cap T.out) := by
    have hb : ∀ k, (Value.slice a T.out.length cap).ownBlock = some k → k ≠ b := fun k hk e => by
      subst e
      obtain ⟨cs, hcs⟩ := hr.block hk
      rw [h.at_] at hcs
      injection hcs with hcs
      injection hcs with _ hcs _
      exact ty_ne 0 (by decide) 29 (by decide) (by decide) (by decide) hcs.symm
    have hr2 := hr.carry (w' := w.setCell ⟨b, 0, none⟩ (.slice none 0 0)) fun k hk => Below.heap_setCell _ _ _ _ (hb k hk)
    exact Hid.mk (Held.view (enc := eO) (fun _ => rfl) hr2)
  clear h hr
  go_enter Try.func14, Try.ntmps14
  go_wp2
  go_ret
  exact ⟨⟨a, cap, rfl, HV.out⟩, HA.out.2.1, HA.out.2.2⟩

set_option maxHeartbeats 400000 in
set_option maxRecDepth 100000 in
theorem flush_nil (w : World) :
    Calls Try.prog 14 #[.pointer none] w fun e w' => e = .returned (.slice none 0 0) ∧ w' = w := by
  go_enter Try.func14, Try.ntmps14
  go_wp2
  go_ret
  exact ⟨rfl, rfl⟩

set_option maxHeartbeats 400000 in
set_option maxRecDepth 100000 in
theorem mark_nil (w : World) :
    Calls Try.prog 17 #[.pointer none] w fun e w' => e = .returned (.agg (mA fun _ => 0)) ∧ Below w.heap.size w w' := by
  have HB := Hid.mk ((Below.refl w.heap.size w).alloc (Nat.le_refl _) (.cells #[.int .i64 0, .int .i64 0, .int .i64 0, .int .i64 0] 42))
  go_enter Try.func17, Try.ntmps17
  go_wp2
  refine bodyPost_ret (v := .agg (mA fun _ => 0)) ?_ rfl ⟨rfl, HB.out⟩
  exact results_cell_row rfl _ _ w.heap.size 42 _ (0, 0) _ rfl (heap_new _ _) Try.underlying42 rfl (size_mark _)

set_option maxHeartbeats 1000000 in
set_option maxRecDepth 100000 in
theorem mark_any (h : AcAt w b vs T) :
    Calls Try.prog 17 #[.pointer (some ⟨b, 0, none⟩)] w fun e w' => e = .returned (.agg (mA T.mark)) ∧ Below w.heap.size w w' := by
  obtain ⟨a0, cap0, e0, _⟩ := h.shape 0 (by decide)
  obtain ⟨a1, cap1, e1, _⟩ := h.shape 1 (by decide)
  obtain ⟨a2, cap2, e2, _⟩ := h.shape 2 (by decide)
  obtain ⟨a3, cap3, e3, _⟩ := h.shape 3 (by decide)
  have h1 := h.grown ((Below.refl w.heap.size w).alloc (Nat.le_refl _) (.cells #[.int .i64 0, .int .i64 0, .int .i64 0, .int .i64 0] 42))
  have c0 := h1.cell 0 (by decide)
  have c1 := h1.cell 1 (by decide)
  have c2 := h1.cell 2 (by decide)
  have c3 := h1.cell 3 (by decide)
  rw [e0] at c0
  rw [e1] at c1
  rw [e2] at c2
  rw [e3] at c3
  have HB := Hid.mk ((Below.refl w.heap.size w).alloc (Nat.le_refl _) (.cells (mA T.mark) 42))
  clear h h1 e0 e1 e2 e3
  go_enter Try.func17, Try.ntmps17
  go_wp2_with fail
  go_big_region
  all_goals
    go_wp2
    refine bodyPost_ret (v := .agg (mA T.mark)) ?_ rfl ⟨rfl, HB.out.drew⟩
    exact results_cell_row rfl _ _ w.heap.size 42 (mA T.mark) (0, 0) _ rfl (show (w.alloc (.cells (mA T.mark) 42)).heap[w.heap.size]? = _ from heap_new _ _) Try.underlying42 rfl (size_mark _)

/-- How many stay. -/
def stays (m : Int) (n : Nat) : Nat := min m.toNat n
theorem stays_le (m : Int) (n : Nat) : stays m n ≤ n := Nat.min_le_right _ _

set_option maxHeartbeats 1000000 in
set_option maxRecDepth 100000 in
theorem firstO_any (a : Option Addr) (n cap : Nat) (hn : a = none → n = 0 ∧ cap = 0) (hc : n ≤ cap) (m : Int) (w : World) :
    Calls Try.prog 27 #[.slice a n cap, .int .i64 m] w fun e w' => e = .returned (.slice a (stays m n) (stays m n)) ∧ w' = w := by
  rcases (show m < 0 ∨ 0 ≤ m by omega) with h0 | h0
  · have e : stays m n = 0 := by unfold stays; omega
    have h1 : (0 : Int) ≤ (n : Int) := by omega
    have h2 : ¬ (n : Int) < 0 := by omega
    have h3 : (0 : Int) ≤ (cap : Int) := by omega
    rw [e]
    clear e
    cases a with
    | none =>
      obtain ⟨rfl, rfl⟩ := hn rfl
      clear hn hc h1 h2 h3
      go_enter Try.func27, Try.ntmps27
      go_wp2
      all_goals
        go_ret
        exact ⟨rfl, rfl⟩
    | some p =>
      clear hn
      go_enter Try.func27, Try.ntmps27
      go_wp2
      all_goals
        go_ret
        exact ⟨rfl, rfl⟩
  · obtain ⟨j, rfl⟩ : ∃ j : Nat, m = (j : Int) := ⟨m.toNat, by omega⟩
    have h5 : ¬ (j : Int) < 0 := by omega
    clear h0
    by_cases h1 : j ≤ n
    · have e : stays (j : Int) n = j := by unfold stays; omega
      have h2 : (j : Int) ≤ (n : Int) := by omega
      have h3 : ¬ (n : Int) < (j : Int) := by omega
      have h4 : (j : Int) ≤ (cap : Int) := by omega
      have h6 : (0 : Int) ≤ (j : Int) := by omega
      rw [e]
      clear e
      cases a with
      | none =>
        obtain ⟨rfl, rfl⟩ := hn rfl
        obtain rfl : j = 0 := by omega
        clear hn hc h1 h2 h3 h4 h5 h6
        go_enter Try.func27, Try.ntmps27
        go_wp2
        all_goals
          go_ret
          exact ⟨rfl, rfl⟩
      | some p =>
        clear hn
        go_enter Try.func27, Try.ntmps27
        go_wp2
        all_goals
          go_ret
          exact ⟨rfl, rfl⟩
    · have e : stays (j : Int) n = n := by unfold stays; omega
      have h2 : ¬ (j : Int) ≤ (n : Int) := by omega
      have h3 : (n : Int) < (j : Int) := by omega
      have h4 : (n : Int) ≤ (cap : Int) := by omega
      have h6 : (0 : Int) ≤ (n : Int) := by omega
      rw [e]
      clear e
      cases a with
      | none =>
        obtain ⟨rfl, rfl⟩ := hn rfl
        clear hn hc h4 h6
        go_enter Try.func27, Try.ntmps27
        go_wp2
        all_goals
          go_ret
          exact ⟨rfl, rfl⟩
      | some p =>
        clear hn
        go_enter Try.func27, Try.ntmps27
        go_wp2
        all_goals
          go_ret
          exact ⟨rfl, rfl⟩

set_option maxHeartbeats 1000000 in
set_option maxRecDepth 100000 in
theorem firstP_any (a : Option Addr) (n cap : Nat) (hn : a = none → n = 0 ∧ cap = 0) (hc : n ≤ cap) (m : Int) (w : World) :
    Calls Try.prog 25 #[.slice a n cap, .int .i64 m] w fun e w' => e = .returned (.slice a (stays m n) (stays m n)) ∧ w' = w := by
  rcases (show m < 0 ∨ 0 ≤ m by omega) with h0 | h0
  · have e : stays m n = 0 := by unfold stays; omega
    have h1 : (0 : Int) ≤ (n : Int) := by omega
    have h2 : ¬ (n : Int) < 0 := by omega
    have h3 : (0 : Int) ≤ (cap : Int) := by omega
    rw [e]
    clear e
    cases a with
    | none =>
      obtain ⟨rfl, rfl⟩ := hn rfl
      clear hn hc h1 h2 h3
      go_enter Try.func25, Try.ntmps25
      go_wp2
      all_goals
        go_ret
        exact ⟨rfl, rfl⟩
    | some p =>
      clear hn
      go_enter Try.func25, Try.ntmps25
      go_wp2
      all_goals
        go_ret
        exact ⟨rfl, rfl⟩
  · obtain ⟨j, rfl⟩ : ∃ j : Nat, m = (j : Int) := ⟨m.toNat, by omega⟩
    have h5 : ¬ (j : Int) < 0 := by omega
    clear h0
    by_cases h1 : j ≤ n
    · have e : stays (j : Int) n = j := by unfold stays; omega
      have h2 : (j : Int) ≤ (n : Int) := by omega
      have h3 : ¬ (n : Int) < (j : Int) := by omega
      have h4 : (j : Int) ≤ (cap : Int) := by omega
      have h6 : (0 : Int) ≤ (j : Int) := by omega
      rw [e]
      clear e
      cases a with
      | none =>
        obtain ⟨rfl, rfl⟩ := hn rfl
        obtain rfl : j = 0 := by omega
        clear hn hc h1 h2 h3 h4 h5 h6
        go_enter Try.func25, Try.ntmps25
        go_wp2
        all_goals
          go_ret
          exact ⟨rfl, rfl⟩
      | some p =>
        clear hn
        go_enter Try.func25, Try.ntmps25
        go_wp2
        all_goals
          go_ret
          exact ⟨rfl, rfl⟩
    · have e : stays (j : Int) n = n := by unfold stays; omega
      have h2 : ¬ (j : Int) ≤ (n : Int) := by omega
      have h3 : (n : Int) < (j : Int) := by omega
      have h4 : (n : Int) ≤ (cap : Int) := by omega
      have h6 : (0 : Int) ≤ (n : Int) := by omega
      rw [e]
      clear e
      cases a with
      | none =>
        obtain ⟨rfl, rfl⟩ := hn rfl
        clear hn hc h4 h6
        go_enter Try.func25, Try.ntmps25
        go_wp2
        all_goals
          go_ret
          exact ⟨rfl, rfl⟩
      | some p =>
        clear hn
        go_enter Try.func25, Try.ntmps25
        go_wp2
        all_goals
          go_ret
          exact ⟨rfl, rfl⟩

set_option maxHeartbeats 1000000 in
set_option maxRecDepth 100000 in
theorem firstI_any (a : Option Addr) (n cap : Nat) (hn : a = none → n = 0 ∧ cap = 0) (hc : n ≤ cap) (m : Int) (w : World) :
    Calls Try.prog 28 #[.slice a n cap, .int .i64 m] w fun e w' => e = .returned (.slice a (stays m n) (stays m n)) ∧ w' = w := by
  rcases (show m < 0 ∨ 0 ≤ m by omega) with h0 | h0
  · have e : stays m n = 0 := by unfold stays; omega
    have h1 : (0 : Int) ≤ (n : Int) := by omega
    have h2 : ¬ (n : Int) < 0 := by omega
    have h3 : (0 : Int) ≤ (cap : Int) := by omega
    rw [e]
    clear e
    cases a with
    | none =>
      obtain ⟨rfl, rfl⟩ := hn rfl
      clear hn hc h1 h2 h3
      go_enter Try.func28, Try.ntmps28
      go_wp2
      all_goals
        go_ret
        exact ⟨rfl, rfl⟩
    | some p =>
      clear hn
      go_enter Try.func28, Try.ntmps28
      go_wp2
      all_goals
        go_ret
        exact ⟨rfl, rfl⟩
  · obtain ⟨j, rfl⟩ : ∃ j : Nat, m = (j : Int) := ⟨m.toNat, by omega⟩
    have h5 : ¬ (j : Int) < 0 := by omega
    clear h0
    by_cases h1 : j ≤ n
    · have e : stays (j : Int) n = j := by unfold stays; omega
      have h2 : (j : Int) ≤ (n : Int) := by omega
      have h3 : ¬ (n : Int) < (j : Int) := by omega
      have h4 : (j : Int) ≤ (cap : Int) := by omega
      have h6 : (0 : Int) ≤ (j : Int) := by omega
      rw [e]
      clear e
      cases a with
      | none =>
        obtain ⟨rfl, rfl⟩ := hn rfl
        obtain rfl : j = 0 := by omega
        clear hn hc h1 h2 h3 h4 h5 h6
        go_enter Try.func28, Try.ntmps28
        go_wp2
        all_goals
          go_ret
          exact ⟨rfl, rfl⟩
      | some p =>
        clear hn
        go_enter Try.func28, Try.ntmps28
        go_wp2
        all_goals
          go_ret
          exact ⟨rfl, rfl⟩
    · have e : stays (j : Int) n = n := by unfold stays; omega
      have h2 : ¬ (j : Int) ≤ (n : Int) := by omega
      have h3 : (n : Int) < (j : Int) := by omega
      have h4 : (n : Int) ≤ (cap : Int) := by omega
      have h6 : (0 : Int) ≤ (n : Int) := by omega
      rw [e]
      clear e
      cases a with
      | none =>
        obtain ⟨rfl, rfl⟩ := hn rfl
        clear hn hc h4 h6
        go_enter Try.func28, Try.ntmps28
        go_wp2
        all_goals
          go_ret
          exact ⟨rfl, rfl⟩
      | some p =>
        clear hn
        go_enter Try.func28, Try.ntmps28
        go_wp2
        all_goals
          go_ret
          exact ⟨rfl, rfl⟩

end

end Go.Proofs.Ytnjmnbclbjebbaa.Ac
