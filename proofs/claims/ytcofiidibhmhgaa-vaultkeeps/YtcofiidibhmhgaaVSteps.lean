/-
  The walks of 'steps' and of its closure.
-/
import Derived.Deep.RegionHeld3
import Derived.Test.YtcofiidibhmhgaaVOpen
namespace Go.Proofs.Ytcofiidibhmhgaa
open Go.RowKit

/-- What 'steps' answers: the six steps, in the cells of block g. -/
def stepCells (lb ob p q : Nat) : Array Value :=
  #[.func (.func 51) #[.pointer (some ⟨ob, 0, none⟩)] #[], .func (.func 38) #[.pointer (some ⟨ob, 0, none⟩)] #[],
    .func (.func 52) #[] #[.pointer (some ⟨p, 0, none⟩), .pointer (some ⟨q, 0, none⟩)], .func (.func 38) #[.pointer (some ⟨ob, 0, none⟩)] #[],
    .func (.func 51) #[.pointer (some ⟨lb, 0, none⟩)] #[], .func (.func 38) #[.pointer (some ⟨lb, 0, none⟩)] #[]]

section
variable {w : World} {vb lb ob b e : Nat} {v : Value} {o tn st : Bool} {dn ws : List Ch}

set_option maxHeartbeats 1600000 in
set_option maxRecDepth 100000 in
theorem steps_any (ha : VAt w vb lb ob e st) (r : ByteArray) :
    Calls Try.prog 34 #[.pointer (some ⟨vb, 0, none⟩), .string r] w fun en w' => en = .returned (.slice (some ⟨w.heap.size + 1 + 1, 0, none⟩) 6 6) ∧
      w'.heap[w.heap.size + 1 + 1]? = some (.cells (stepCells lb ob w.heap.size (w.heap.size + 1)) 1 (0, 0)) ∧ w'.heap[w.heap.size]? = some (.cells #[.pointer (some ⟨vb, 0, none⟩)] 29 (0, 0)) ∧ w'.heap[w.heap.size + 1]? = some (.cells #[.string r] 9 (0, 0)) ∧ Below w.heap.size w w' := by
  have hb2 : Below w.heap.size w ((w.alloc (.cells #[.pointer (some ⟨vb, 0, none⟩)] 29)).alloc (.cells #[.string r] 9)) := ((Below.refl _ w).alloc (Nat.le_refl _) _).alloc (by simp) _
  have ha2 := ha.grown hb2
  have c0 := ha2.c0
  have c1 := ha2.c1
  have d0 := cell_on (.cells #[.string r] 9) (laid_one w (.pointer (some ⟨vb, 0, none⟩)) 29).1
  clear ha2
  go_enter Try.func34, Try.ntmps34
  go_wp2_with fail
  refine wp_region_held_drew (S := fun wx => wx.cell? ⟨vb, 0, none⟩ = some (.pointer (some ⟨lb, 0, none⟩)) ∧ wx.cell? ⟨vb, 1, none⟩ = some (.pointer (some ⟨ob, 0, none⟩)) ∧ wx.cell? ⟨w.heap.size, 0, none⟩ = some (.pointer (some ⟨vb, 0, none⟩))) (by kernel_rfl) ⟨c0, c1, d0⟩ (fun hHeld => ?_)
  refine wpAnyH_take (i := 0) (v := ?_) rfl (by kernel_rfl) (by kernel_rfl) (by kernel_rfl) (fun _ _ _ h => h) (Or.inl ⟨by rfl, ?h0⟩) (by assumption) ?_
  case h0 =>
    intro wx hSw
    try dsimp only at hSw
    go_simp
    try with_reducible rfl
  refine wpAnyH_take (i := 1) (v := ?_) rfl (by kernel_rfl) (by kernel_rfl) (by kernel_rfl) (fun _ _ _ h => h) (Or.inl ⟨by rfl, ?h1⟩) (by assumption) ?_
  case h1 =>
    intro wx hSw
    try dsimp only at hSw
    go_simp
    try with_reducible rfl
  refine wpAnyH_take (i := 2) (v := ?_) rfl (by kernel_rfl) (by kernel_rfl) (by kernel_rfl) (fun _ _ _ h => h) (Or.inl ⟨by rfl, ?h2⟩) (by assumption) ?_
  case h2 =>
    intro wx hSw
    try dsimp only at hSw
    go_simp
    try with_reducible rfl
  refine wpAnyH_take (i := 3) (v := ?_) rfl (by kernel_rfl) (by kernel_rfl) (by kernel_rfl) (fun _ _ _ h => h) (Or.inl ⟨by rfl, ?h3⟩) (by assumption) ?_
  case h3 =>
    intro wx hSw
    try dsimp only at hSw
    go_simp
    try with_reducible rfl
  refine wpAnyH_take (i := 4) (v := ?_) rfl (by kernel_rfl) (by kernel_rfl) (by kernel_rfl) (fun _ _ _ h => h) (Or.inl ⟨by rfl, ?h4⟩) (by assumption) ?_
  case h4 =>
    intro wx hSw
    try dsimp only at hSw
    go_simp
    try with_reducible rfl
  refine wpAnyH_take (i := 5) (v := ?_) rfl (by kernel_rfl) (by kernel_rfl) (by kernel_rfl) (fun _ _ _ h => h) (Or.inl ⟨by rfl, ?h5⟩) (by assumption) ?_
  case h5 =>
    intro wx hSw
    try dsimp only at hSw
    go_simp
    try with_reducible rfl
  refine wpAnyH_take (i := 6) (v := ?_) rfl (by kernel_rfl) (by kernel_rfl) (by kernel_rfl) (fun _ _ _ h => h) (Or.inl ⟨by rfl, ?h6⟩) (by assumption) ?_
  case h6 =>
    intro wx hSw
    try dsimp only at hSw
    go_simp
    try with_reducible rfl
  refine wpAnyH_take (i := 7) (v := ?_) rfl (by kernel_rfl) (by kernel_rfl) (by kernel_rfl) (fun _ _ _ h => h) (Or.inl ⟨by rfl, ?h7⟩) (by assumption) ?_
  case h7 =>
    intro wx hSw
    try dsimp only at hSw
    go_simp
    try with_reducible rfl
  refine wpAnyH_take (i := 8) (v := ?_) rfl (by kernel_rfl) (by kernel_rfl) (by kernel_rfl) (fun _ _ _ h => h) (Or.inl ⟨by rfl, ?h8⟩) (by assumption) ?_
  case h8 =>
    intro wx hSw
    try dsimp only at hSw
    go_simp
    try with_reducible rfl
  refine wpAnyH_take (i := 9) (v := ?_) rfl (by kernel_rfl) (by kernel_rfl) (by kernel_rfl) (fun _ _ _ h => h) (Or.inl ⟨by rfl, ?h9⟩) (by assumption) ?_
  case h9 =>
    intro wx hSw
    try dsimp only at hSw
    go_simp
    try with_reducible rfl
  refine wpAnyH_take (i := 10) (v := ?_) rfl (by kernel_rfl) (by kernel_rfl) (by kernel_rfl) (fun _ _ _ h => h) (Or.inl ⟨by rfl, ?h10⟩) (by assumption) ?_
  case h10 =>
    intro wx hSw
    try dsimp only at hSw
    go_simp
    try with_reducible rfl
  refine wpAnyH_take (i := 11) (v := ?_) rfl (by kernel_rfl) (by kernel_rfl) (by kernel_rfl) (fun _ _ _ h => h) (Or.inl ⟨by rfl, ?h11⟩) (by assumption) ?_
  case h11 =>
    intro wx hSw
    try dsimp only at hSw
    go_simp
    try with_reducible rfl
  refine wpAnyH_take (i := 12) (v := ?_) rfl (by kernel_rfl) (by kernel_rfl) (by kernel_rfl) (fun _ _ _ h => h) (Or.inl ⟨by rfl, ?h12⟩) (by assumption) ?_
  case h12 =>
    intro wx hSw
    try dsimp only at hSw
    go_simp
    try with_reducible rfl
  refine wpAnyH_take (i := 13) (v := ?_) rfl (by kernel_rfl) (by kernel_rfl) (by kernel_rfl) (fun _ _ _ h => h) (Or.inl ⟨by rfl, ?h13⟩) (by assumption) ?_
  case h13 =>
    intro wx hSw
    try dsimp only at hSw
    go_simp
    try with_reducible rfl
  refine wpAnyH_take (i := 14) (v := ?_) rfl (by kernel_rfl) (by kernel_rfl) (by kernel_rfl) (fun _ _ _ h => h) (Or.inl ⟨by rfl, ?h14⟩) (by assumption) ?_
  case h14 =>
    intro wx hSw
    try dsimp only at hSw
    go_simp
    try with_reducible rfl
  refine wpAnyH_take (i := 15) (v := ?_) rfl (by kernel_rfl) (by kernel_rfl) (by kernel_rfl) (fun _ _ _ h => h) (Or.inl ⟨by rfl, ?h15⟩) (by assumption) ?_
  case h15 =>
    intro wx hSw
    try dsimp only at hSw
    go_simp
    try with_reducible rfl
  refine wpAnyH_take (i := 16) (v := ?_) rfl (by kernel_rfl) (by kernel_rfl) (by kernel_rfl) (fun _ _ _ h => h) (Or.inl ⟨by rfl, ?h16⟩) (by assumption) ?_
  case h16 =>
    intro wx hSw
    try dsimp only at hSw
    go_simp
    try with_reducible rfl
  refine wpAnyH_take (i := 17) (v := ?_) rfl (by kernel_rfl) (by kernel_rfl) (by kernel_rfl) (fun _ _ _ h => h) (Or.inl ⟨by rfl, ?h17⟩) (by assumption) ?_
  case h17 =>
    intro wx hSw
    try dsimp only at hSw
    go_simp
    try with_reducible rfl
  refine wpAnyH_take (i := 18) (v := ?_) rfl (by kernel_rfl) (by kernel_rfl) (by kernel_rfl) (fun _ _ _ h => h) (Or.inl ⟨by rfl, ?h18⟩) (by assumption) ?_
  case h18 =>
    intro wx hSw
    try dsimp only at hSw
    go_simp
    try with_reducible rfl
  refine wpAnyH_take (i := 19) (v := ?_) rfl (by kernel_rfl) (by kernel_rfl) (by kernel_rfl) (fun _ _ _ h => h) (Or.inl ⟨by rfl, ?h19⟩) (by assumption) ?_
  case h19 =>
    intro wx hSw
    try dsimp only at hSw
    go_simp
    try with_reducible rfl
  refine wpAnyH_take (i := 20) (v := ?_) rfl (by kernel_rfl) (by kernel_rfl) (by kernel_rfl) (fun _ _ _ h => h) (Or.inl ⟨by rfl, ?h20⟩) (by assumption) ?_
  case h20 =>
    intro wx hSw
    try dsimp only at hSw
    go_simp
    try with_reducible rfl
  refine wpAnyH_take (i := 21) (v := ?_) rfl (by kernel_rfl) (by kernel_rfl) (by kernel_rfl) (fun _ _ _ h => h) (Or.inl ⟨by rfl, ?h21⟩) (by assumption) ?_
  case h21 =>
    intro wx hSw
    try dsimp only at hSw
    go_simp
    try with_reducible rfl
  refine wpAnyH_take (i := 22) (v := ?_) rfl (by kernel_rfl) (by kernel_rfl) (by kernel_rfl) (fun _ _ _ h => h) (Or.inl ⟨by rfl, ?h22⟩) (by assumption) ?_
  case h22 =>
    intro wx hSw
    try dsimp only at hSw
    go_simp
    try with_reducible rfl
  refine wpAnyH_take (i := 23) (v := ?_) rfl (by kernel_rfl) (by kernel_rfl) (by kernel_rfl) (fun _ _ _ h => h) (Or.inl ⟨by rfl, ?h23⟩) (by assumption) ?_
  case h23 =>
    intro wx hSw
    try dsimp only at hSw
    go_simp
    try with_reducible rfl
  refine wpAnyH_take (i := 24) (v := ?_) rfl (by kernel_rfl) (by kernel_rfl) (by kernel_rfl) (fun _ _ _ h => h) (Or.inl ⟨by rfl, ?h24⟩) (by assumption) ?_
  case h24 =>
    intro wx hSw
    try dsimp only at hSw
    go_simp
    try with_reducible rfl
  refine wpAnyH_take (i := 25) (v := ?_) rfl (by kernel_rfl) (by kernel_rfl) (by kernel_rfl) (fun _ _ _ h => h) (Or.inl ⟨by rfl, ?h25⟩) (by assumption) ?_
  case h25 =>
    intro wx hSw
    try dsimp only at hSw
    go_simp
    try with_reducible rfl
  refine wpAnyH_ready (rs := [26]) (by kernel_rfl) (by simp) ?_
  refine AllReadyH.cons rfl (fun K hK => ?_) AllReadyH.nil
  go_simp
  refine hK.out _ _ ⟨cell_on _ c0, cell_on _ c1, cell_on _ d0⟩ (fun hHeld => ?_)
  clear hK K
  refine wpAnyH_take (i := 27) (v := ?_) rfl (by kernel_rfl) (by kernel_rfl) (by kernel_rfl) (fun _ _ _ h => h) (Or.inl ⟨by rfl, ?h27⟩) (by assumption) ?_
  case h27 =>
    intro wx hSw
    try dsimp only at hSw
    go_simp
    try with_reducible rfl
  refine wpAnyH_done (by kernel_rfl) ?_ _
  go_wp2
  go_ret
  refine ⟨rfl, ?_, ?_, ?_, ((Below.refl _ w).alloc (Nat.le_refl _) _).alloc (by simp) _ |>.alloc (by simp; omega) _ |>.drew⟩
  rotate_left
  · show (((w.alloc _).alloc _).alloc _).heap[w.heap.size]? = _
    rw [Below.heap_alloc _ _ _ (by simp; omega), Below.heap_alloc _ _ _ (by simp)]
    exact heap_alloc_new w _
  · show (((w.alloc (.cells #[.pointer (some ⟨vb, 0, none⟩)] 29)).alloc (.cells #[.string r] 9)).alloc _).heap[w.heap.size + 1]? = _
    rw [Below.heap_alloc _ _ _ (by simp)]
    have h4 := heap_alloc_new (w.alloc (.cells #[.pointer (some ⟨vb, 0, none⟩)] 29)) (.cells #[.string r] 9)
    rw [World.size_alloc] at h4
    exact h4
  have h3 := heap_alloc_new ((w.alloc (.cells #[.pointer (some ⟨vb, 0, none⟩)] 29)).alloc (.cells #[.string r] 9)) (.cells (stepCells lb ob w.heap.size (w.heap.size + 1)) 1)
  rw [World.size_alloc, World.size_alloc] at h3
  exact h3

set_option maxHeartbeats 800000 in
set_option maxRecDepth 100000 in
theorem clo_any {p q : Nat} (r : ByteArray) (ha : VAt w vb lb ob e st) (hp : w.cell? ⟨p, 0, none⟩ = some (.pointer (some ⟨vb, 0, none⟩))) (hq : w.cell? ⟨q, 0, none⟩ = some (.string r)) (hl : LogAt w ob b o tn) (h : Has w b v dn ws) (hs : r.size ≤ 1024) (hn : ws.length ≤ 1000000) :
    Calls Try.prog 52 #[.pointer (some ⟨p, 0, none⟩), .pointer (some ⟨q, 0, none⟩)] w fun en w' => en = .returned (.tuple #[]) ∧ ∃ v', Has w' b v' dn (stepL o tn r dn ws).2 ∧ Wrote b v w v' w' := by
  have c1 := ha.c1
  have hc := logAppend_any r hl.drew h.drew (by omega) hn
  have HC := Hid.mk hc
  clear hc
  go_enter Try.func52, Try.ntmps52
  go_wp2_with fail
  go_region_with ((go_at_call 32; refine HC.out.mono ?_; rintro en w1 ⟨rfl, R⟩; have HR := Hid.mk R; clear R))
  all_goals
    go_wp2
    go_end0
    obtain ⟨v', h1, h2⟩ := HR.out
    exact ⟨rfl, v', h1, (Wrote.of_below ((Below.refl _ _).drew)).trans h2⟩

end

end Go.Proofs.Ytcofiidibhmhgaa
