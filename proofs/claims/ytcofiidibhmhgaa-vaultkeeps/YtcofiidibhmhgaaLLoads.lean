/-
  The walks of the log's All, of the law's own 'loads', and of Lasting.
-/
import Derived.Stop.RegionWithIn
import Derived.Maps.AppendAt
import Derived.Test.YtcofiidibhmhgaaLApp
namespace Go.Proofs.Ytcofiidibhmhgaa
open Go.RowKit Go.Shelf
attribute [local go_sem] Oper.semAt_some

/-- What All answers: the iterator over these bytes. -/
def Iter (s : ByteArray) (w : World) (e : Ending) (w' : World) : Prop :=
  ∃ k, e = .returned (.func (.func 64) #[] #[.pointer (some ⟨k, 0, none⟩)]) ∧ w.heap.size ≤ k ∧ k < w'.heap.size ∧ w'.cell? ⟨k, 0, none⟩ = some (.string s) ∧ Below w.heap.size w w'

set_option maxRecDepth 100000 in
theorem wall_any (s : ByteArray) (w : World) : Calls Try.prog 55 #[.string s] w (Iter s w) := by
  refine (callsIn_wide (n := 3)).1 ((all_in 3 s w).mono ?_)
  rintro e w' ⟨rfl, rfl⟩
  exact ⟨w.heap.size, rfl, Nat.le_refl _, by simp, (laid_one w _ _).1, (Below.refl _ _).alloc (Nat.le_refl _) _⟩

section
variable {w : World} {lb b : Nat} {v : Value} {o tn : Bool} {dn ws : List Ch}

set_option maxHeartbeats 400000 in
set_option maxRecDepth 100000 in
theorem logAll_any (hl : LogAt w lb b o tn) (h : Has w b v dn ws) :
    Calls Try.prog 42 #[.pointer (some ⟨lb, 0, none⟩)] w (Iter (txt o (dn ++ ws)) w) := by
  go_enter Try.func42, Try.ntmps42
  go_wp2_with fail
  refine (now_any hl h).mono ?_
  rintro e w1 ⟨rfl, hb1⟩
  go_wp2_with fail
  refine (wall_any _ _).mono ?_
  rintro e w2 ⟨k, rfl, hk, hk2, hc, hb2⟩
  have HC := Hid.mk hc
  clear hc
  go_wp2
  go_ret
  exact ⟨k, rfl, Nat.le_trans hb1.size hk, hk2, HC.out, hb1.trans (hb2.mono hb1.size)⟩

set_option maxHeartbeats 400000 in
set_option maxRecDepth 100000 in
theorem logAll_nil (w : World) : Calls Try.prog 42 #[.pointer none] w (Iter ⟨#[]⟩ w) := by
  go_enter Try.func42, Try.ntmps42
  go_wp2_with fail
  refine (now_nil _).mono ?_
  rintro e w1 ⟨rfl, rfl⟩
  go_wp2_with fail
  refine (wall_any _ _).mono ?_
  rintro e w2 ⟨k, rfl, hk, hk2, hc, hb2⟩
  have HC := Hid.mk hc
  clear hc
  go_wp2
  go_ret
  exact ⟨k, rfl, hk, hk2, HC.out, hb2⟩

end

theorem box_cell {W : World} {B : Nat} {v : Value} {t : TypeId} (h : W.heap[B]? = some (.cells #[v] t (0, 0))) : W.cell? ⟨B, 0, none⟩ = some v ∧ W.frozen? ⟨B, 0, none⟩ = false := by
  constructor <;> simp [World.cell?, World.frozen?, h]

/-- What 'out' holds between two rounds. -/
structure OutAt (base B : Nat) (pre : List ByteArray) (W : World) : Prop where
  box : ∃ v, W.heap[B]? = some (.cells #[v] 24 (0, 0)) ∧ W.ownsRow base 9 1 v pre.length (textCells pre)

theorem row_abides {A W : World} {row : Option Nat} {base : Nat} {e : TypeId} {size : Nat} {v : Value} {k : Nat} {xs : List Value} (h : A.ownsRow base e size v k xs) (hg : A.grownBy W row)
    (hr : ∀ r, row = some r → ∃ o : Obj, A.heap[r]? = some o ∧ o.isCells = false) : W.ownsRow base e size v k xs := by
  refine h.kept hg ?_
  rcases h.2 with ⟨rfl, _⟩ | ⟨g, cap, cur, rfl, _, hgb, _⟩
  · exact .inl rfl
  · refine .inr fun e' => ?_
    obtain ⟨o, ho, hw⟩ := hr g (by simpa [Value.ownBlock] using e'.symm)
    rw [hgb] at ho; cases ho; cases hw

theorem OutAt.kept {base B : Nat} {pre : List ByteArray} {A W : World} {row : Option Nat} (h : OutAt base B pre A) (hg : A.grownBy W row) (hr : ∀ r, row = some r → ∃ o : Obj, A.heap[r]? = some o ∧ o.isCells = false) : OutAt base B pre W := by
  obtain ⟨v, hv, hrow⟩ := h.box
  refine ⟨v, ?_, row_abides hrow hg hr⟩
  rw [hg.block B (Array.getElem?_eq_some_iff.1 hv).1 (fun e => ?_)]
  · exact hv
  · obtain ⟨o, ho, hw⟩ := hr B e.symm
    rw [hv] at ho; cases ho; cases hw

theorem row_cells {W : World} {base : Nat} {e : TypeId} {size : Nat} {v : Value} {k : Nat} {xs : List Value} (h : W.ownsRow base e size v k xs) : ∀ (j : Nat) (o : Obj), v.ownBlock = some j → W.heap[j]? = some o → o.isCells = true := by
  intro j o hj ho
  rcases h.2 with ⟨rfl, _⟩ | ⟨g, cap, cur, rfl, _, hgb, _⟩
  · simp [Value.ownBlock] at hj
  · have : g = j := by simpa [Value.ownBlock] using hj
    subst this; rw [hgb] at ho; cases ho; rfl

theorem row_shape {W : World} {base : Nat} {e : TypeId} {size : Nat} {v : Value} {k : Nat} {xs : List Value} (h : W.ownsRow base e size v (k + 1) xs) : ∃ g cap, v = .slice (some ⟨g, 0, none⟩) (k + 1) cap := by
  rcases h.2 with ⟨_, h0⟩ | ⟨g, cap, _, e, _⟩
  · omega
  · exact ⟨g, cap, e⟩

/-- A round: the row has one more, and the box holds it. -/
theorem OutAt.added {base B : Nat} {pre : List ByteArray} {x : ByteArray} {W w3 : World} {v v' : Value} (hv : W.heap[B]? = some (.cells #[v] 24 (0, 0))) (hrow : W.ownsRow base 9 1 v pre.length (textCells pre))
    (hown : w3.ownsRow base 9 1 v' (pre.length + 1) (textCells pre ++ [.string x])) (hg : (W.alloc (.cells #[.string x] 9)).grownBy w3 v.ownBlock) :
    w3.heap[B]? = some (.cells #[v] 24 (0, 0)) ∧ OutAt base B (pre ++ [x]) (w3.setCell ⟨B, 0, none⟩ v') ∧ KeepsOthers W (w3.setCell ⟨B, 0, none⟩ v') := by
  have hBlt := (Array.getElem?_eq_some_iff.1 hv).1
  have hnv : v.ownBlock ≠ some B := fun e => by
    rcases hrow.2 with ⟨rfl, _⟩ | ⟨g, cap, cur, rfl, _, hgb, _⟩
    · simp [Value.ownBlock] at e
    · have : g = B := by simpa [Value.ownBlock] using e
      subst this
      exact ne_block hgb hv (by decide) rfl
  have h3 : w3.heap[B]? = some (.cells #[v] 24 (0, 0)) := by
    rw [hg.block B (by simp; omega) (fun e => hnv e.symm), Below.heap_alloc _ _ _ hBlt]
    exact hv
  refine ⟨h3, ⟨v', ?_, ?_⟩, ((KeepsOthers.alloc W _).trans (KeepsOthers.of_grownBy hg (row_cells (hrow.alloc _)))).trans (KeepsOthers.setCell _ _ _)⟩
  · rw [heap_set _ h3]; simp
  · have hl : (pre ++ [x]).length = pre.length + 1 := by simp
    rw [hl, textCells_append]
    refine ⟨hown.1, ?_⟩
    rcases hown.2 with h0 | ⟨g, cap, cur, e, h0, hg', r⟩
    · exact .inl h0
    · refine .inr ⟨g, cap, cur, e, h0, ?_, r⟩
      rw [Below.heap_setCell _ _ _ _ (ne_block hg' h3 (by decide))]
      exact hg'



section
variable {w : World} {lb b : Nat} {v : Value} {o tn : Bool} {dn ws : List Ch}









end

end Go.Proofs.Ytcofiidibhmhgaa
