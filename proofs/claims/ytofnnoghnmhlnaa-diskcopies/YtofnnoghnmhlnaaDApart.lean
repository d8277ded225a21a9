/-
  The changes of one area alone; what a call makes of them.
-/
import Derived.Test.YtofnnoghnmhlnaaDTwo
namespace Go.Proofs.Ytofnnoghnmhlnaa
open Go.RowKit

/-- The changes of area 0 alone. -/
def flt (l : List Ch) : List Ch := l.filter fun c => !c.one

theorem flt_append (a b : List Ch) : flt (a ++ b) = flt a ++ flt b := by simp [flt]
theorem flt_one (r : Bool) (s : ByteArray) : flt [⟨true, r, s⟩] = [] := rfl
theorem flt_zero (r : Bool) (s : ByteArray) : flt [⟨false, r, s⟩] = [⟨false, r, s⟩] := rfl
theorem flt_length (l : List Ch) : (flt l).length ≤ l.length := List.length_filter_le _ _

theorem txt_flt (l : List Ch) : txt false (flt l) = txt false l := by
  have key : ∀ (l : List Ch) (x : ByteArray), (flt l).foldl (fun x c => c.on false x) x = l.foldl (fun x c => c.on false x) x := by
    intro l
    induction l with
    | nil => intro x; rfl
    | cons c r ih =>
      intro x
      cases ho : c.one with
      | false =>
        have e : flt (c :: r) = c :: flt r := by simp [flt, ho]
        rw [e]
        exact ih _
      | true =>
        have e : flt (c :: r) = flt r := by simp [flt, ho]
        have e2 : c.on false x = x := by simp [Ch.on, ho]
        rw [e, List.foldl_cons, e2]
        exact ih _
  exact key l _

theorem txt_other (l : List Ch) : txt true (flt l) = ⟨#[]⟩ := by
  have key : ∀ (l : List Ch) (x : ByteArray), (flt l).foldl (fun x c => c.on true x) x = x := by
    intro l
    induction l with
    | nil => intro x; rfl
    | cons c r ih =>
      intro x
      cases ho : c.one with
      | false =>
        have e : flt (c :: r) = c :: flt r := by simp [flt, ho]
        have e2 : c.on true x = x := by simp [Ch.on, ho]
        rw [e, List.foldl_cons, e2]
        exact ih _
      | true =>
        have e : flt (c :: r) = flt r := by simp [flt, ho]
        rw [e]
        exact ih _
  exact key l _

theorem apart_both (c : Cl) (dn ws : List Ch) (hk : c.kind = 3 → c.keep = 1048576) (hl : ws.length ≤ 1048576) (h : 1 < c.kind ∨ c.area = 0) :
    flt (step c dn ws).dn = (step c (flt dn) (flt ws)).dn ∧ flt (step c dn ws).ws = (step c (flt dn) (flt ws)).ws := by
  have hl2 : (flt ws).length ≤ 1048576 := Nat.le_trans (flt_length ws) hl
  unfold step
  by_cases q0 : c.kind = 0
  · have ha : c.area = 0 := by omega
    rw [if_pos q0, if_pos q0]
    unfold stepA
    rw [ha]
    simp only [true_or, ↓reduceIte, show (decide ((0 : Int) = 1)) = false from rfl]
    rw [← flt_append, txt_flt]
    split
    · exact ⟨rfl, rfl⟩
    · exact ⟨rfl, by rw [flt_append, flt_zero]⟩
  rw [if_neg q0, if_neg q0]
  by_cases q1 : c.kind = 1
  · have ha : c.area = 0 := by omega
    rw [if_pos q1, if_pos q1]
    unfold stepR
    rw [ha]
    simp only [true_or, ↓reduceIte, show (decide ((0 : Int) = 1)) = false from rfl]
    exact ⟨trivial, by rw [flt_append, flt_zero]⟩
  rw [if_neg q1, if_neg q1]
  by_cases q2 : c.kind = 2
  · rw [if_pos q2, if_pos q2]
    exact ⟨flt_append _ _, rfl⟩
  rw [if_neg q2, if_neg q2]
  by_cases q3 : c.kind = 3
  · rw [if_pos q3, if_pos q3, hk q3, kept_many ws hl, kept_many _ hl2]
    exact ⟨flt_append _ _, rfl⟩
  rw [if_neg q3, if_neg q3]
  exact ⟨rfl, rfl⟩

theorem apart_one (c : Cl) (dn ws : List Ch) (h : ¬ 1 < c.kind) (ha : c.area ≠ 0) :
    flt (step c dn ws).dn = flt dn ∧ flt (step c dn ws).ws = flt ws := by
  unfold step
  by_cases q0 : c.kind = 0
  · rw [if_pos q0]
    unfold stepA
    by_cases h1 : c.area = 1
    · rw [h1]
      simp only [or_true, ↓reduceIte, decide_true]
      split
      · exact ⟨rfl, rfl⟩
      · exact ⟨rfl, by rw [flt_append, flt_one, List.append_nil]⟩
    · rw [if_neg (by omega)]
      exact ⟨rfl, rfl⟩
  rw [if_neg q0]
  by_cases q1 : c.kind = 1
  · rw [if_pos q1]
    unfold stepR
    by_cases h1 : c.area = 1
    · rw [h1]
      simp only [or_true, ↓reduceIte, decide_true]
      exact ⟨trivial, by rw [flt_append, flt_one, List.append_nil]⟩
    · rw [if_neg (by omega)]
      exact ⟨rfl, rfl⟩
  rw [if_neg q1, if_neg (by omega), if_neg (by omega)]
  exact ⟨rfl, rfl⟩

/-- A block that was laid ahead of a call is as it was. -/
theorem box_cells {B : Nat} {w0 wr w' : World} {b : Nat} {v v' : Value} {dn ws : List Ch} {cs : Array Value} {t : TypeId} (h : Mine B w0 wr b v dn ws) (hw : Wrote b v (wr.alloc (.cells cs t)) v' w') :
    w'.heap[wr.heap.size]? = some (.cells cs t (0, 0)) := by
  have hlt := h.has.lt
  rw [hw.block wr.heap.size (by simp) (by omega) (fun e => by have := h.has.own_lt _ e; omega)]
  exact heap_alloc_new wr _

end Go.Proofs.Ytofnnoghnmhlnaa
