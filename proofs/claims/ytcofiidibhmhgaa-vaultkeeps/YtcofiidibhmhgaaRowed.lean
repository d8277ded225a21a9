/-
  Texts that came in; records one behind the other; the walk of the document's Row.
-/
import Derived.Test.YtcofiidibhmhgaaBase
namespace Go.Proofs.Ytcofiidibhmhgaa
open Go.ChangeShapes Go.WideShapes Go.ChangeAt Go.RowKit Go.Deep

set_option maxRecDepth 100000 in
theorem Try.cells9 : Try.prog.cellsOf 9 = 1 := by kernel_rfl

theorem plain_of_cell {w : World} {a : Addr} {v : Value} (h : w.cell? a = some v) : ∃ g off, a = ⟨g, off, none⟩ ∧ g < w.heap.size := by
  obtain ⟨g, off, sp⟩ := a
  have hlt := World.block_lt_of_cell? w ⟨g, off, sp⟩ h
  cases sp with
  | none => exact ⟨g, off, rfl, hlt⟩
  | some x =>
    simp only [World.cell?] at h
    split at h <;> simp at h

theorem add_plain3 (g off j : Nat) : (⟨g, off, none⟩ : Addr).add j = ⟨g, off + j, none⟩ := by unfold Addr.add; split <;> simp_all

/-- The texts ts lie in memory from g, off on. -/
structure TextsAt (w : World) (g off : Nat) (ts : List ByteArray) : Prop where
  lt : g < w.heap.size
  cell : ∀ j (h : j < ts.length), w.cell? ⟨g, off + j, none⟩ = some (.string ts[j])

theorem TextsAt.carry {w w' : World} {g off : Nat} {ts : List ByteArray} (h : TextsAt w g off ts) (hb : w'.heap[g]? = w.heap[g]?) (hs : w.heap.size ≤ w'.heap.size) : TextsAt w' g off ts :=
  ⟨Nat.lt_of_lt_of_le h.lt hs, fun j k => (World.cell?_of_block (w := w) hb).trans (h.cell j k)⟩

def IsTexts (w : World) (a : Option Addr) (len cap : Nat) (ts : List ByteArray) : Prop :=
  ts.length = len ∧ (ts = [] ∧ (a = none → cap = 0) ∨ ∃ g off, a = some ⟨g, off, none⟩ ∧ TextsAt w g off ts)

set_option maxRecDepth 100000 in
theorem open_texts {H : Type} {enc : TypeId × Value → H} {w : World} {a : Option Addr} {len cap fuel : Nat} {x : DataW H × List MemPlace}
    (h : DataW.trod enc Try.prog w 0 (fun _ => true) true fuel 24 [.slice a len cap] = some x) : ∃ ts, IsTexts w a len cap ts := by
  rcases open_strs Try.underlying24 Try.underlying9 Try.cells9 h with ⟨hcs, _⟩ | ⟨a', len', cap', m, Sx, hcs, _, hl, hm, hmm, _, hx⟩
  · simp at hcs
    obtain ⟨rfl, rfl, rfl⟩ := hcs
    exact ⟨[], rfl, .inl ⟨rfl, fun _ => rfl⟩⟩
  · simp at hcs
    obtain ⟨rfl, rfl, rfl⟩ := hcs
    have hlm : len ≤ m := by rw [hmm]; simpa using hl
    by_cases h0 : len = 0
    · exact ⟨[], h0.symm, .inl ⟨rfl, fun e => by cases e⟩⟩
    obtain ⟨g', off', e, hg⟩ := plain_of_cell (hx 0 (by omega)).1
    obtain ⟨g, off, rfl⟩ : ∃ g off, a' = ⟨g, off, none⟩ := by
      obtain ⟨g, off, sp⟩ := a'
      have hs := congrArg Addr.spot e
      unfold Addr.add at hs
      cases sp with
      | none => exact ⟨g, off, rfl⟩
      | some y => simp at hs
    rw [add_plain3] at e
    have hgg : g = g' := congrArg Addr.block e
    subst hgg
    refine ⟨(List.range len).map Sx, by simp, .inr ⟨g, off, rfl, hg, fun j hj => ?_⟩⟩
    have hj' : j < len := by simpa using hj
    have := (hx j (by omega)).1
    rw [add_plain3] at this
    simpa using this

def sumT : List ByteArray → Nat
  | [] => 0
  | s :: r => s.size + sumT r

theorem sumT_append (a b : List ByteArray) : sumT (a ++ b) = sumT a + sumT b := by
  induction a with
  | nil => simp [sumT]
  | cons s r ih => simp [sumT, ih]; omega
theorem sumT_take_succ (l : List ByteArray) (k : Nat) (h : k < l.length) : sumT (l.take (k + 1)) = sumT (l.take k) + l[k].size := by
  rw [List.take_succ_eq_append_getElem h, sumT_append]
  simp [sumT]
theorem sumT_take_le (l : List ByteArray) (k : Nat) : sumT (l.take k) ≤ sumT l := by
  have h := congrArg sumT (List.take_append_drop k l)
  rw [sumT_append] at h
  omega
theorem sumT_get (l : List ByteArray) (k : Nat) (h : k < l.length) : l[k].size ≤ sumT l := by
  have h1 := sumT_take_succ l k h
  have h2 := sumT_take_le l (k + 1)
  omega

/-- Records, one behind the other. -/
def rowB : List ByteArray → List UInt8
  | [] => []
  | s :: r => recB s.data.toList ++ rowB r

theorem rowB_append (a b : List ByteArray) : rowB (a ++ b) = rowB a ++ rowB b := by
  induction a with
  | nil => rfl
  | cons s r ih => simp [rowB, ih]

theorem rowB_take_succ (l : List ByteArray) (k : Nat) (h : k < l.length) : rowB (l.take (k + 1)) = rowB (l.take k) ++ recB l[k].data.toList := by
  rw [List.take_succ_eq_append_getElem h, rowB_append]
  simp [rowB]

theorem recB_le (l : List UInt8) : (recB l).length ≤ l.length + 6 := by
  by_cases h : 1024 < l.length
  · unfold recB
    rw [if_pos h]
    simp
  · rw [recB_length h]
    exact Nat.le_refl _

theorem rowB_le (l : List ByteArray) : (rowB l).length ≤ 6 * l.length + sumT l := by
  induction l with
  | nil => simp [rowB]
  | cons s r ih =>
    have h := recB_le s.data.toList
    rw [size_list] at h
    simp [rowB, sumT]
    omega

theorem rowB_take_le (l : List ByteArray) (k : Nat) : (rowB (l.take k)).length ≤ 6 * l.length + sumT l := by
  have h := rowB_le (l.take k)
  have h2 := sumT_take_le l k
  have h3 := List.length_take_le k l
  have h4 : (l.take k).length ≤ l.length := by rw [List.length_take]; omega
  omega







end Go.Proofs.Ytcofiidibhmhgaa
