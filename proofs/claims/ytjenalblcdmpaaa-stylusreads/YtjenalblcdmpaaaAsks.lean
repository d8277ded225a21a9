/-
  Questions as they lie in memory.
-/
import Derived.Test.YtjenalblcdmpaaaTaken
import Derived.Test.YtjenalblcdmpaaaLists
namespace Go.Proofs.Ytjenalblcdmpaaa
open Go.ChangeShapes Go.WideShapes Go.ChangeAt Go.RowKit Go.Deep

theorem Try.cells36 : Try.prog.cellsOf 36 = 2 := by kernel_rfl

structure Aq where
  kind : Int
  n : Int

/-- The questions lie in memory from g, off on. -/
structure AsksAt (w : World) (g off : Nat) (qs : List Aq) : Prop where
  lt : g < w.heap.size
  kind : ∀ j (h : j < qs.length), w.cell? ⟨g, off + j * 2, none⟩ = some (.int .i64 qs[j].kind)
  n : ∀ j (h : j < qs.length), w.cell? ⟨g, off + j * 2 + 1, none⟩ = some (.int .i64 qs[j].n)
  hi : ∀ j (h : j < qs.length), qs[j].n ≤ 9223372036854775807

theorem AsksAt.carry {w w' : World} {g off : Nat} {qs : List Aq} (h : AsksAt w g off qs) (hb : w'.heap[g]? = w.heap[g]?) (hs : w.heap.size ≤ w'.heap.size) : AsksAt w' g off qs :=
  ⟨Nat.lt_of_lt_of_le h.lt hs, fun j k => (World.cell?_of_block (w := w) hb).trans (h.kind j k), fun j k => (World.cell?_of_block (w := w) hb).trans (h.n j k), h.hi⟩

def IsAsks (w : World) (a : Option Addr) (len : Nat) (qs : List Aq) : Prop :=
  qs.length = len ∧ (qs = [] ∨ ∃ g off, a = some ⟨g, off, none⟩ ∧ AsksAt w g off qs)

theorem open_asks {H : Type} {enc : TypeId × Value → H} {w : World} {a : Option Addr} {len cap fuel : Nat} {x : DataW H × List MemPlace}
    (h : DataW.trod enc Try.prog w 0 (fun _ => true) true fuel 34 [.slice a len cap] = some x) : ∃ qs, IsAsks w a len qs := by
  rcases open_slice Try.underlying34 h with ⟨hcs, _⟩ | ⟨a', len', cap', m, n, D, Pl, hcs, _, hl, hm, hmm, _, hx⟩
  · simp at hcs
    obtain ⟨rfl, rfl, rfl⟩ := hcs
    exact ⟨[], rfl, .inl rfl⟩
  · simp at hcs
    obtain ⟨rfl, rfl, rfl⟩ := hcs
    rw [Try.cells36] at hx
    have hlm : len ≤ m := by rw [hmm]; simpa using hl
    have each : ∀ i, i < len → ∃ it : Aq, w.cell? (a'.add (i * 2)) = some (.int .i64 it.kind) ∧ w.cell? (a'.add (i * 2 + 1)) = some (.int .i64 it.n) ∧ (Lit.int .i64 it.n).wf = true := by
      intro i hi
      obtain ⟨cs', h1, h2⟩ := hx i (by omega)
      obtain ⟨_, hlen, hcell⟩ := World.cells?_some h1
      obtain ⟨y0, y1, k, _, _, g0, g1⟩ := trod_struct2 Try.underlying36 h2
      match cs', hlen with
      | [v0, v1], _ =>
        simp [Try.cells3] at g0 g1
        obtain ⟨q, e0, _, _⟩ := DataW.trod_int Try.underlying3 g0
        obtain ⟨p, e1, _, wp⟩ := DataW.trod_int Try.underlying3 g1
        simp at e0 e1
        subst e0 e1
        have c0 := hcell 0 (by omega)
        have c1 := hcell 1 (by omega)
        rw [Deep.add_add] at c0 c1
        exact ⟨⟨q, p⟩, by simpa using c0, by simpa using c1, wp⟩
    by_cases h0 : len = 0
    · exact ⟨[], h0.symm, .inl rfl⟩
    obtain ⟨it0, k0, _⟩ := each 0 (by omega)
    obtain ⟨g', off', e, hg⟩ := plain_of_cell k0
    obtain ⟨g, off, rfl⟩ : ∃ g off, a' = ⟨g, off, none⟩ := by
      obtain ⟨g, off, sp⟩ := a'
      have hs := congrArg Addr.spot e
      unfold Addr.add at hs
      cases sp with
      | none => exact ⟨g, off, rfl⟩
      | some y => simp at hs
    rw [add_plain3] at e
    have hgg : g = g' := congrArg Addr.block e
    subst hgg
    have hne : Inhabited Aq := ⟨⟨0, 0⟩⟩
    obtain ⟨f, hf⟩ := choose_lt (α := Aq) each
    refine ⟨(List.range len).map f, by simp, .inr ⟨g, off, rfl, hg, fun j hj => ?_, fun j hj => ?_, fun j hj => ?_⟩⟩
    all_goals
      have hj' : j < len := by simpa using hj
      have hfj := hf j hj'
      rw [add_plain3, add_plain3] at hfj
      have hb := bounds_i64 hfj.2.2
      simp only [List.getElem_map, List.getElem_range]
    · exact hfj.1
    · exact hfj.2.1
    · exact hb.2

end Go.Proofs.Ytjenalblcdmpaaa
