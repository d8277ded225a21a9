/-
  A list of items that came in, opened: it is empty, or its items lie in memory one behind the other.
-/
import Derived.Test.YtjenalblcdmpaaaPut
import Derived.ProofKit
import Derived.OpenShut
import Derived.Deep.Strs
namespace Go.Proofs.Ytjenalblcdmpaaa
open Go.ChangeShapes Go.WideShapes Go.ChangeAt Go.RowKit Go.Deep

theorem Try.cells30 : Try.prog.cellsOf 30 = 3 := by kernel_rfl
theorem Try.cells3 : Try.prog.cellsOf 3 = 1 := by kernel_rfl
theorem Try.cells9 : Try.prog.cellsOf 9 = 1 := by kernel_rfl

/-- What is told of a list of items that came in. -/
def IsItems (w : World) (a : Option Addr) (len cap : Nat) (its : List It) : Prop :=
  its.length = len ∧ (its = [] ∧ (a = none → cap = 0) ∨ ∃ g off, a = some ⟨g, off, none⟩ ∧ ItemsAt w g off its)

theorem plain_of_cell {w : World} {a : Addr} {v : Value} (h : w.cell? a = some v) : ∃ g off, a = ⟨g, off, none⟩ ∧ g < w.heap.size := by
  obtain ⟨g, off, sp⟩ := a
  have hlt := World.block_lt_of_cell? w ⟨g, off, sp⟩ h
  cases sp with
  | none => exact ⟨g, off, rfl, hlt⟩
  | some x =>
    simp only [World.cell?] at h
    split at h <;> simp at h

theorem add_plain3 (g off j : Nat) : (⟨g, off, none⟩ : Addr).add j = ⟨g, off + j, none⟩ := by unfold Addr.add; split <;> simp_all

theorem open_items {H : Type} {enc : TypeId × Value → H} {w : World} {a : Option Addr} {len cap fuel : Nat} {x : DataW H × List MemPlace}
    (h : DataW.trod enc Try.prog w 0 (fun _ => true) true fuel 22 [.slice a len cap] = some x) : ∃ its, IsItems w a len cap its := by
  rcases open_slice Try.underlying22 h with ⟨hcs, _⟩ | ⟨a', len', cap', m, n, D, Pl, hcs, _, hl, hm, hmm, _, hx⟩
  · simp at hcs
    obtain ⟨rfl, rfl, rfl⟩ := hcs
    exact ⟨[], rfl, .inl ⟨rfl, fun _ => rfl⟩⟩
  · simp at hcs
    obtain ⟨rfl, rfl, rfl⟩ := hcs
    rw [Try.cells30] at hx
    have hlm : len ≤ m := by rw [hmm]; simpa using hl
    have each : ∀ i, i < len → ∃ it : It, w.cell? (a'.add (i * 3)) = some (.int .i64 it.kind) ∧ w.cell? (a'.add (i * 3 + 1)) = some (.int .i64 it.n) ∧ w.cell? (a'.add (i * 3 + 2)) = some (.string it.s) ∧
        (Lit.int .i64 it.n).wf = true := by
      intro i hi
      obtain ⟨cs', h1, h2⟩ := hx i (by omega)
      obtain ⟨_, hlen, hcell⟩ := World.cells?_some h1
      obtain ⟨y0, y1, y2, k, _, _, g0, g1, g2⟩ := trod_struct3 Try.underlying30 h2
      match cs', hlen with
      | [v0, v1, v2], _ =>
        simp [Try.cells3, Try.cells9] at g0 g1 g2
        obtain ⟨q, e0, _, _⟩ := DataW.trod_int Try.underlying3 g0
        obtain ⟨p, e1, _, wp⟩ := DataW.trod_int Try.underlying3 g1
        obtain ⟨s, e2, _, _⟩ := DataW.trod_string Try.underlying9 g2
        simp at e0 e1 e2
        subst e0 e1 e2
        have c0 := hcell 0 (by omega)
        have c1 := hcell 1 (by omega)
        have c2 := hcell 2 (by omega)
        rw [Deep.add_add] at c0 c1 c2
        exact ⟨⟨q, p, s⟩, by simpa using c0, by simpa using c1, by simpa using c2, wp⟩
    by_cases h0 : len = 0
    · exact ⟨[], h0.symm, .inl ⟨rfl, fun e => by cases e⟩⟩
    obtain ⟨it0, k0, _⟩ := each 0 (by omega)
    obtain ⟨g', off', e, hg⟩ := plain_of_cell k0
    obtain ⟨g, off, rfl⟩ : ∃ g off, a' = ⟨g, off, none⟩ := by
      obtain ⟨g, off, sp⟩ := a'
      have hs := congrArg Addr.spot e
      unfold Addr.add at hs
      cases sp with
      | none => exact ⟨g, off, rfl⟩
      | some y => simp at hs
    rw [add_plain3] at e
    have hgg : g = g' := congrArg Addr.block e
    subst hgg
    have hne : Inhabited It := ⟨⟨0, 0, ByteArray.empty⟩⟩
    obtain ⟨f, hf⟩ := choose_lt (α := It) each
    refine ⟨(List.range len).map f, by simp, .inr ⟨g, off, rfl, hg, fun j hj => ?_, fun j hj => ?_, fun j hj => ?_, fun j hj => ?_, fun j hj => ?_⟩⟩
    all_goals
      have hj' : j < len := by simpa using hj
      have hfj := hf j hj'
      rw [add_plain3, add_plain3, add_plain3] at hfj
      have hb := bounds_i64 hfj.2.2.2
      simp only [List.getElem_map, List.getElem_range]
    · exact hfj.1
    · exact hfj.2.1
    · exact hfj.2.2.1
    · exact hb.1
    · exact hb.2

end Go.Proofs.Ytjenalblcdmpaaa
