/-
  What the texts on cell share: one block alone is another; sets as they lie in memory; a list of them that came in.
-/
import Derived.Test.YtmlebbfaafccnaaRows
import Derived.BigRegion
import Derived.BigQuiet
import Derived.Deep.QuietTactic
import Derived.WalkSmall
import Derived.ProofKit
import Derived.OpenShut
import Derived.Deep.Strs
import Derived.Deep.AppendLies
import Derived.Deep.RegionHeld3
import Derived.OwnWalk
import Derived.Laws.OwnMore
namespace Go.Proofs.Ytmlebbfaafccnaa.Cel
open Go.ChangeShapes Go.WideShapes Go.ChangeAt Go.RowKit Go.Deep

theorem Hid.mk {p : Prop} (h : p) : Hid p := h

set_option maxRecDepth 100000 in
theorem own : ownKnob Try.prog.godebug = none := by kernel_rfl
set_option maxRecDepth 100000 in
theorem laidOut : laidOutB Try.prog = true := by kernel_rfl
set_option maxRecDepth 100000 in
theorem Try.cells3 : Try.prog.cellsOf 3 = 1 := by kernel_rfl

theorem heap_set {w : World} {b i : Nat} {cs : Array Value} {t : TypeId} {m : Nat × Nat} (x : Value) (h : w.heap[b]? = some (.cells cs t m)) : (w.setCell ⟨b, i, none⟩ x).heap[b]? = some (.cells (cs.setIfInBounds i x) t m) := by
  simp [World.setCell, Array.getElem?_modify, h]

theorem heap_new (w : World) (o : Obj) : (w.alloc o).heap[w.heap.size]? = some o := heap_alloc_new w o

/-- One block alone is another. -/
structure Only (b : Nat) (w w' : World) : Prop where
  os : w'.os = w.os
  tape : w'.tape = w.tape
  output : w'.output = w.output
  size : w'.heap.size = w.heap.size
  block : ∀ k, k ≠ b → w'.heap[k]? = w.heap[k]?

theorem Only.refl (b : Nat) (w : World) : Only b w w := ⟨rfl, rfl, rfl, rfl, fun _ _ => rfl⟩
theorem Only.trans {b : Nat} {w w1 w2 : World} (h : Only b w w1) (k : Only b w1 w2) : Only b w w2 :=
  ⟨k.os.trans h.os, k.tape.trans h.tape, k.output.trans h.output, k.size.trans h.size, fun i hi => (k.block i hi).trans (h.block i hi)⟩
theorem Only.set {b : Nat} {w w' : World} (h : Only b w w') (i : Nat) (x : Value) : Only b w (w'.setCell ⟨b, i, none⟩ x) := by
  refine ⟨h.os, h.tape, h.output, by have := h.size; simpa [World.setCell] using this, fun k hk => ?_⟩
  rw [Below.heap_setCell _ _ _ _ hk]
  exact h.block k hk
theorem Only.below {b B : Nat} {w w' : World} (h : Only b w w') (hb : B ≤ b) : Below B w w' :=
  ⟨h.os, h.tape, h.output, by rw [h.size]; exact Nat.le_refl _, fun k hk => h.block k (by omega)⟩

theorem cell_at {w : World} {g i : Nat} {cs : Array Value} {t : TypeId} {m : Nat × Nat} {v : Value} (h : w.heap[g]? = some (.cells cs t m)) (hc : cs[i]? = some v) : w.cell? ⟨g, i, none⟩ = some v := by simp [World.cell?, h, hc]
theorem free_at {w : World} {g i : Nat} {cs : Array Value} {t : TypeId} (h : w.heap[g]? = some (.cells cs t (0, 0))) : w.frozen? ⟨g, i, none⟩ = false := by simp [World.frozen?, h]

theorem heap_drewN (w : World) (n : Nat) : (w.drewN n).heap = w.heap := by simp

/-- That a thing was set. -/
structure St where
  i : Int
  value : Int
  version : Int

instance : Inhabited St := ⟨⟨0, 0, 0⟩⟩

/-- The sets cs lie in memory from g, off on. -/
structure StsAt (w : World) (g off : Nat) (cs : List St) : Prop where
  lt : g < w.heap.size
  i : ∀ j (_ : j < cs.length), w.cell? ⟨g, off + j * 3, none⟩ = some (.int .i64 cs[j]!.i)
  value : ∀ j (_ : j < cs.length), w.cell? ⟨g, off + j * 3 + 1, none⟩ = some (.int .i64 cs[j]!.value)
  version : ∀ j (_ : j < cs.length), w.cell? ⟨g, off + j * 3 + 2, none⟩ = some (.int .i64 cs[j]!.version)

theorem StsAt.carry {w w' : World} {g off : Nat} {cs : List St} (h : StsAt w g off cs) (hb : w'.heap[g]? = w.heap[g]?) (hs : w.heap.size ≤ w'.heap.size) : StsAt w' g off cs :=
  ⟨Nat.lt_of_lt_of_le h.lt hs, fun j k => (World.cell?_of_block (w := w) hb).trans (h.i j k), fun j k => (World.cell?_of_block (w := w) hb).trans (h.value j k), fun j k => (World.cell?_of_block (w := w) hb).trans (h.version j k)⟩

/-- What is told of a list of sets that came in. -/
def IsSts (w : World) (a : Option Addr) (len cap : Nat) (cs : List St) : Prop :=
  cs.length = len ∧ len ≤ cap ∧ (cs = [] ∧ (a = none → cap = 0) ∨ ∃ g off, a = some ⟨g, off, none⟩ ∧ StsAt w g off cs)

theorem IsSts.carry {w w' : World} {a : Option Addr} {len cap : Nat} {cs : List St} (h : IsSts w a len cap cs) (hb : Below w.heap.size w w') : IsSts w' a len cap cs := by
  obtain ⟨hl, hc, ⟨rfl, hn⟩ | ⟨g, off, rfl, hat⟩⟩ := h
  · exact ⟨hl, hc, .inl ⟨rfl, hn⟩⟩
  · exact ⟨hl, hc, .inr ⟨g, off, rfl, hat.carry (hb.block g hat.lt) hb.size⟩⟩

theorem IsSts.at_ {w : World} {a : Option Addr} {len cap : Nat} {cs : List St} (h : IsSts w a len cap cs) (hl : 0 < len) : ∃ g off, a = some ⟨g, off, none⟩ ∧ StsAt w g off cs := by
  obtain ⟨hl2, _, ⟨rfl, _⟩ | ⟨g, off, e, hat⟩⟩ := h
  · simp at hl2; omega
  · exact ⟨g, off, e, hat⟩

theorem plain_of_cell {w : World} {a : Addr} {v : Value} (h : w.cell? a = some v) : ∃ g off, a = ⟨g, off, none⟩ ∧ g < w.heap.size := by
  obtain ⟨g, off, sp⟩ := a
  have hlt := World.block_lt_of_cell? w ⟨g, off, sp⟩ h
  cases sp with
  | none => exact ⟨g, off, rfl, hlt⟩
  | some x =>
    simp only [World.cell?] at h
    split at h <;> simp at h

theorem add_plain3 (g off j : Nat) : (⟨g, off, none⟩ : Addr).add j = ⟨g, off + j, none⟩ := by unfold Addr.add; split <;> simp_all

set_option maxRecDepth 100000 in
theorem Try.cells30 : Try.prog.cellsOf 30 = 3 := by kernel_rfl

set_option maxRecDepth 100000 in
/-- A set's cells, opened. -/
theorem open_st {H : Type} {enc : TypeId × Value → H} {w : World} {n : Nat} {cs : List Value} {x : DataW H × List MemPlace}
    (h : DataW.trod enc Try.prog w 0 (fun _ => true) true n 30 cs = some x) : ∃ c : St, cs = [.int .i64 c.i, .int .i64 c.value, .int .i64 c.version] := by
  obtain ⟨xs, m, _, _, hlen, hxs, hf⟩ := DataW.trod_struct Try.underlying30 h
  rw [Try.cells30] at hlen
  match cs, hlen, xs, hxs with
  | [v0, v1, v2], _, [y0, y1, y2], _ =>
    have g0 := hf 0 _ rfl
    have g1 := hf 1 _ rfl
    have g2 := hf 2 _ rfl
    simp [Try.cells3] at g0 g1 g2
    obtain ⟨q0, e0, _, _⟩ := DataW.trod_int Try.underlying3 g0
    obtain ⟨q1, e1, _, _⟩ := DataW.trod_int Try.underlying3 g1
    obtain ⟨q2, e2, _, _⟩ := DataW.trod_int Try.underlying3 g2
    simp at e0 e1 e2
    subst e0 e1 e2
    exact ⟨⟨q0, q1, q2⟩, rfl⟩

set_option maxRecDepth 100000 in
theorem open_sts {H : Type} {enc : TypeId × Value → H} {w : World} {a : Option Addr} {len cap fuel : Nat} {x : DataW H × List MemPlace}
    (h : DataW.trod enc Try.prog w 0 (fun _ => true) true fuel 22 [.slice a len cap] = some x) : ∃ cs, IsSts w a len cap cs := by
  rcases open_slice Try.underlying22 h with ⟨hcs, _⟩ | ⟨a', len', cap', m, n, D, Pl, hcs, _, hl, hm, hmm, _, hx⟩
  · simp at hcs
    obtain ⟨rfl, rfl, rfl⟩ := hcs
    exact ⟨[], rfl, Nat.le_refl _, .inl ⟨rfl, fun _ => rfl⟩⟩
  · simp at hcs
    obtain ⟨rfl, rfl, rfl⟩ := hcs
    rw [Try.cells30] at hx
    have hlc : len ≤ cap := by simpa using hl
    have hlm : len ≤ m := by rw [hmm]; simpa using hl
    have each : ∀ i, i < len → ∃ it : St, w.cell? (a'.add (i * 3)) = some (.int .i64 it.i) ∧ w.cell? (a'.add (i * 3 + 1)) = some (.int .i64 it.value) ∧ w.cell? (a'.add (i * 3 + 2)) = some (.int .i64 it.version) := by
      intro i hi
      obtain ⟨cs', h1, h2⟩ := hx i (by omega)
      obtain ⟨_, hlen, hcell⟩ := World.cells?_some h1
      obtain ⟨c, rfl⟩ := open_st h2
      have c0 := hcell 0 (by decide)
      have c1 := hcell 1 (by decide)
      have c2 := hcell 2 (by decide)
      rw [Deep.add_add] at c0 c1 c2
      exact ⟨c, by simpa using c0, by simpa using c1, by simpa using c2⟩
    by_cases h0 : len = 0
    · exact ⟨[], h0.symm, hlc, .inl ⟨rfl, fun e => by cases e⟩⟩
    obtain ⟨it0, k0, _⟩ := each 0 (by omega)
    obtain ⟨g', off', e, hg⟩ := plain_of_cell k0
    obtain ⟨g, off, rfl⟩ : ∃ g off, a' = ⟨g, off, none⟩ := by
      obtain ⟨g, off, sp⟩ := a'
      have hs := congrArg Addr.spot e
      unfold Addr.add at hs
      cases sp with
      | none => exact ⟨g, off, rfl⟩
      | some y => simp at hs
    rw [add_plain3] at e
    have hgg : g = g' := congrArg Addr.block e
    subst hgg
    obtain ⟨f, hf⟩ := choose_lt (α := St) each
    have hget : ∀ j, j < len → ((List.range len).map f)[j]! = f j := fun j hj => by
      rw [getElem!_pos _ j (by simpa using hj)]
      simp
    refine ⟨(List.range len).map f, by simp, hlc, .inr ⟨g, off, rfl, hg, fun j hj => ?_, fun j hj => ?_, fun j hj => ?_⟩⟩
    all_goals
      have hj' : j < len := by simpa using hj
      have hfj := hf j hj'
      rw [add_plain3, add_plain3, add_plain3] at hfj
      rw [hget j hj']
    · exact hfj.1
    · exact hfj.2.1
    · exact hfj.2.2

end Go.Proofs.Ytmlebbfaafccnaa.Cel
