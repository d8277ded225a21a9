/-
  Instructions as they lie in memory; a list of them that came in.
-/
import Derived.Test.YtkpbampffndjoaaRows
import Derived.BigRegion
import Derived.BigQuiet
import Derived.Deep.QuietTactic
import Derived.WalkSmall
import Derived.ProofKit
import Derived.OpenShut
import Derived.Deep.Strs
import Derived.Deep.AppendLies
import Derived.Deep.RegionHeld3
import Derived.Test.YtkpbampffndjoaaCMath
namespace Go.Proofs.Ytkpbampffndjoaa
open Go.ChangeShapes Go.WideShapes Go.ChangeAt Go.RowKit Go.Deep

theorem Hid.mk {p : Prop} (h : p) : Hid p := h

set_option maxRecDepth 100000 in
theorem own : ownKnob Try.prog.godebug = none := by kernel_rfl
set_option maxRecDepth 100000 in
theorem laidOut : laidOutB Try.prog = true := by kernel_rfl
set_option maxRecDepth 100000 in
theorem Try.cells31 : Try.prog.cellsOf 31 = 4 := by kernel_rfl
set_option maxRecDepth 100000 in
theorem Try.cells29 : Try.prog.cellsOf 29 = 1 := by kernel_rfl
set_option maxRecDepth 100000 in
theorem Try.cells3 : Try.prog.cellsOf 3 = 1 := by kernel_rfl

def insV (x : Ins) : Value := .agg #[.int .i64 x.op, .int .i64 x.a, .int .i64 x.b, .int .i64 x.c]

/-- A field is an int. -/
def Fit (n : Int) : Prop := -9223372036854775808 ≤ n ∧ n ≤ 9223372036854775807

/-- The instructions ps lie in memory from g, off on. -/
structure InsAt (w : World) (g off : Nat) (ps : List Ins) : Prop where
  lt : g < w.heap.size
  op : ∀ j (_ : j < ps.length), w.cell? ⟨g, off + j * 4, none⟩ = some (.int .i64 ps[j]!.op)
  a : ∀ j (_ : j < ps.length), w.cell? ⟨g, off + j * 4 + 1, none⟩ = some (.int .i64 ps[j]!.a)
  b : ∀ j (_ : j < ps.length), w.cell? ⟨g, off + j * 4 + 2, none⟩ = some (.int .i64 ps[j]!.b)
  c : ∀ j (_ : j < ps.length), w.cell? ⟨g, off + j * 4 + 3, none⟩ = some (.int .i64 ps[j]!.c)

theorem InsAt.carry {w w' : World} {g off : Nat} {ps : List Ins} (h : InsAt w g off ps) (hb : w'.heap[g]? = w.heap[g]?) (hs : w.heap.size ≤ w'.heap.size) : InsAt w' g off ps :=
  ⟨Nat.lt_of_lt_of_le h.lt hs, fun j k => (World.cell?_of_block (w := w) hb).trans (h.op j k), fun j k => (World.cell?_of_block (w := w) hb).trans (h.a j k),
    fun j k => (World.cell?_of_block (w := w) hb).trans (h.b j k), fun j k => (World.cell?_of_block (w := w) hb).trans (h.c j k)⟩

theorem InsAt.grown {w w' : World} {g off : Nat} {ps : List Ins} (h : InsAt w g off ps) (hb : Below w.heap.size w w') : InsAt w' g off ps := h.carry (hb.block g h.lt) hb.size

/-- What is told of a list of instructions that came in. -/
def IsIns (w : World) (a : Option Addr) (len cap : Nat) (ps : List Ins) : Prop :=
  ps.length = len ∧ len ≤ cap ∧ (ps = [] ∧ (a = none → cap = 0) ∨ ∃ g off, a = some ⟨g, off, none⟩ ∧ InsAt w g off ps)

theorem IsIns.carry {w w' : World} {a : Option Addr} {len cap : Nat} {ps : List Ins} (h : IsIns w a len cap ps) (hb : Below w.heap.size w w') : IsIns w' a len cap ps := by
  obtain ⟨hl, hc, ⟨rfl, hn⟩ | ⟨g, off, rfl, hat⟩⟩ := h
  · exact ⟨hl, hc, .inl ⟨rfl, hn⟩⟩
  · exact ⟨hl, hc, .inr ⟨g, off, rfl, hat.grown hb⟩⟩

theorem IsIns.at_ {w : World} {a : Option Addr} {len cap : Nat} {ps : List Ins} (h : IsIns w a len cap ps) (hl : 0 < len) : ∃ g off, a = some ⟨g, off, none⟩ ∧ InsAt w g off ps := by
  obtain ⟨hl2, _, ⟨rfl, _⟩ | ⟨g, off, e, hat⟩⟩ := h
  · simp at hl2; omega
  · exact ⟨g, off, e, hat⟩

theorem plain_of_cell {w : World} {a : Addr} {v : Value} (h : w.cell? a = some v) : ∃ g off, a = ⟨g, off, none⟩ ∧ g < w.heap.size := by
  obtain ⟨g, off, sp⟩ := a
  have hlt := World.block_lt_of_cell? w ⟨g, off, sp⟩ h
  cases sp with
  | none => exact ⟨g, off, rfl, hlt⟩
  | some x =>
    simp only [World.cell?] at h
    split at h <;> simp at h

theorem add_plain3 (g off j : Nat) : (⟨g, off, none⟩ : Addr).add j = ⟨g, off + j, none⟩ := by unfold Addr.add; split <;> simp_all

theorem wf_fit {n : Int} (h : (Lit.int .i64 n).wf = true) : Fit n := by
  simp [Lit.wf] at h
  have e : IntKind.i64.min = -9223372036854775808 := by decide
  rw [e] at h
  exact ⟨by omega, by omega⟩

/-- All fields of the instructions are ints. -/
def Wf (ps : List Ins) : Prop := ∀ j, j < ps.length → Fit ps[j]!.a ∧ Fit ps[j]!.b

set_option maxRecDepth 100000 in
/-- An instruction's cells, opened. -/
theorem open_in {H : Type} {enc : TypeId × Value → H} {w : World} {n : Nat} {cs : List Value} {x : DataW H × List MemPlace}
    (h : DataW.trod enc Try.prog w 0 (fun _ => true) true n 31 cs = some x) : ∃ c : Ins, cs = [.int .i64 c.op, .int .i64 c.a, .int .i64 c.b, .int .i64 c.c] ∧ Fit c.a ∧ Fit c.b := by
  obtain ⟨xs, m, _, _, hlen, hxs, hf⟩ := DataW.trod_struct Try.underlying31 h
  rw [Try.cells31] at hlen
  match cs, hlen, xs, hxs with
  | [v0, v1, v2, v3], _, [y0, y1, y2, y3], _ =>
    have g0 := hf 0 _ rfl
    have g1 := hf 1 _ rfl
    have g2 := hf 2 _ rfl
    have g3 := hf 3 _ rfl
    simp [Try.cells3, Try.cells29] at g0 g1 g2 g3
    obtain ⟨q0, e0, _, _⟩ := DataW.trod_int Try.underlying29 g0
    obtain ⟨q1, e1, _, w1⟩ := DataW.trod_int Try.underlying3 g1
    obtain ⟨q2, e2, _, w2⟩ := DataW.trod_int Try.underlying3 g2
    obtain ⟨q3, e3, _, w3⟩ := DataW.trod_int Try.underlying3 g3
    simp at e0 e1 e2 e3
    subst e0 e1 e2 e3
    exact ⟨⟨q0, q1, q2, q3⟩, rfl, wf_fit w1, wf_fit w2⟩

set_option maxRecDepth 100000 in
theorem open_ins {H : Type} {enc : TypeId × Value → H} {w : World} {a : Option Addr} {len cap fuel : Nat} {x : DataW H × List MemPlace}
    (h : DataW.trod enc Try.prog w 0 (fun _ => true) true fuel 22 [.slice a len cap] = some x) : ∃ ps, IsIns w a len cap ps ∧ Wf ps := by
  rcases open_slice Try.underlying22 h with ⟨hcs, _⟩ | ⟨a', len', cap', m, n, D, Pl, hcs, _, hl, hm, hmm, _, hx⟩
  · simp at hcs
    obtain ⟨rfl, rfl, rfl⟩ := hcs
    exact ⟨[], ⟨rfl, Nat.le_refl _, .inl ⟨rfl, fun _ => rfl⟩⟩, fun j hj => by simp at hj⟩
  · simp at hcs
    obtain ⟨rfl, rfl, rfl⟩ := hcs
    rw [Try.cells31] at hx
    have hlc : len ≤ cap := by simpa using hl
    have hlm : len ≤ m := by rw [hmm]; simpa using hl
    have each : ∀ i, i < len → ∃ it : Ins, w.cell? (a'.add (i * 4)) = some (.int .i64 it.op) ∧ w.cell? (a'.add (i * 4 + 1)) = some (.int .i64 it.a) ∧ w.cell? (a'.add (i * 4 + 2)) = some (.int .i64 it.b) ∧
        w.cell? (a'.add (i * 4 + 3)) = some (.int .i64 it.c) ∧ Fit it.a ∧ Fit it.b := by
      intro i hi
      obtain ⟨cs', h1, h2⟩ := hx i (by omega)
      obtain ⟨_, hlen, hcell⟩ := World.cells?_some h1
      obtain ⟨c, rfl, hle⟩ := open_in h2
      have c0 := hcell 0 (by decide)
      have c1 := hcell 1 (by decide)
      have c2 := hcell 2 (by decide)
      have c3 := hcell 3 (by decide)
      rw [Deep.add_add] at c0 c1 c2 c3
      exact ⟨c, by simpa using c0, by simpa using c1, by simpa using c2, by simpa using c3, hle⟩
    by_cases h0 : len = 0
    · exact ⟨[], ⟨h0.symm, hlc, .inl ⟨rfl, fun e => by cases e⟩⟩, fun j hj => by simp at hj⟩
    obtain ⟨it0, k0, _⟩ := each 0 (by omega)
    obtain ⟨g', off', e, hg⟩ := plain_of_cell k0
    obtain ⟨g, off, rfl⟩ : ∃ g off, a' = ⟨g, off, none⟩ := by
      obtain ⟨g, off, sp⟩ := a'
      have hs := congrArg Addr.spot e
      unfold Addr.add at hs
      cases sp with
      | none => exact ⟨g, off, rfl⟩
      | some y => simp at hs
    rw [add_plain3] at e
    have hgg : g = g' := congrArg Addr.block e
    subst hgg
    obtain ⟨f, hf⟩ := choose_lt (α := Ins) each
    have hget : ∀ j, j < len → ((List.range len).map f)[j]! = f j := fun j hj => by
      rw [getElem!_pos _ j (by simpa using hj)]
      simp
    refine ⟨(List.range len).map f, ⟨by simp, hlc, .inr ⟨g, off, rfl, hg, fun j hj => ?_, fun j hj => ?_, fun j hj => ?_, fun j hj => ?_⟩⟩, fun j hj => ?_⟩
    all_goals
      have hj' : j < len := by simpa using hj
      have hfj := hf j hj'
      rw [add_plain3, add_plain3, add_plain3, add_plain3] at hfj
      rw [hget j hj']
    · exact hfj.1
    · exact hfj.2.1
    · exact hfj.2.2.1
    · exact hfj.2.2.2.1
    · exact hfj.2.2.2.2

end Go.Proofs.Ytkpbampffndjoaa
