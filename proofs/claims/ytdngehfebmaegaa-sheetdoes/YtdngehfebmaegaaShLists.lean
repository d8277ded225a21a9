/-
  What came in: six files by value, and rows of calls.
-/
import Derived.Test.YtdngehfebmaegaaShBuild
namespace Go.Proofs.Ytdngehfebmaegaa.Sht
open Go.ChangeShapes Go.WideShapes Go.ChangeAt Go.RowKit Go.Deep Go.Proofs.Ytdngehfebmaegaa.Cel Go.Proofs.Ytdngehfebmaegaa.Dft

theorem okWide_arr {P : Program} {w : World} {r : Reach} {base : Nat} {t : TypeId} {v : Value} {n : Nat} {e : TypeId} (ht : P.underlying t = some (.array n e)) (h : Value.okWide P w r base t v) : ∃ cs, v = .agg cs ∧ cs.size = P.cellsOf t := by
  simp only [Value.okWide, ht] at h
  obtain ⟨cs, h1, h2, _⟩ := h
  exact ⟨cs, h1, h2⟩

set_option maxRecDepth 100000 in
theorem Try.cells24 : Try.prog.cellsOf 24 = 12 := by kernel_rfl

set_option maxRecDepth 100000 in
/-- Six files' cells, opened. -/
theorem open_six {H : Type} {enc : TypeId × Value → H} {w : World} {n : Nat} {cs : List Value} {x : DataW H × List MemPlace}
    (h : DataW.trod enc Try.prog w 0 (fun _ => true) true n 24 cs = some x) : ∃ f : Nat → Fl, cs = (sixA f).toList := by
  obtain ⟨xs, m, _, _, hlen, hxs, hf⟩ := DataW.trod_array Try.underlying24 h
  rw [Try.cells24] at hlen
  rw [Fil.Try.cells23] at hf
  match cs, hlen, xs, hxs with
  | [v0, v1, v2, v3, v4, v5, v6, v7, v8, v9, v10, v11], _, [y0, y1, y2, y3, y4, y5], _ =>
    obtain ⟨a0, b0, e0, _⟩ := Fil.open_fl (hf 0 (by decide))
    obtain ⟨a1, b1, e1, _⟩ := Fil.open_fl (hf 1 (by decide))
    obtain ⟨a2, b2, e2, _⟩ := Fil.open_fl (hf 2 (by decide))
    obtain ⟨a3, b3, e3, _⟩ := Fil.open_fl (hf 3 (by decide))
    obtain ⟨a4, b4, e4, _⟩ := Fil.open_fl (hf 4 (by decide))
    obtain ⟨a5, b5, e5, _⟩ := Fil.open_fl (hf 5 (by decide))
    simp at e0 e1 e2 e3 e4 e5
    obtain ⟨rfl, rfl⟩ := e0
    obtain ⟨rfl, rfl⟩ := e1
    obtain ⟨rfl, rfl⟩ := e2
    obtain ⟨rfl, rfl⟩ := e3
    obtain ⟨rfl, rfl⟩ := e4
    obtain ⟨rfl, rfl⟩ := e5
    exact ⟨fun j => match j with | 0 => (a0, b0) | 1 => (a1, b1) | 2 => (a2, b2) | 3 => (a3, b3) | 4 => (a4, b4) | _ => (a5, b5), rfl⟩

/-! ### Rows of calls -/

/-- Calls lie there. -/
structure ClsAt (w : World) (g off : Nat) (xs : List Cl) : Prop where
  lt : g < w.heap.size
  k : ∀ j (_ : j < xs.length), w.cell? ⟨g, off + j * 4, none⟩ = some (.int .i64 (xs[j]?.getD ⟨0, 0, 0, 0⟩).kind) ∧ w.cell? ⟨g, off + j * 4 + 1, none⟩ = some (.int .i64 (xs[j]?.getD ⟨0, 0, 0, 0⟩).a) ∧
    w.cell? ⟨g, off + j * 4 + 2, none⟩ = some (.int .i64 (xs[j]?.getD ⟨0, 0, 0, 0⟩).b) ∧ w.cell? ⟨g, off + j * 4 + 3, none⟩ = some (.int .u8 (xs[j]?.getD ⟨0, 0, 0, 0⟩).c.toNat)

theorem ClsAt.carry {w w' : World} {g off : Nat} {xs : List Cl} (h : ClsAt w g off xs) (hb : w'.heap[g]? = w.heap[g]?) (hs : w.heap.size ≤ w'.heap.size) : ClsAt w' g off xs :=
  ⟨Nat.lt_of_lt_of_le h.lt hs, fun j q => ⟨(World.cell?_of_block (w := w) hb).trans (h.k j q).1, (World.cell?_of_block (w := w) hb).trans (h.k j q).2.1, (World.cell?_of_block (w := w) hb).trans (h.k j q).2.2.1, (World.cell?_of_block (w := w) hb).trans (h.k j q).2.2.2⟩⟩

/-- What is told of a row of calls that came in. -/
def IsCls (w : World) (a : Option Addr) (len cap : Nat) (xs : List Cl) : Prop :=
  xs.length = len ∧ len ≤ cap ∧ (xs = [] ∧ (a = none → cap = 0) ∨ ∃ g off, a = some ⟨g, off, none⟩ ∧ ClsAt w g off xs)

theorem IsCls.carry {w w' : World} {a : Option Addr} {len cap : Nat} {xs : List Cl} (h : IsCls w a len cap xs) (hb : Below w.heap.size w w') : IsCls w' a len cap xs := by
  obtain ⟨hl, hc, ⟨rfl, hn⟩ | ⟨g, off, rfl, hat⟩⟩ := h
  · exact ⟨hl, hc, .inl ⟨rfl, hn⟩⟩
  · exact ⟨hl, hc, .inr ⟨g, off, rfl, hat.carry (hb.block g hat.lt) hb.size⟩⟩

theorem IsCls.here {w : World} {a : Option Addr} {len cap : Nat} {xs : List Cl} (h : IsCls w a len cap xs) (hl : 0 < len) : ∃ g off, a = some ⟨g, off, none⟩ ∧ ClsAt w g off xs := by
  obtain ⟨hl2, _, ⟨rfl, _⟩ | ⟨g, off, e, hat⟩⟩ := h
  · simp at hl2; omega
  · exact ⟨g, off, e, hat⟩

set_option maxRecDepth 100000 in
theorem Try.cells5 : Try.prog.cellsOf 5 = 1 := by kernel_rfl
set_option maxRecDepth 100000 in
theorem Try.cells34 : Try.prog.cellsOf 34 = 4 := by kernel_rfl

set_option maxRecDepth 100000 in
theorem open_cl {H : Type} {enc : TypeId × Value → H} {w : World} {n : Nat} {cs : List Value} {x : DataW H × List MemPlace}
    (h : DataW.trod enc Try.prog w 0 (fun _ => true) true n 34 cs = some x) : ∃ c : Cl, cs = [.int .i64 c.kind, .int .i64 c.a, .int .i64 c.b, .int .u8 c.c.toNat] := by
  obtain ⟨xs, m, _, _, hlen, hxs, hf⟩ := DataW.trod_struct Try.underlying34 h
  rw [Try.cells34] at hlen
  match cs, hlen, xs, hxs with
  | [v0, v1, v2, v3], _, [y0, y1, y2, y3], _ =>
    have g0 := hf 0 _ rfl
    have g1 := hf 1 _ rfl
    have g2 := hf 2 _ rfl
    have g3 := hf 3 _ rfl
    simp [Try.cells3, Try.cells5] at g0 g1 g2 g3
    obtain ⟨q0, e0, _, _⟩ := DataW.trod_int Try.underlying3 g0
    obtain ⟨q1, e1, _, _⟩ := DataW.trod_int Try.underlying3 g1
    obtain ⟨q2, e2, _, _⟩ := DataW.trod_int Try.underlying3 g2
    obtain ⟨q3, e3, _, w3⟩ := DataW.trod_int Try.underlying5 g3
    simp at e0 e1 e2 e3
    subst e0 e1 e2 e3
    obtain ⟨x, rfl⟩ := Fil.u8_of w3
    exact ⟨⟨q0, q1, q2, x⟩, rfl⟩

set_option maxRecDepth 100000 in
theorem open_cls {H : Type} {enc : TypeId × Value → H} {w : World} {a : Option Addr} {len cap fuel : Nat} {x : DataW H × List MemPlace}
    (h : DataW.trod enc Try.prog w 0 (fun _ => true) true fuel 25 [.slice a len cap] = some x) : ∃ cs, IsCls w a len cap cs := by
  rcases open_slice Try.underlying25 h with ⟨hcs, _⟩ | ⟨a', len', cap', m, n, D, Pl, hcs, _, hl, hm, hmm, _, hx⟩
  · simp at hcs
    obtain ⟨rfl, rfl, rfl⟩ := hcs
    exact ⟨[], rfl, Nat.le_refl _, .inl ⟨rfl, fun _ => rfl⟩⟩
  · simp at hcs
    obtain ⟨rfl, rfl, rfl⟩ := hcs
    rw [Try.cells34] at hx
    have hlc : len ≤ cap := by simpa using hl
    have hlm : len ≤ m := by rw [hmm]; simpa using hl
    have each : ∀ i, i < len → ∃ it : Cl, w.cell? (a'.add (i * 4)) = some (.int .i64 it.kind) ∧ w.cell? (a'.add (i * 4 + 1)) = some (.int .i64 it.a) ∧ w.cell? (a'.add (i * 4 + 2)) = some (.int .i64 it.b) ∧ w.cell? (a'.add (i * 4 + 3)) = some (.int .u8 it.c.toNat) := by
      intro i hi
      obtain ⟨cs', h1, h2⟩ := hx i (by omega)
      obtain ⟨_, hlen, hcell⟩ := World.cells?_some h1
      obtain ⟨c, rfl⟩ := open_cl h2
      have c0 := hcell 0 (by decide)
      have c1 := hcell 1 (by decide)
      have c2 := hcell 2 (by decide)
      have c3 := hcell 3 (by decide)
      rw [Deep.add_add] at c0 c1 c2 c3
      exact ⟨c, by simpa using c0, by simpa using c1, by simpa using c2, by simpa using c3⟩
    by_cases h0 : len = 0
    · exact ⟨[], h0.symm, hlc, .inl ⟨rfl, fun e => by cases e⟩⟩
    obtain ⟨it0, k0, _⟩ := each 0 (by omega)
    obtain ⟨g', off', e, hg⟩ := plain_of_cell k0
    obtain ⟨g, off, rfl⟩ : ∃ g off, a' = ⟨g, off, none⟩ := by
      obtain ⟨g, off, sp⟩ := a'
      have hs := congrArg Addr.spot e
      unfold Addr.add at hs
      cases sp with
      | none => exact ⟨g, off, rfl⟩
      | some y => simp at hs
    rw [Cel.add_plain] at e
    have hgg : g = g' := congrArg Addr.block e
    subst hgg
    have hI : Inhabited Cl := ⟨⟨0, 0, 0, 0⟩⟩
    obtain ⟨f, hf⟩ := choose_lt (α := Cl) each
    have hget : ∀ j, j < len → ((List.range len).map f)[j]?.getD ⟨0, 0, 0, 0⟩ = f j := fun j hj => by
      simp [hj]
    refine ⟨(List.range len).map f, by simp, hlc, .inr ⟨g, off, rfl, hg, fun j hj => ?_⟩⟩
    have hj' : j < len := by simpa using hj
    have hfj := hf j hj'
    rw [Cel.add_plain, Cel.add_plain, Cel.add_plain, Cel.add_plain] at hfj
    rw [hget j hj']
    exact hfj

end Go.Proofs.Ytdngehfebmaegaa.Sht
