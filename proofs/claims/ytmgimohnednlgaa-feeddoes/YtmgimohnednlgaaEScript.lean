/-
  Calls of a script as they lie in memory.
-/
import Derived.Test.YtmgimohnednlgaaETexts
namespace Go.Proofs.Ytmgimohnednlgaa.Fee
open Go.ChangeShapes Go.WideShapes Go.ChangeAt Go.RowKit Go.Deep Go.Proofs.Ytmgimohnednlgaa.Cel

set_option maxRecDepth 100000 in
theorem Try.cells32 : Try.prog.cellsOf 32 = 5 := by kernel_rfl

structure Cl where
  kind : Int
  sock : Int
  s : ByteArray
  place : Int
  ver : Int

/-- The calls cs lie in memory from g, off on. -/
structure ClsAt (w : World) (g off : Nat) (cs : List Cl) : Prop where
  lt : g < w.heap.size
  kind : ∀ j (h : j < cs.length), w.cell? ⟨g, off + j * 5, none⟩ = some (.int .i64 cs[j].kind)
  sock : ∀ j (h : j < cs.length), w.cell? ⟨g, off + j * 5 + 1, none⟩ = some (.int .i64 cs[j].sock)
  s : ∀ j (h : j < cs.length), w.cell? ⟨g, off + j * 5 + 2, none⟩ = some (.string cs[j].s)
  place : ∀ j (h : j < cs.length), w.cell? ⟨g, off + j * 5 + 3, none⟩ = some (.int .i64 cs[j].place)
  ver : ∀ j (h : j < cs.length), w.cell? ⟨g, off + j * 5 + 4, none⟩ = some (.int .i64 cs[j].ver)

theorem ClsAt.carry {w w' : World} {g off : Nat} {cs : List Cl} (h : ClsAt w g off cs) (hb : w'.heap[g]? = w.heap[g]?) (hs : w.heap.size ≤ w'.heap.size) : ClsAt w' g off cs :=
  ⟨Nat.lt_of_lt_of_le h.lt hs, fun j k => (World.cell?_of_block (w := w) hb).trans (h.kind j k), fun j k => (World.cell?_of_block (w := w) hb).trans (h.sock j k),
    fun j k => (World.cell?_of_block (w := w) hb).trans (h.s j k), fun j k => (World.cell?_of_block (w := w) hb).trans (h.place j k), fun j k => (World.cell?_of_block (w := w) hb).trans (h.ver j k)⟩

/-- What is told of a list of calls that came in. -/
def IsCls (w : World) (a : Option Addr) (len cap : Nat) (cs : List Cl) : Prop :=
  cs.length = len ∧ (cs = [] ∧ (a = none → cap = 0) ∨ ∃ g off, a = some ⟨g, off, none⟩ ∧ ClsAt w g off cs)

theorem IsCls.carry {w w' : World} {a : Option Addr} {len cap : Nat} {cs : List Cl} (h : IsCls w a len cap cs) (hb : Below w.heap.size w w') : IsCls w' a len cap cs := by
  obtain ⟨hl, ⟨rfl, hc⟩ | ⟨g, off, rfl, hat⟩⟩ := h
  · exact ⟨hl, .inl ⟨rfl, hc⟩⟩
  · exact ⟨hl, .inr ⟨g, off, rfl, hat.carry (hb.block g hat.lt) hb.size⟩⟩

set_option maxRecDepth 100000 in
/-- A call's cells, opened. -/
theorem open_cl {H : Type} {enc : TypeId × Value → H} {w : World} {n : Nat} {cs : List Value} {x : DataW H × List MemPlace}
    (h : DataW.trod enc Try.prog w 0 (fun _ => true) true n 32 cs = some x) : ∃ c : Cl, cs = [.int .i64 c.kind, .int .i64 c.sock, .string c.s, .int .i64 c.place, .int .i64 c.ver] := by
  obtain ⟨xs, m, _, _, hlen, hxs, hf⟩ := DataW.trod_struct Try.underlying32 h
  rw [Try.cells32] at hlen
  match cs, hlen, xs, hxs with
  | [v0, v1, v2, v3, v4], _, [y0, y1, y2, y3, y4], _ =>
    have g0 := hf 0 _ rfl
    have g1 := hf 1 _ rfl
    have g2 := hf 2 _ rfl
    have g3 := hf 3 _ rfl
    have g4 := hf 4 _ rfl
    simp [Cel.Try.cells3, Try.cells9] at g0 g1 g2 g3 g4
    obtain ⟨q0, e0, _, _⟩ := DataW.trod_int Try.underlying3 g0
    obtain ⟨q1, e1, _, _⟩ := DataW.trod_int Try.underlying3 g1
    obtain ⟨q2, e2, _, _⟩ := DataW.trod_string Try.underlying9 g2
    obtain ⟨q3, e3, _, _⟩ := DataW.trod_int Try.underlying3 g3
    obtain ⟨q4, e4, _, _⟩ := DataW.trod_int Try.underlying3 g4
    simp at e0 e1 e2 e3 e4
    subst e0 e1 e2 e3 e4
    exact ⟨⟨q0, q1, q2, q3, q4⟩, rfl⟩

set_option maxRecDepth 100000 in
theorem open_cls {H : Type} {enc : TypeId × Value → H} {w : World} {a : Option Addr} {len cap fuel : Nat} {x : DataW H × List MemPlace}
    (h : DataW.trod enc Try.prog w 0 (fun _ => true) true fuel 22 [.slice a len cap] = some x) : ∃ cs, IsCls w a len cap cs := by
  rcases open_slice Try.underlying22 h with ⟨hcs, _⟩ | ⟨a', len', cap', m, n, D, Pl, hcs, _, hl, hm, hmm, _, hx⟩
  · simp at hcs
    obtain ⟨rfl, rfl, rfl⟩ := hcs
    exact ⟨[], rfl, .inl ⟨rfl, fun _ => rfl⟩⟩
  · simp at hcs
    obtain ⟨rfl, rfl, rfl⟩ := hcs
    rw [Try.cells32] at hx
    have hlm : len ≤ m := by rw [hmm]; simpa using hl
    have each : ∀ i, i < len → ∃ it : Cl, w.cell? (a'.add (i * 5)) = some (.int .i64 it.kind) ∧ w.cell? (a'.add (i * 5 + 1)) = some (.int .i64 it.sock) ∧ w.cell? (a'.add (i * 5 + 2)) = some (.string it.s) ∧
        w.cell? (a'.add (i * 5 + 3)) = some (.int .i64 it.place) ∧ w.cell? (a'.add (i * 5 + 4)) = some (.int .i64 it.ver) := by
      intro i hi
      obtain ⟨cs', h1, h2⟩ := hx i (by omega)
      obtain ⟨_, hlen, hcell⟩ := World.cells?_some h1
      obtain ⟨c, rfl⟩ := open_cl h2
      have c0 := hcell 0 (by decide)
      have c1 := hcell 1 (by decide)
      have c2 := hcell 2 (by decide)
      have c3 := hcell 3 (by decide)
      have c4 := hcell 4 (by decide)
      rw [Deep.add_add] at c0 c1 c2 c3 c4
      exact ⟨c, by simpa using c0, by simpa using c1, by simpa using c2, by simpa using c3, by simpa using c4⟩
    by_cases h0 : len = 0
    · exact ⟨[], h0.symm, .inl ⟨rfl, fun e => by cases e⟩⟩
    obtain ⟨it0, k0, _⟩ := each 0 (by omega)
    obtain ⟨g', off', e, hg⟩ := plain_of_cell k0
    obtain ⟨g, off, rfl⟩ : ∃ g off, a' = ⟨g, off, none⟩ := by
      obtain ⟨g, off, sp⟩ := a'
      have hs := congrArg Addr.spot e
      unfold Addr.add at hs
      cases sp with
      | none => exact ⟨g, off, rfl⟩
      | some y => simp at hs
    rw [Cel.add_plain] at e
    have hgg : g = g' := congrArg Addr.block e
    subst hgg
    have hne : Inhabited Cl := ⟨⟨0, 0, ByteArray.empty, 0, 0⟩⟩
    obtain ⟨f, hf⟩ := choose_lt (α := Cl) each
    refine ⟨(List.range len).map f, by simp, .inr ⟨g, off, rfl, hg, fun j hj => ?_, fun j hj => ?_, fun j hj => ?_, fun j hj => ?_, fun j hj => ?_⟩⟩
    all_goals
      have hj' : j < len := by simpa using hj
      have hfj := hf j hj'
      rw [Cel.add_plain, Cel.add_plain, Cel.add_plain, Cel.add_plain, Cel.add_plain] at hfj
      simp only [List.getElem_map, List.getElem_range]
    · exact hfj.1
    · exact hfj.2.1
    · exact hfj.2.2.1
    · exact hfj.2.2.2.1
    · exact hfj.2.2.2.2

/-- A call of those that came in, in a later world. -/
theorem IsCls.at_ {w w' : World} {a : Option Addr} {len cap : Nat} {cs : List Cl} (h : IsCls w a len cap cs) (hb : Below w.heap.size w w') (k : Nat) (hk : k < len) :
    ∃ g off, a = some ⟨g, off, none⟩ ∧ ∃ c : Cl, w'.cell? ⟨g, off + k * 5, none⟩ = some (.int .i64 c.kind) ∧ w'.cell? ⟨g, off + k * 5 + 1, none⟩ = some (.int .i64 c.sock) ∧
      w'.cell? ⟨g, off + k * 5 + 2, none⟩ = some (.string c.s) ∧ w'.cell? ⟨g, off + k * 5 + 3, none⟩ = some (.int .i64 c.place) ∧ w'.cell? ⟨g, off + k * 5 + 4, none⟩ = some (.int .i64 c.ver) := by
  obtain ⟨hl, ⟨rfl, _⟩ | ⟨g, off, e, hat⟩⟩ := h
  · simp at hl; omega
  · have hk2 : k < cs.length := by omega
    have ht := hat.carry (hb.block g hat.lt) hb.size
    exact ⟨g, off, e, cs[k], ht.kind k hk2, ht.sock k hk2, ht.s k hk2, ht.place k hk2, ht.ver k hk2⟩

/-- A call's box in memory, behind calls on feeds. -/
structure Box (w : World) (k : Nat) (c : Cl) : Prop where
  at_ : w.heap[k]? = some (.cells #[.int .i64 c.kind, .int .i64 c.sock, .string c.s, .int .i64 c.place, .int .i64 c.ver] 32 (0, 0))

theorem Box.new (w : World) (c : Cl) : Box (w.alloc (.cells #[.int .i64 c.kind, .int .i64 c.sock, .string c.s, .int .i64 c.place, .int .i64 c.ver] 32)) w.heap.size c := ⟨heap_new w _⟩
theorem Box.keep {w w' : World} {k : Nat} {c : Cl} (h : Box w k c) (hk : Keeps w w') : Box w' k c := ⟨hk k _ _ _ h.at_ (by decide) (by decide) (by decide) (by decide)⟩
theorem Box.c0 {w : World} {k : Nat} {c : Cl} (h : Box w k c) : w.cell? ⟨k, 0, none⟩ = some (.int .i64 c.kind) := by simp [World.cell?, h.at_]
theorem Box.c1 {w : World} {k : Nat} {c : Cl} (h : Box w k c) : w.cell? ⟨k, 1, none⟩ = some (.int .i64 c.sock) := by simp [World.cell?, h.at_]
theorem Box.c2 {w : World} {k : Nat} {c : Cl} (h : Box w k c) : w.cell? ⟨k, 2, none⟩ = some (.string c.s) := by simp [World.cell?, h.at_]
theorem Box.c3 {w : World} {k : Nat} {c : Cl} (h : Box w k c) : w.cell? ⟨k, 3, none⟩ = some (.int .i64 c.place) := by simp [World.cell?, h.at_]
theorem Box.c4 {w : World} {k : Nat} {c : Cl} (h : Box w k c) : w.cell? ⟨k, 4, none⟩ = some (.int .i64 c.ver) := by simp [World.cell?, h.at_]

/-- What a call makes of a feed. -/
def stDo (c : Cl) (f : Nat → Sk) : Nat → Sk := if c.kind = 0 then stArr f c.sock c.s else stTake f c.sock c.place c.ver

end Go.Proofs.Ytmgimohnednlgaa.Fee
