/-
  A region that draws its order, whose operations leave the world alone and whose callees lay new blocks alone: one walk, in the text's order, serves every order.
-/
import Derived.Test.YtajongclalcigaaFBoth
namespace Go.Proofs.Ytajongclalcigaa.Fil
open Go.RowKit

/-- A world in which all that lay below B in w lies as it lay. -/
structure Wider (B : Nat) (w : World) : Type where
  z : World
  h : Below B w z

theorem wp_region_wider {P : Program} {id : Nat} {Q : Exit → Act → World → Prop} {a : Act} {w w0 : World} {B : Nat} {l : List Oper} (hm : P.follows .mixedOrders = true) (hB : Region.lexB .any l.toArray = true) (hw : Below B w0 w)
    (h : wpQuiet P l.toArray (fun w' => ∃ g : Wider B w0, w' = g.z) (fun a' => ∀ w', (∃ g : Wider B w0, w' = g.z) → Q .normal a' w') l a) : (Code.region id l.toArray true).wp P Q a w :=
  wp_region_quiet (C := fun w' => ∃ g : Wider B w0, w' = g.z) hm hB ⟨⟨_, hw.drew⟩, rfl⟩ (by simpa using h)

theorem Wider.some (B : Nat) (w : World) : Nonempty (Wider B w) := ⟨⟨w, Below.refl _ _⟩⟩

theorem cell_past {w : World} {a : Addr} {o : Obj} {v : Value} (h : w.cell? a = some v) : (w.alloc o).cell? a = some v := by
  rw [World.cell?_alloc_some _ _ _ (by rw [h]; rfl), h]

theorem with_new {B : Nat} {w0 z : World} (hB : B ≤ w0.heap.size) (h : Below B w0 z) (o : Obj) : Below B w0 (z.alloc o) := h.alloc (Nat.le_trans hB h.size) o

theorem with_set {B : Nat} {w0 z y : World} (hB : B ≤ w0.heap.size) (k : Below B w0 y) (h : Below B w0 z) (i : Nat) (v : Value) : Below B w0 (z.setCell ⟨y.heap.size, i, none⟩ v) := h.setCell (p := ⟨y.heap.size, i, none⟩) (Nat.le_trans hB k.size) v
theorem with_set1 {B : Nat} {w0 z y : World} (hB : B ≤ w0.heap.size) (k : Below B w0 y) (h : Below B w0 z) (i : Nat) (v : Value) : Below B w0 (z.setCell ⟨y.heap.size + 1, i, none⟩ v) := h.setCell (p := ⟨y.heap.size + 1, i, none⟩) (Nat.le_succ_of_le (Nat.le_trans hB k.size)) v

/-- A new file lies in block M, as it was laid. -/
def Fr (z : World) (M : Nat) : Prop := z.heap[M]? = some (.cells #[.bool false, .string ⟨#[]⟩] 23 (0, 0))

/-- What the walk wants of it. -/
def Fx (z : World) (M : Nat) : Prop :=
  z.cell? ⟨M, 0, none⟩ = some (.bool false) ∧ z.cell? ⟨M, 1, none⟩ = some (.string ⟨#[]⟩) ∧ z.frozen? ⟨M, 0, none⟩ = false ∧ z.frozen? ⟨M, 1, none⟩ = false ∧ M < z.heap.size ∧ ¬ M = z.heap.size ∧ ¬ z.heap.size = M

theorem Fr.lt {z : World} {M : Nat} (h : Fr z M) : M < z.heap.size := (Array.getElem?_eq_some_iff.1 h).1
theorem Fr.facts {z : World} {M : Nat} (h : Fr z M) : Fx z M :=
  ⟨cell_at h rfl, cell_at h rfl, free_at h, free_at h, h.lt, Nat.ne_of_lt h.lt, Nat.ne_of_gt h.lt⟩

/-- A file as it is laid. -/
abbrev zf : Obj := .cells #[.bool false, .string ⟨#[]⟩] 23

theorem Fr.past {z : World} {M : Nat} (h : Fr z M) (o : Obj) : Fr (z.alloc o) M := (Below.heap_alloc _ _ _ h.lt).trans h
theorem Fr.new (z : World) : Fr (z.alloc zf) z.heap.size := heap_new z zf
theorem Fr.new2 (z : World) (o : Obj) : Fr ((z.alloc o).alloc zf) (z.heap.size + 1) := by
  have h := heap_new (z.alloc o) zf
  rw [World.size_alloc] at h
  exact h
theorem Fr.call {X z : World} {M : Nat} (h : Fr X M) (hz : Below X.heap.size X z) : Fr z M := (hz.block M h.lt).trans h

section
variable {w z : World}

theorem behind2 (hz : Below ((w.alloc zf).alloc zf).heap.size ((w.alloc zf).alloc zf) z) : Fr z w.heap.size ∧ Fr z (w.heap.size + 1) := ⟨((Fr.new w).past _).call hz, (Fr.new2 w _).call hz⟩
theorem behind1 (hz : Below (w.alloc zf).heap.size (w.alloc zf) z) : Fr z w.heap.size := (Fr.new w).call hz
theorem drew2 (hz : Below ((w.alloc zf).alloc zf).drew.heap.size ((w.alloc zf).alloc zf).drew z) : Fr z w.heap.size ∧ Fr z (w.heap.size + 1) := ⟨Fr.call (X := ((w.alloc zf).alloc zf).drew) ((Fr.new w).past _) hz, Fr.call (X := ((w.alloc zf).alloc zf).drew) (Fr.new2 w _) hz⟩
theorem drew1 (hz : Below (w.alloc zf).drew.heap.size (w.alloc zf).drew z) : Fr z w.heap.size := Fr.call (X := (w.alloc zf).drew) (Fr.new w) hz
theorem old1 {M : Nat} (h : Fr w M) (hz : Below (w.alloc zf).heap.size (w.alloc zf) z) : Fr z M := (h.past _).call hz
theorem old0 {M : Nat} (h : Fr w M) (hz : Below w.heap.size w z) : Fr z M := h.call hz

end

/-- Two files lie in blocks M and N, and all that was there is as it was. -/
structure Fin2 (M N : Nat) (i1 : Bool) (s1 : ByteArray) (i2 : Bool) (s2 : ByteArray) (B : Nat) (w0 w : World) : Prop where
  m0 : w.cell? ⟨M, 0, none⟩ = some (.bool i1)
  m1 : w.cell? ⟨M, 1, none⟩ = some (.string s1)
  n0 : w.cell? ⟨N, 0, none⟩ = some (.bool i2)
  n1 : w.cell? ⟨N, 1, none⟩ = some (.string s2)
  bel : Below B w0 w

/-- A region's many ways end alike but for two blocks. -/
theorem mono_via {P : Program} {c : Code} {Q : Exit → Act → World → Prop} {a : Act} {w : World} (R : Nat → Nat → World → Prop) (f : Nat → Nat → Act)
    (reg : c.wp P (fun e a wx => e = .normal ∧ ∃ M N, R M N wx ∧ a = f M N) a w) (imp : ∀ M N wx, R M N wx → Q .normal (f M N) wx) : c.wp P Q a w := by
  refine Code.wp_mono (fun e a wx => ?_) reg
  rintro ⟨rfl, M, N, h, rfl⟩
  exact imp M N wx h

theorem still {w z : World} {p : Addr} {v : Value} (h : w.cell? p = some v) (hz : Below w.heap.size w z) : z.cell? p = some v := (hz.cell (World.block_lt_of_cell? w p h)).trans h

end Go.Proofs.Ytajongclalcigaa.Fil
