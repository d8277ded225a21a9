/-
  A region that draws its order, whose operations leave the world alone and whose callees lay new blocks alone: one walk, in the text's order, serves every order.
-/
import Derived.Test.YtdngehfebmaegaaRLow
namespace Go.Proofs.Ytdngehfebmaegaa.Cel
open Go.RowKit

/-- A world in which all that lay below B in w lies as it lay. -/
structure Wider (B : Nat) (w : World) : Type where
  z : World
  h : Below B w z

theorem wp_region_wider {P : Program} {id : Nat} {Q : Exit → Act → World → Prop} {a : Act} {w w0 : World} {B : Nat} {l : List Oper} (hm : P.follows .mixedOrders = true) (hB : Region.lexB .any l.toArray = true) (hw : Below B w0 w)
    (h : wpQuiet P l.toArray (fun w' => ∃ g : Wider B w0, w' = g.z) (fun a' => ∀ w', (∃ g : Wider B w0, w' = g.z) → Q .normal a' w') l a) : (Code.region id l.toArray true).wp P Q a w :=
  wp_region_quiet (C := fun w' => ∃ g : Wider B w0, w' = g.z) hm hB ⟨⟨_, hw.drew⟩, rfl⟩ (by simpa using h)

theorem Wider.some (B : Nat) (w : World) : Nonempty (Wider B w) := ⟨⟨w, Below.refl _ _⟩⟩

theorem cell_past {w : World} {a : Addr} {o : Obj} {v : Value} (h : w.cell? a = some v) : (w.alloc o).cell? a = some v := by
  rw [World.cell?_alloc_some _ _ _ (by rw [h]; rfl), h]

theorem farther {B : Nat} {w x y : World} (hB : B ≤ w.heap.size) (h : Below B w x) (k : Below x.heap.size x y) : Below B w y := h.trans (k.mono (Nat.le_trans hB h.size))

end Go.Proofs.Ytdngehfebmaegaa.Cel
