/-
  A region that draws its order, whose operations leave the world alone and whose callees lay new blocks alone: one walk, in the text's order, serves every order.
-/
import Derived.Test.YtedmpbmbeianfaaBase
namespace Go.Proofs.Ytedmpbmbeianfaa
open Go.RowKit

/-- A world in which all that lay below B in w lies as it lay. -/
structure Grown (B : Nat) (w : World) : Type where
  z : World
  h : Below B w z

theorem wp_region_grown {P : Program} {id : Nat} {Q : Exit → Act → World → Prop} {a : Act} {w w0 : World} {B : Nat} {l : List Oper} (hm : P.follows .mixedOrders = true) (hB : Region.lexB .any l.toArray = true) (hw : Below B w0 w)
    (h : wpQuiet P l.toArray (fun w' => ∃ g : Grown B w0, w' = g.z) (fun a' => ∀ w', (∃ g : Grown B w0, w' = g.z) → Q .normal a' w') l a) : (Code.region id l.toArray true).wp P Q a w :=
  wp_region_quiet (C := fun w' => ∃ g : Grown B w0, w' = g.z) hm hB ⟨⟨_, hw.drew⟩, rfl⟩ (by simpa using h)

theorem Grown.some (B : Nat) (w : World) : Nonempty (Grown B w) := ⟨⟨w, Below.refl _ _⟩⟩

end Go.Proofs.Ytedmpbmbeianfaa
