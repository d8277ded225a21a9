/-
  A disk of the law's own: all its blocks are new ones.
-/
import Derived.Test.YtcofiidibhmhgaaDAppend
import Derived.Test.YtcofiidibhmhgaaDCrash
namespace Go.Proofs.Ytcofiidibhmhgaa
open Go.RowKit

/-- The disk in block b has these changes done, and these wait; it lies at B or behind it, and all below B is as it was. -/
structure Mine (B : Nat) (w0 w : World) (b : Nat) (v : Value) (dn ws : List Ch) : Prop where
  has : Has w b v dn ws
  le : B ≤ b
  own : ∀ k, v.ownBlock = some k → B ≤ k
  below : Below B w0 w

section
variable {B : Nat} {w0 w w' : World} {b : Nat} {v v' : Value} {dn ws dn' ws' : List Ch}

theorem Mine.lo (h : Mine B w0 w b v dn ws) : B ≤ w.heap.size := Nat.le_trans h.le (Nat.le_of_lt h.has.lt)

theorem Mine.step (h : Mine B w0 w b v dn ws) (h1 : Has w' b v' dn' ws') (hw : Wrote b v w v' w') : Mine B w0 w' b v' dn' ws' :=
  ⟨h1, h.le, hw.own_from h.lo h.own, h.below.trans (hw.below h.lo h.le h.own)⟩

theorem Mine.grow (h : Mine B w0 w b v dn ws) (hb : Below w.heap.size w w') : Mine B w0 w' b v dn ws :=
  ⟨h.has.grown hb, h.le, h.own, h.below.trans (hb.mono h.lo)⟩

theorem Mine.alloc (h : Mine B w0 w b v dn ws) (o : Obj) : Mine B w0 (w.alloc o) b v dn ws := h.grow ((Below.refl _ _).alloc (Nat.le_refl _) _)

end

theorem Mine.new {B : Nat} {w0 w : World} (hb : Below B w0 w) (hB : B ≤ w.heap.size) :
    Mine B w0 (w.alloc (.cells #[.string ⟨#[]⟩, .string ⟨#[]⟩, .string ⟨#[]⟩, .string ⟨#[]⟩, .slice none 0 0] 55)) w.heap.size (.slice none 0 0) [] [] :=
  ⟨Has.new w, hB, by simp [Value.ownBlock], hb.alloc hB _⟩

end Go.Proofs.Ytcofiidibhmhgaa
