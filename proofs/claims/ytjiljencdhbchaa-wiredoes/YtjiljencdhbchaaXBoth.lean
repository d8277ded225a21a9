/-
  A wire of the law's own and the document's, beside one another.
-/
import Derived.Test.YtjiljencdhbchaaXRefC
namespace Go.Proofs.Ytjiljencdhbchaa
open Go.RowKit

/-- A wire in block b, and the document's in block m; all below w's end is as it was. -/
structure D2 (w wr : World) (b m : Nat) (fw fr : Nat → Wy) : Prop where
  mx : MX w.heap.size w wr b fw
  ref : Ref wr m fr
  le : w.heap.size ≤ m

section
variable {w wr wr2 : World} {b m : Nat} {fw fr fw' fr' : Nat → Wy}

theorem D2.wire (h : D2 w wr b m fw fr) (hm : MX w.heap.size w wr2 b fw') (hk : Keeps wr wr2) : D2 w wr2 b m fw' fr :=
  ⟨hm, ⟨hk m _ _ _ h.ref.at_ (by decide) (by decide)⟩, h.le⟩

theorem D2.refr (h : D2 w wr b m fw fr) (hr : Ref wr2 m fr') (ho : Only m wr wr2) : D2 w wr2 b m fw fr' := by
  refine ⟨?_, hr, h.le⟩
  obtain ⟨vs, h1, h2⟩ := h.mx.ex
  have hne : ∀ k, Foot b vs k → k ≠ m := fun k hk e => by
    have ha := h.ref.at_
    rw [← e] at ha
    rcases hk with e1 | ⟨i, hi, e1⟩
    · rw [e1, h1.at_] at ha
      injection ha with ha
      injection ha with _ ht _
      exact absurd ht (by decide)
    · rcases (h1.owns i hi).2 with ⟨e2, _⟩ | ⟨g, cap, cur, e2, _, hg, _⟩
      · rw [e2] at e1; cases e1
      · rw [e2] at e1
        cases e1
        rw [hg] at ha
        injection ha with ha
        injection ha with _ ht _
        exact absurd ht (by decide)
  have hl := h.le
  exact ⟨⟨vs, h1.keep fun k hk => ho.block k (h1.foot_lt k hk) (hne k hk), h2⟩, h.mx.below.trans ⟨ho.os, ho.tape, ho.output, ho.size, fun k hk => ho.block k (Nat.lt_of_lt_of_le hk h.mx.lo) (by omega)⟩⟩

theorem D2.grow (h : D2 w wr b m fw fr) (hb : Below wr.heap.size wr wr2) : D2 w wr2 b m fw fr := ⟨h.mx.grow hb, h.ref.carry (hb.block m h.ref.lt), h.le⟩
theorem D2.alloc (h : D2 w wr b m fw fr) (o : Obj) : D2 w (wr.alloc o) b m fw fr := h.grow ((Below.refl _ _).alloc (Nat.le_refl _) _)
theorem D2.drewN (h : D2 w wr b m fw fr) (n : Nat) : D2 w (wr.drewN n) b m fw fr := h.grow (below_drewN (Below.refl _ _) n)

theorem Box.only {k : Nat} {c : Cl} (h : Box wr k c) (hr : Ref wr m fr) (ho : Only m wr wr2) : Box wr2 k c := by
  refine ⟨(ho.block k (Array.getElem?_eq_some_iff.1 h.at_).1 fun e => ?_).trans h.at_⟩
  have ha := hr.at_
  rw [← e, h.at_] at ha
  injection ha with ha
  injection ha with _ ht _
  exact absurd ht (by decide)

/-- Bytes behind a way of the document's. -/
theorem Ref.setA {x : ByteArray} (h : Ref wr m fr) (i : Nat) (hi : i < 3) : Ref (wr.setCell ⟨m, i * 3, none⟩ (.string ((fr i).all ++ x))) m (upd fr i ((fr i).push x.data.toList)) := by
  have e : ((fr i).push x.data.toList).all = (fr i).all ++ x := by
    apply ByteArray.ext
    simp [Wy.push, Wy.all]
  refine ⟨?_⟩
  rw [heap_set _ h.at_]
  rw [← e]
  clear e
  revert i
  exact below3 (by simp [upd, Wy.push]) (by simp [upd, Wy.push]) (by simp [upd, Wy.push])

end

/-- What is told of a socket, as the document has it. -/
theorem told_at {f : Nat → Wy} (hg : ∀ i, i < 3 → (f i).Good) (i : Nat) (hi : i < 3) (s : Int) (hs : s = (i : Int)) : anAll f s = (f i).all ∧ anTrace f s = (f i).all.extract 0 (f i).came ∧ anLeft f s = (f i).all.size - (f i).came ∧ (f i).came ≤ (f i).all.size := by
  subst hs
  have h1 := isS_of hi
  have hsz : (f i).all.size = (f i).bs.length := by simp [Wy.all]; rfl
  unfold anAll anTrace anLeft
  rw [h1, hsz]
  refine ⟨rfl, ?_, rfl, (hg i hi).cl⟩
  rw [extract_part]
  rfl

end Go.Proofs.Ytjiljencdhbchaa
