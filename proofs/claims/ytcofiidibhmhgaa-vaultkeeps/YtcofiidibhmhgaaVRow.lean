/-
  A row of texts of the law's own beside a vault.
-/
import Derived.Test.YtcofiidibhmhgaaVTwo
namespace Go.Proofs.Ytcofiidibhmhgaa
open Go.RowKit

theorem IsTexts.take {w : World} {a : Option Addr} {len cap : Nat} {ts : List ByteArray} (h : IsTexts w a len cap ts) (n : Nat) (hn : n ≤ len) : IsTexts w a n cap (ts.take n) := by
  obtain ⟨hl, ⟨rfl, hc⟩ | ⟨g, off, rfl, hat⟩⟩ := h
  · have : n = 0 := by simp at hl; omega
    subst this
    exact ⟨rfl, .inl ⟨rfl, hc⟩⟩
  · exact ⟨by rw [List.length_take]; omega, .inr ⟨g, off, rfl, hat.lt, fun j hj => by
      rw [List.length_take] at hj
      rw [hat.cell j (by omega), List.getElem_take]⟩⟩

section
variable {B : Nat} {w0 w w' : World} {vb lb ob b base n : Nat} {v vr : Value} {y tn tm : Bool} {e : Nat} {st : Bool} {dn ws : List Ch} {xs : List Value} {s : ByteArray} {A U : List ByteArray}

theorem MV.row (h : MV B w0 w vb lb ob b v y tn tm e st dn ws) (hr : w.ownsRow base 9 1 vr n xs) (hB : B ≤ base) (hg : w.grownBy w' vr.ownBlock) : MV B w0 w' vb lb ob b v y tn tm e st dn ws := by
  have key : ∀ (k : Nat) (cs : Array Value) (t : TypeId) (m : Nat × Nat), w.heap[k]? = some (.cells cs t m) → t ≠ 9 → w'.heap[k]? = w.heap[k]? := fun k cs t m hk ht =>
    hg.block k (Array.getElem?_eq_some_iff.1 hk).1 fun e => by
      obtain ⟨cur, hc⟩ := own_cur hr k e.symm
      exact ne_block hk hc ht rfl
  refine ⟨⟨h.d.has.carry (key _ _ _ _ h.d.has.dsk.at_ (by decide)) fun k hk => ?_, h.d.le, h.d.own, h.d.below.grown hg h.lo fun k e => Nat.le_trans hB (hr.lt k e).1⟩, h.a.carry (key _ _ _ _ h.a.at_ (by decide)), h.l.carry (key _ _ _ _ h.l.at_ (by decide)), h.o.carry (key _ _ _ _ h.o.at_ (by decide)), h.ne, h.bv, h.bl, h.bo⟩
  obtain ⟨cur, hc⟩ := own_block h.d.has.dsk.owns k hk
  exact key _ _ _ _ hc (by decide)

theorem VS.row (h : VS B w0 w vb b y e s A U) (hr : w.ownsRow base 9 1 vr n xs) (hB : B ≤ base) (hg : w.grownBy w' vr.ownBlock) : VS B w0 w' vb b y e s A U := by
  obtain ⟨lb, ob, v, dn, mv, hs⟩ := h.mv
  exact ⟨⟨lb, ob, v, dn, mv.row hr hB hg, hs⟩, h.e1, h.e2, h.si, h.sa, h.su⟩

end

end Go.Proofs.Ytcofiidibhmhgaa
