/-
  A row of texts of the law's own, beside its log.
-/
import Derived.Test.YtejmameebhbcbaaLTexts
namespace Go.Proofs.Ytejmameebhbcbaa
open Go.RowKit

theorem row_carry {w w' : World} {base e size : Nat} {v : Value} {n : Nat} {xs : List Value} (h : w.ownsRow base e size v n xs) (hv : ∀ k, v.ownBlock = some k → w'.heap[k]? = w.heap[k]?) : w'.ownsRow base e size v n xs := by
  refine ⟨h.1, ?_⟩
  rcases h.2 with e | ⟨g, cap, cur, e, h0, hg, r⟩
  · exact .inl e
  · exact .inr ⟨g, cap, cur, e, h0, by rw [hv g (by rw [e]; rfl)]; exact hg, r⟩

theorem row_block {w : World} {base e size n : Nat} {v : Value} {xs : List Value} (h : w.ownsRow base e size v n xs) (k : Nat) (hk : v.ownBlock = some k) : ∃ cur, w.heap[k]? = some (.cells cur e (0, 0)) := by
  rcases h.2 with ⟨rfl, _⟩ | ⟨g, cap, cur, rfl, _, hg, _⟩
  · simp [Value.ownBlock] at hk
  · simp [Value.ownBlock] at hk
    subst hk
    exact ⟨cur, hg⟩

section
variable {B : Nat} {w0 w w' : World} {lb b base n : Nat} {v v' vr : Value} {o tn : Bool} {dn ws dn' ws' : List Ch} {xs : List Value}

theorem row_grown (h : w.ownsRow base 9 1 vr n xs) (hb : Below w.heap.size w w') : w'.ownsRow base 9 1 vr n xs := row_carry h fun k hk => hb.block k (h.lt k hk).2

/-- Behind a disk's calls a row of texts is as it was. -/
theorem row_disk (h : w.ownsRow base 9 1 vr n xs) (hd : Has w b v dn ws) (hw : Wrote b v w v' w') : w'.ownsRow base 9 1 vr n xs := row_carry h fun k hk => by
  obtain ⟨cur, hc⟩ := row_block h k hk
  exact hw.other hd hc (by decide) (by decide)

/-- Behind an append onto a row of texts a log is as it was. -/
theorem ML.row (h : ML B w0 w lb b v o tn dn ws) (hr : w.ownsRow base 9 1 vr n xs) (hB : B ≤ base) (hg : w.grownBy w' vr.ownBlock) : ML B w0 w' lb b v o tn dn ws := by
  have key : ∀ (k : Nat) (cs : Array Value) (t : TypeId) (m : Nat × Nat), w.heap[k]? = some (.cells cs t m) → t ≠ 9 → w'.heap[k]? = w.heap[k]? := fun k cs t m hk ht =>
    hg.block k (Array.getElem?_eq_some_iff.1 hk).1 fun e => by
      obtain ⟨cur, hc⟩ := row_block hr k e.symm
      exact ne_block hk hc ht rfl
  refine ⟨⟨h.d.has.carry (key _ _ _ _ h.d.has.dsk.at_ (by decide)) fun k hk => ?_, h.d.le, h.d.own, h.d.below.grown hg h.lo fun k e => Nat.le_trans hB (hr.lt k e).1⟩, h.l.carry (key _ _ _ _ h.l.at_ (by decide)), h.le⟩
  obtain ⟨cur, hc⟩ := own_block h.d.has.dsk.owns k hk
  exact key _ _ _ _ hc (by decide)

end

theorem IsTexts.take {w : World} {a : Option Addr} {len cap : Nat} {ts : List ByteArray} (h : IsTexts w a len cap ts) (n : Nat) (hn : n ≤ len) : IsTexts w a n cap (ts.take n) := by
  obtain ⟨hl, ⟨rfl, hc⟩ | ⟨g, off, rfl, hat⟩⟩ := h
  · have : n = 0 := by simp at hl; omega
    subst this
    exact ⟨rfl, .inl ⟨rfl, hc⟩⟩
  · exact ⟨by rw [List.length_take]; omega, .inr ⟨g, off, rfl, hat.lt, fun j hj => by
      rw [List.length_take] at hj
      rw [hat.cell j (by omega), List.getElem_take]⟩⟩

end Go.Proofs.Ytejmameebhbcbaa
