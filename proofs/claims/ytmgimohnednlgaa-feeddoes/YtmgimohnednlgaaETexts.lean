/-
  Texts, and calls, that came in.
-/
import Derived.Test.YtmgimohnednlgaaEMine
namespace Go.Proofs.Ytmgimohnednlgaa.Fee
open Go.ChangeShapes Go.WideShapes Go.ChangeAt Go.RowKit Go.Deep Go.Proofs.Ytmgimohnednlgaa.Cel

set_option maxRecDepth 100000 in
theorem Try.cells9 : Try.prog.cellsOf 9 = 1 := by kernel_rfl

/-- The texts ts lie in memory from g, off on. -/
structure TextsAt (w : World) (g off : Nat) (ts : List ByteArray) : Prop where
  lt : g < w.heap.size
  cell : ∀ j (h : j < ts.length), w.cell? ⟨g, off + j, none⟩ = some (.string ts[j])

theorem TextsAt.carry {w w' : World} {g off : Nat} {ts : List ByteArray} (h : TextsAt w g off ts) (hb : w'.heap[g]? = w.heap[g]?) (hs : w.heap.size ≤ w'.heap.size) : TextsAt w' g off ts :=
  ⟨Nat.lt_of_lt_of_le h.lt hs, fun j k => (World.cell?_of_block (w := w) hb).trans (h.cell j k)⟩

def IsTexts (w : World) (a : Option Addr) (len cap : Nat) (ts : List ByteArray) : Prop :=
  ts.length = len ∧ (ts = [] ∧ (a = none → cap = 0) ∨ ∃ g off, a = some ⟨g, off, none⟩ ∧ TextsAt w g off ts)

set_option maxRecDepth 100000 in
theorem open_texts {H : Type} {enc : TypeId × Value → H} {w : World} {a : Option Addr} {len cap fuel : Nat} {x : DataW H × List MemPlace}
    (h : DataW.trod enc Try.prog w 0 (fun _ => true) true fuel 43 [.slice a len cap] = some x) : ∃ ts, IsTexts w a len cap ts := by
  rcases open_strs Try.underlying43 Try.underlying9 Try.cells9 h with ⟨hcs, _⟩ | ⟨a', len', cap', m, Sx, hcs, _, hl, hm, hmm, _, hx⟩
  · simp at hcs
    obtain ⟨rfl, rfl, rfl⟩ := hcs
    exact ⟨[], rfl, .inl ⟨rfl, fun _ => rfl⟩⟩
  · simp at hcs
    obtain ⟨rfl, rfl, rfl⟩ := hcs
    have hlm : len ≤ m := by rw [hmm]; simpa using hl
    by_cases h0 : len = 0
    · exact ⟨[], h0.symm, .inl ⟨rfl, fun e => by cases e⟩⟩
    obtain ⟨g', off', e, hg⟩ := plain_of_cell (hx 0 (by omega)).1
    obtain ⟨g, off, rfl⟩ : ∃ g off, a' = ⟨g, off, none⟩ := by
      obtain ⟨g, off, sp⟩ := a'
      have hs := congrArg Addr.spot e
      unfold Addr.add at hs
      cases sp with
      | none => exact ⟨g, off, rfl⟩
      | some y => simp at hs
    rw [Cel.add_plain] at e
    have hgg : g = g' := congrArg Addr.block e
    subst hgg
    refine ⟨(List.range len).map Sx, by simp, .inr ⟨g, off, rfl, hg, fun j hj => ?_⟩⟩
    have hj' : j < len := by simpa using hj
    have := (hx j (by omega)).1
    rw [Cel.add_plain] at this
    simpa using this


theorem IsTexts.carry {w w' : World} {a : Option Addr} {len cap : Nat} {ts : List ByteArray} (h : IsTexts w a len cap ts) (hb : Below w.heap.size w w') : IsTexts w' a len cap ts := by
  obtain ⟨hl, ⟨rfl, hc⟩ | ⟨g, off, rfl, hat⟩⟩ := h
  · exact ⟨hl, .inl ⟨rfl, hc⟩⟩
  · exact ⟨hl, .inr ⟨g, off, rfl, hat.carry (hb.block g hat.lt) hb.size⟩⟩

/-- A text of those that came in, in a later world. -/
theorem IsTexts.at_ {w w' : World} {a : Option Addr} {len cap : Nat} {ts : List ByteArray} (h : IsTexts w a len cap ts) (hb : Below w.heap.size w w') (k : Nat) (hk : k < len) :
    ∃ g off, a = some ⟨g, off, none⟩ ∧ ∃ hk : k < ts.length, w'.cell? ⟨g, off + k, none⟩ = some (.string ts[k]) := by
  obtain ⟨hl, ⟨rfl, _⟩ | ⟨g, off, e, hat⟩⟩ := h
  · simp at hl; omega
  · exact ⟨g, off, e, by omega, (hat.carry (hb.block g hat.lt) hb.size).cell k (by omega)⟩

end Go.Proofs.Ytmgimohnednlgaa.Fee
