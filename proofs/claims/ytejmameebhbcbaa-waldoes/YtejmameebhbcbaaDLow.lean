/-
  Small facts on rows that are owned.
-/
import Derived.Laws.AppendOwnNone
import Derived.Lib.SliceRun
import Derived.Test.YtejmameebhbcbaaDChange
namespace Go.Proofs.Ytejmameebhbcbaa
open Go.RowKit

theorem ownsRow_low {w : World} {base e size : Nat} {v : Value} {n : Nat} {xs : List Value} (h : w.ownsRow base e size v n xs) : w.ownsRow 0 e size v n xs := by
  refine ⟨h.1, ?_⟩
  rcases h.2 with e | ⟨g, cap, cur, e, h0, r⟩
  · exact .inl e
  · exact .inr ⟨g, cap, cur, e, Nat.zero_le _, r⟩

theorem cell_past {w : World} {a : Addr} {o : Obj} {v : Value} (h : w.cell? a = some v) : (w.alloc o).cell? a = some v :=
  (World.cell?_alloc_some w a o (by rw [h]; rfl)).trans h

/-- The cells of a row that is owned. -/
theorem ownsRow_cells {w : World} {e size g n cap : Nat} {xs : List Value} (h : w.ownsRow 0 e size (.slice (some ⟨g, 0, none⟩) n cap) n xs) : ∀ j u, xs[j]? = some u → w.cell? ((⟨g, 0, none⟩ : Addr).add j) = some u :=
  fun j u hu => h.cells (g := g) rfl j u hu

end Go.Proofs.Ytejmameebhbcbaa
