/-
  Two texts laid onto a new disk's areas.
-/
import Derived.Test.YtcofiidibhmhgaaVAlive
namespace Go.Proofs.Ytcofiidibhmhgaa
open Go.RowKit

theorem texts_two (w : World) (a b : ByteArray) : IsTexts (w.alloc (.cells #[.string a, .string b] 9)) (some ⟨w.heap.size, 0, none⟩) 2 2 [a, b] :=
  ⟨rfl, .inr ⟨w.heap.size, 0, rfl, ⟨by simp, fun j hj => by
    have h : j = 0 ∨ j = 1 := by simp at hj; omega
    rcases h with rfl | rfl <;> simp⟩⟩⟩

/-- What a new disk was told. -/
def twoW (a b : ByteArray) : List Ch := [] ++ [⟨false, false, a⟩] ++ [⟨true, false, b⟩]

theorem empty_add (a : ByteArray) : (⟨#[]⟩ : ByteArray) ++ a = a := bytes_ext (by simp)
theorem twoW_false (a b : ByteArray) : txt false ([] ++ twoW a b) = a := by simp [twoW, txt, Ch.on, empty_add]
theorem twoW_true (a b : ByteArray) : txt true ([] ++ twoW a b) = b := by simp [twoW, txt, Ch.on, empty_add]

theorem sum_two {a b : ByteArray} (h : sumT [a, b] ≤ 4096) : a.size ≤ 4096 ∧ b.size ≤ 4096 := by
  simp [sumT] at h
  omega

/-- Two texts are the same where their bytes are. -/
theorem same_bytes (s : ByteArray) : (s.toList == s.toList) = true := by simp

end Go.Proofs.Ytcofiidibhmhgaa
