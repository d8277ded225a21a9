/-
  A text of one byte; bytes behind one another.
-/
import Derived.Test.YtdngehfebmaegaaFCut
namespace Go.Proofs.Ytdngehfebmaegaa.Fil
open Go.RowKit Go.Deep

set_option maxRecDepth 100000 in
/-- One byte in a new row, as a text. -/
theorem conv_one (w : World) (b : UInt8) : (convert 63 9 (.slice (some ⟨w.heap.size, 0, none⟩) 1 1)).run Try.prog (w.alloc (.cells #[.int .u8 b.toNat] 5)) = .ok (.string (txt [b])) (w.alloc (.cells #[.int .u8 b.toNat] 5)) :=
  conv_bytes (g := w.heap.size) (cap := 1) [b] 1 rfl (heap_new w _)

theorem wrap8 (b : UInt8) : IntKind.u8.wrap (b.toNat : Int) = (b.toNat : Int) := by
  have := b.toNat_lt
  simp [IntKind.wrap, IntKind.bits, IntKind.signed]
  omega

theorem add_one (l : List UInt8) (b : UInt8) : txt l ++ txt [b] = txt (l ++ [b]) := txt_append l [b]

theorem take_one (l : List UInt8) (k : Nat) (h : k < l.length) : l.take k ++ [atz l k] = l.take (k + 1) := by
  rw [atz_get l k h, List.take_succ_eq_append_getElem h]

end Go.Proofs.Ytdngehfebmaegaa.Fil
