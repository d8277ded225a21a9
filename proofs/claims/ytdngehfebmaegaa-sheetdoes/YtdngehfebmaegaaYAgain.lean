/-
  A reader that has before it what was written: each call reads just that.
-/
import Derived.Test.YtdngehfebmaegaaYReader
namespace Go.Proofs.Ytdngehfebmaegaa.Sty
open Go.RowKit

theorem lead_wide {n : Nat} (h : n < 18446744073709551616) (r : List UInt8) : Lead (wide n ++ r) n (wide n).length := .inr ⟨h, rfl, List.prefix_append _ _⟩



theorem bytes_same {a b : ByteArray} (h : a.data.toList = b.data.toList) : a = b := by
  apply ByteArray.ext
  exact Array.toList_inj.1 h







end Go.Proofs.Ytdngehfebmaegaa.Sty
