/-
  The walks of the document's own answers: Wide, Nat, Int and Text of countermandref01.
-/
import Derived.Test.YtdngehfebmaegaaYTexts
namespace Go.Proofs.Ytdngehfebmaegaa.Sty
open Go.RowKit

set_option maxRecDepth 100000 in
/-- 'string([]byte{c})'. -/
theorem conv_one (wx : World) (x : Int) (c : UInt8) (hx : x = (c.toNat : Int)) :
    (convert 63 9 (.slice (some ⟨wx.heap.size, 0, none⟩) 1 1)).run Try.prog (wx.alloc (.cells #[.int .u8 x] 5)) = .ok (.string ⟨#[c]⟩) (wx.alloc (.cells #[.int .u8 x] 5)) := by
  subst hx
  have h := run_convert_bytes_back (P := Try.prog) (wx.alloc (.cells #[.int .u8 (c.toNat : Int)] 5)) 63 9 5 ⟨wx.heap.size, 0, none⟩ 1 [c] Try.underlying63 Try.underlying5 Try.underlying9
    (fun j hj => by
      have h0 : j = 0 := by simpa using hj
      subst h0
      exact World.news_of_block (cs := #[.int .u8 (c.toNat : Int)]) (heap_alloc_new wx _) 0 _ rfl)
  exact h

theorem byte_small {m : Nat} (h : m < 128) : (m : Int) = ((UInt8.ofNat m).toNat : Int) := by
  have e : (UInt8.ofNat m).toNat = m := by simp [UInt8.toNat_ofNat']; omega
  rw [e]
theorem byte_great (m : Nat) : 128 + (m : Int) % 128 = ((UInt8.ofNat (128 + m % 128)).toNat : Int) := by
  have e : (UInt8.ofNat (128 + m % 128)).toNat = 128 + m % 128 := by simp [UInt8.toNat_ofNat']; omega
  rw [e]
  omega

theorem join_bytes (a b : List UInt8) : (⟨a.toArray⟩ : ByteArray) ++ (⟨b.toArray⟩ : ByteArray) = ⟨(a ++ b).toArray⟩ := by
  apply ByteArray.ext
  simp [ByteArray.data_append]
theorem join_str (a : List UInt8) (s : ByteArray) : (⟨a.toArray⟩ : ByteArray) ++ s = ⟨(a ++ s.data.toList).toArray⟩ := by
  apply ByteArray.ext
  simp [ByteArray.data_append]
theorem ret_join (a : List UInt8) (c : UInt8) : Ending.returned (.string ((⟨a.toArray⟩ : ByteArray) ++ (⟨#[c]⟩ : ByteArray))) = .returned (.string ⟨(a ++ [c]).toArray⟩) := by
  rw [show (⟨#[c]⟩ : ByteArray) = ⟨[c].toArray⟩ from rfl, join_bytes]









end Go.Proofs.Ytdngehfebmaegaa.Sty
