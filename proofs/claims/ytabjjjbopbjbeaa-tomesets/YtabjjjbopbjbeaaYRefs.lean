/-
  The walks of the document's own answers: Wide, Nat, Int and Text of countermandref01.
-/
import Derived.Test.YtabjjjbopbjbeaaYTexts
namespace Go.Proofs.Ytabjjjbopbjbeaa.Sty
open Go.RowKit

set_option maxRecDepth 100000 in
/-- 'string([]byte{c})'. -/
theorem conv_one (wx : World) (x : Int) (c : UInt8) (hx : x = (c.toNat : Int)) :
    (convert 61 9 (.slice (some ⟨wx.heap.size, 0, none⟩) 1 1)).run Try.prog (wx.alloc (.cells #[.int .u8 x] 5)) = .ok (.string ⟨#[c]⟩) (wx.alloc (.cells #[.int .u8 x] 5)) := by
  subst hx
  have h := run_convert_bytes_back (P := Try.prog) (wx.alloc (.cells #[.int .u8 (c.toNat : Int)] 5)) 61 9 5 ⟨wx.heap.size, 0, none⟩ 1 [c] Try.underlying61 Try.underlying5 Try.underlying9
    (fun j hj => by
      have h0 : j = 0 := by simpa using hj
      subst h0
      exact World.news_of_block (cs := #[.int .u8 (c.toNat : Int)]) (heap_alloc_new wx _) 0 _ rfl)
  exact h

theorem byte_small {m : Nat} (h : m < 128) : (m : Int) = ((UInt8.ofNat m).toNat : Int) := by
  have e : (UInt8.ofNat m).toNat = m := by simp [UInt8.toNat_ofNat']; omega
  rw [e]
theorem byte_great (m : Nat) : 128 + (m : Int) % 128 = ((UInt8.ofNat (128 + m % 128)).toNat : Int) := by
  have e : (UInt8.ofNat (128 + m % 128)).toNat = 128 + m % 128 := by simp [UInt8.toNat_ofNat']; omega
  rw [e]
  omega

theorem join_bytes (a b : List UInt8) : (⟨a.toArray⟩ : ByteArray) ++ (⟨b.toArray⟩ : ByteArray) = ⟨(a ++ b).toArray⟩ := by
  apply ByteArray.ext
  simp [ByteArray.data_append]
theorem join_str (a : List UInt8) (s : ByteArray) : (⟨a.toArray⟩ : ByteArray) ++ s = ⟨(a ++ s.data.toList).toArray⟩ := by
  apply ByteArray.ext
  simp [ByteArray.data_append]
theorem ret_join (a : List UInt8) (c : UInt8) : Ending.returned (.string ((⟨a.toArray⟩ : ByteArray) ++ (⟨#[c]⟩ : ByteArray))) = .returned (.string ⟨(a ++ [c]).toArray⟩) := by
  rw [show (⟨#[c]⟩ : ByteArray) = ⟨[c].toArray⟩ from rfl, join_bytes]

set_option maxHeartbeats 400000 in
set_option maxRecDepth 100000 in
theorem refWide_any (w : World) (n : Nat) (hn : n < 18446744073709551616) :
    Calls Try.prog 42 #[.int .u64 n] w fun e w' => e = .returned (.string ⟨(wide n).toArray⟩) ∧ Below w.heap.size w w' := by
  go_enter Try.func42, Try.ntmps42
  go_wp2
  go_loopw [0, 3] (fun x s wr => ∃ (m : Nat) (ds : List UInt8), x = .int .u64 m ∧ m < 18446744073709551616 ∧ s = .string ⟨ds.toArray⟩ ∧ wide n = ds ++ wide m ∧ Below w.heap.size w wr) (fun x _ _ => (intOf x).toNat)
  case atStart => exact ⟨n, [], rfl, hn, rfl, rfl, Below.refl _ _⟩
  case round =>
    obtain ⟨m, ds, rfl, hm, rfl, hds, hb⟩ := hrel
    have HD := Hid.mk hds
    clear hds
    have hdl : ds.length ≤ 10 := by
      have h1 := wide_len hn
      rw [HD.out, List.length_append] at h1
      omega
    by_cases hlt : m < 128
    · obtain ⟨c, hc⟩ : ∃ c, c = UInt8.ofNat m := ⟨_, rfl⟩
      have hk := conv_one wr (m : Int) c (by rw [hc]; exact byte_small hlt)
      have HC := Hid.mk hc
      clear hc
      go_wp2
      go_ret
      rw [HD.out, wide_small hlt, ← HC.out]
      exact ⟨ret_join ds c, hb.alloc hb.size _⟩
    · obtain ⟨c, hc⟩ : ∃ c, c = UInt8.ofNat (128 + m % 128) := ⟨_, rfl⟩
      have hk := conv_one wr (128 + (m : Int) % 128) c (by rw [hc]; exact byte_great m)
      have HC := Hid.mk hc
      clear hc
      go_wp2
      go_roundw
      case rel => exact ⟨m / 128, ds ++ [c], by go_num, by omega, congrArg Value.string (join_bytes ds [c]), by rw [HD.out, wide_great hlt, List.append_assoc, HC.out]; rfl, hb.alloc hb.size _⟩
      case measure => simp [intOf]; omega

set_option maxRecDepth 100000 in
theorem refWide_int (w : World) (x : Int) (h0 : 0 ≤ x) (hx : x < 18446744073709551616) :
    Calls Try.prog 42 #[.int .u64 x] w fun e w' => e = .returned (.string ⟨(wide x.toNat).toArray⟩) ∧ Below w.heap.size w w' := by
  obtain ⟨n, rfl⟩ := Int.eq_ofNat_of_zero_le h0
  rw [Int.toNat_natCast]
  exact refWide_any w n (by omega)

set_option maxHeartbeats 400000 in
set_option maxRecDepth 100000 in
theorem refNat_any (w : World) (x : Int) (h1 : x ≤ 9223372036854775807) :
    Calls Try.prog 29 #[.int .i64 x] w fun e w' => e = .returned (.string ⟨(natB x).toArray⟩) ∧ Below w.heap.size w w' := by
  by_cases hx : x < 0
  · have e : natB x = [] := by unfold natB; rw [if_pos hx]
    rw [e]
    clear e
    go_enter Try.func29, Try.ntmps29
    go_wp2
    go_ret
    exact ⟨rfl, Below.refl _ _⟩
  · have e : natB x = wide x.toNat := by unfold natB; rw [if_neg hx]
    rw [e]
    clear e
    go_enter Try.func29, Try.ntmps29
    go_wp2_with fail
    refine (refWide_int _ x (by omega) (by omega)).mono ?_
    rintro e w1 ⟨rfl, hb⟩
    go_wp2
    go_ret
    exact ⟨rfl, hb⟩

set_option maxHeartbeats 400000 in
set_option maxRecDepth 100000 in
theorem refText_any (w : World) (s : ByteArray) (hs : s.size ≤ 1099511627776) :
    Calls Try.prog 30 #[.string s] w fun e w' => e = .returned (.string ⟨(textB s).toArray⟩) ∧ Below w.heap.size w w' := by
  have hl : (wide s.size).length ≤ 10 := wide_len (by omega)
  go_enter Try.func30, Try.ntmps30
  go_wp2_with fail
  refine (refNat_any _ (s.size : Int) (by omega)).mono ?_
  rintro e w1 ⟨rfl, hb⟩
  rw [natB_len]
  go_wp2
  go_ret
  exact ⟨congrArg (fun x => Ending.returned (.string x)) (join_str (wide s.size) s), hb⟩

end Go.Proofs.Ytabjjjbopbjbeaa.Sty
