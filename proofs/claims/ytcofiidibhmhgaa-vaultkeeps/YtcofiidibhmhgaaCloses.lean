/-
  Records as lists of bytes, and the walks of Close, the program's and the document's: the same bytes, for every load.
-/
import Derived.Test.YtcofiidibhmhgaaSeal
namespace Go.Proofs.Ytcofiidibhmhgaa
open Go.RowKit

/-- Two bytes for a length, the higher one first, and the load behind it. -/
def bodyB (l : List UInt8) : List UInt8 := UInt8.ofNat (l.length / 256) :: UInt8.ofNat (l.length % 256) :: l
/-- A load's record. -/
def recB (l : List UInt8) : List UInt8 := if 1024 < l.length then [] else bodyB l ++ le 4 (sumN (bodyB l))

theorem bodyB_length (l : List UInt8) : (bodyB l).length = l.length + 2 := rfl
theorem recB_length {l : List UInt8} (h : ¬ 1024 < l.length) : (recB l).length = l.length + 6 := by
  unfold recB
  rw [if_neg h, List.length_append, le_length, bodyB_length]

theorem join_bytes (a b : List UInt8) : (⟨a.toArray⟩ : ByteArray) ++ (⟨b.toArray⟩ : ByteArray) = ⟨(a ++ b).toArray⟩ := by
  apply ByteArray.ext
  simp [ByteArray.data_append]
theorem join_str (a : List UInt8) (s : ByteArray) : (⟨a.toArray⟩ : ByteArray) ++ s = ⟨(a ++ s.data.toList).toArray⟩ := by
  apply ByteArray.ext
  simp [ByteArray.data_append]
theorem size_list (s : ByteArray) : s.data.toList.length = s.size := by simp
theorem str_list (l : List UInt8) : (⟨l.toArray⟩ : ByteArray).data.toList = l := by simp
theorem str_size (l : List UInt8) : (⟨l.toArray⟩ : ByteArray).size = l.length := by
  rw [← size_list, str_list]

set_option maxRecDepth 100000 in
theorem conv_two (w : World) (x y : Int) (p q : Nat) (hx : x = ((p % 256 : Nat) : Int)) (hy : y = ((q % 256 : Nat) : Int)) (t : TypeId) :
    (convert 70 9 (.slice (some ⟨w.heap.size, 0, none⟩) 2 2)).run Try.prog (w.alloc (.cells #[.int .u8 x, .int .u8 y] t)) =
      .ok (.string ⟨#[UInt8.ofNat (p % 256), UInt8.ofNat (q % 256)]⟩) (w.alloc (.cells #[.int .u8 x, .int .u8 y] t)) := by
  rw [hx, hy]
  refine conv_cells _ _ 2 [UInt8.ofNat (p % 256), UInt8.ofNat (q % 256)] fun j hj => ?_
  have h4 : j = 0 ∨ j = 1 := by simp at hj; omega
  rcases h4 with rfl | rfl <;> simp

set_option maxHeartbeats 400000 in
set_option maxRecDepth 100000 in
theorem close_any (w : World) (s : ByteArray) (hsz : s.size ≤ 1099511627776) :
    Calls Try.prog 47 #[.string s] w fun e w' => e = .returned (.string ⟨(recB s.data.toList).toArray⟩) ∧ Below w.heap.size w w' := by
  have hl := size_list s
  by_cases hlong : 1024 < s.size
  · have HR : Hid (recB s.data.toList = []) := Hid.mk (by unfold recB; rw [if_pos (by omega)])
    go_enter Try.func47, Try.ntmps47
    go_wp2
    go_ret
    exact ⟨by rw [HR.out]; rfl, Below.refl _ _⟩
  · have HR : Hid (recB s.data.toList = bodyB s.data.toList ++ le 4 (sumN (bodyB s.data.toList))) := Hid.mk (by unfold recB; rw [if_neg (by omega)])
    obtain ⟨hd, hhd⟩ : ∃ hd : ByteArray, hd = ⟨#[UInt8.ofNat (s.size / 256 % 256), UInt8.ofNat (s.size % 256)]⟩ := ⟨_, rfl⟩
    have hk2 := conv_two w ((s.size : Int) / 256) ((s.size : Int) % 256) (s.size / 256) s.size (by omega) (by omega) 5
    rw [← hhd] at hk2
    have hhs : hd.size = 2 := by rw [hhd]; rfl
    have hjoin : (hd ++ s).data.toList = bodyB s.data.toList := by
      rw [hhd]
      have e : s.size / 256 % 256 = s.size / 256 := by omega
      rw [e]
      simp [bodyB]
    have hjs : (hd ++ s).size = s.size + 2 := by rw [← size_list, hjoin, bodyB_length, hl]
    have HJ := Hid.mk hjoin
    have HW := Hid.mk ((Below.refl w.heap.size w).alloc (Nat.le_refl _) (.cells #[.int .u8 ((s.size : Int) / 256), .int .u8 ((s.size : Int) % 256)] 5))
    clear hl hjoin hhd
    go_enter Try.func47, Try.ntmps47
    go_wp2_with fail
    refine (seal_any _ _ (by omega)).mono ?_
    rintro e w1 ⟨rfl, hb1⟩
    have HB2 : Hid (Below w.heap.size w w1) := Hid.mk (HW.out.trans (hb1.mono (by simp)))
    clear hb1
    rw [HJ.out]
    obtain ⟨tl, htl⟩ : ∃ tl : ByteArray, tl = ⟨(le 4 (sumN (bodyB s.data.toList))).toArray⟩ := ⟨_, rfl⟩
    have hts : tl.size = 4 := by rw [htl, str_size, le_length]
    rw [← htl]
    have HT := Hid.mk htl
    clear htl
    go_wp2
    go_ret
    refine ⟨?_, HB2.out⟩
    rw [HR.out, ← join_bytes, ← HT.out]
    refine congrArg (fun z => Ending.returned (Value.string (z ++ tl))) ?_
    apply ByteArray.ext
    rw [← HJ.out]

set_option maxHeartbeats 400000 in
set_option maxRecDepth 100000 in
theorem refClose_any (w : World) (s : ByteArray) (hsz : s.size ≤ 1099511627776) :
    Calls Try.prog 20 #[.string s] w fun e w' => e = .returned (.string ⟨(recB s.data.toList).toArray⟩) ∧ Below w.heap.size w w' := by
  have hl := size_list s
  by_cases hlong : 1024 < s.size
  · have HR : Hid (recB s.data.toList = []) := Hid.mk (by unfold recB; rw [if_pos (by omega)])
    go_enter Try.func20, Try.ntmps20
    go_wp2
    go_ret
    exact ⟨by rw [HR.out]; rfl, Below.refl _ _⟩
  · have HR : Hid (recB s.data.toList = bodyB s.data.toList ++ le 4 (sumN (bodyB s.data.toList))) := Hid.mk (by unfold recB; rw [if_neg (by omega)])
    obtain ⟨hd, hhd⟩ : ∃ hd : ByteArray, hd = ⟨#[UInt8.ofNat (s.size / 256 % 256), UInt8.ofNat (s.size % 256)]⟩ := ⟨_, rfl⟩
    have hk2 := conv_two w ((s.size : Int) / 256) ((s.size : Int) % 256) (s.size / 256) s.size (by omega) (by omega) 5
    rw [← hhd] at hk2
    have hhs : hd.size = 2 := by rw [hhd]; rfl
    have hjoin : (hd ++ s).data.toList = bodyB s.data.toList := by
      rw [hhd]
      have e : s.size / 256 % 256 = s.size / 256 := by omega
      rw [e]
      simp [bodyB]
    have hjs : (hd ++ s).size = s.size + 2 := by rw [← size_list, hjoin, bodyB_length, hl]
    have HJ := Hid.mk hjoin
    have HW := Hid.mk ((Below.refl w.heap.size w).alloc (Nat.le_refl _) (.cells #[.int .u8 ((s.size : Int) / 256), .int .u8 ((s.size : Int) % 256)] 5))
    clear hl hjoin hhd
    go_enter Try.func20, Try.ntmps20
    go_wp2_with fail
    refine (refSum_any _ _ (by omega)).mono ?_
    rintro e w1 ⟨rfl, rfl⟩
    rw [HJ.out]
    have hc := sumN_lt (bodyB s.data.toList)
    obtain ⟨c, hc1⟩ : ∃ c, c = sumN (bodyB s.data.toList) := ⟨_, rfl⟩
    rw [← hc1] at hc ⊢
    have hk4 := conv_four (w.alloc (.cells #[.int .u8 ((s.size : Int) / 256), .int .u8 ((s.size : Int) % 256)] 5)) c hc 5
    rw [World.size_alloc] at hk4
    obtain ⟨tl, htl⟩ : ∃ tl : ByteArray, tl = ⟨(le 4 c).toArray⟩ := ⟨_, rfl⟩
    have hts : tl.size = 4 := by rw [htl, str_size, le_length]
    rw [← htl] at hk4
    rw [hc1] at htl
    have HT := Hid.mk htl
    have HW2 := Hid.mk (HW.out.alloc (by simp) (.cells #[.int .u8 ((c : Int) % 256), .int .u8 ((c : Int) / 256 % 256), .int .u8 ((c : Int) / 65536 % 256), .int .u8 ((c : Int) / 16777216)] 5))
    clear htl hc1
    go_wp2
    go_ret
    refine ⟨?_, HW2.out⟩
    rw [HR.out, ← join_bytes, ← HT.out]
    refine congrArg (fun z => Ending.returned (Value.string (z ++ tl))) ?_
    apply ByteArray.ext
    rw [← HJ.out]

end Go.Proofs.Ytcofiidibhmhgaa
