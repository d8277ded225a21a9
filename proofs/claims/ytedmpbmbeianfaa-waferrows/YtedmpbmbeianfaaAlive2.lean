/-
  The law's own 'alive' returns true, and nothing that was there has turned.
-/
import Derived.Test.YtedmpbmbeianfaaCloses
namespace Go.Proofs.Ytedmpbmbeianfaa
open Go.RowKit

theorem known_sum : sumN [49, 50, 51, 52, 53, 54, 55, 56, 57] = 3808858755 := by decide +kernel
theorem known_len : (recB [108, 111, 97, 100]).length = 10 := recB_length (by decide)

set_option maxHeartbeats 400000 in
theorem alive_any (w : World) :
    Calls Try.prog 9 #[] w fun e w' => e = .returned (.bool true) ∧ Below w.heap.size w w' := by
  go_enter Try.func9, Try.ntmps9
  go_wp2_with fail
  refine (sum_any _ _ (by decide)).mono ?_
  rintro e w1 ⟨rfl, rfl⟩
  rw [known_sum]
  go_wp2_with fail
  refine (close_any _ _ (by decide)).mono ?_
  rintro e w2 ⟨rfl, hb⟩
  have hs : (⟨(recB [108, 111, 97, 100]).toArray⟩ : ByteArray).size = 10 := by rw [str_size, known_len]
  obtain ⟨r, hr⟩ : ∃ r : ByteArray, r = ⟨(recB [108, 111, 97, 100]).toArray⟩ := ⟨_, rfl⟩
  rw [← hr] at hs ⊢
  clear hr
  go_wp2
  go_ret
  exact ⟨rfl, hb⟩

end Go.Proofs.Ytedmpbmbeianfaa
