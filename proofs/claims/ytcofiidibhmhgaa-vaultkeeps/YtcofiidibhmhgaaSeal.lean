/-
  The walk of 'seal': the four bytes of a text's sum, the lowest first.
-/
import Derived.Test.YtcofiidibhmhgaaSums
namespace Go.Proofs.Ytcofiidibhmhgaa
open Go.RowKit

/-- Four cells, the first k of them laid. -/
def tailAt (c : Nat) : Nat → Array Value
  | 0 => #[.int .u8 0, .int .u8 0, .int .u8 0, .int .u8 0]
  | 1 => #[.int .u8 ((c : Int) % 256), .int .u8 0, .int .u8 0, .int .u8 0]
  | 2 => #[.int .u8 ((c : Int) % 256), .int .u8 ((c : Int) / 256 % 256), .int .u8 0, .int .u8 0]
  | 3 => #[.int .u8 ((c : Int) % 256), .int .u8 ((c : Int) / 256 % 256), .int .u8 ((c : Int) / 65536 % 256), .int .u8 0]
  | _ => #[.int .u8 ((c : Int) % 256), .int .u8 ((c : Int) / 256 % 256), .int .u8 ((c : Int) / 65536 % 256), .int .u8 ((c : Int) / 16777216)]

theorem tail0 (c : Nat) : tailAt c 0 = #[.int .u8 0, .int .u8 0, .int .u8 0, .int .u8 0] := rfl
theorem tail1 (c : Nat) : tailAt c 1 = #[.int .u8 ((c : Int) % 256), .int .u8 0, .int .u8 0, .int .u8 0] := rfl
theorem tail2 (c : Nat) : tailAt c 2 = #[.int .u8 ((c : Int) % 256), .int .u8 ((c : Int) / 256 % 256), .int .u8 0, .int .u8 0] := rfl
theorem tail3 (c : Nat) : tailAt c 3 = #[.int .u8 ((c : Int) % 256), .int .u8 ((c : Int) / 256 % 256), .int .u8 ((c : Int) / 65536 % 256), .int .u8 0] := rfl
theorem tail4 (c : Nat) : tailAt c 4 = #[.int .u8 ((c : Int) % 256), .int .u8 ((c : Int) / 256 % 256), .int .u8 ((c : Int) / 65536 % 256), .int .u8 ((c : Int) / 16777216)] := rfl

theorem Try.underlying70' : Try.prog.underlying 70 = some (.slice 5) := by kernel_rfl

theorem conv_cells (w : World) (b cap : Nat) (bs : List UInt8) (h : ∀ j (hj : j < bs.length), w.cell? ⟨b, j, none⟩ = some (.int .u8 (bs[j].toNat : Int))) :
    (convert 70 9 (.slice (some ⟨b, 0, none⟩) bs.length cap)).run Try.prog w = .ok (.string ⟨bs.toArray⟩) w := by
  refine run_convert_bytes_back (P := Try.prog) w 70 9 5 ⟨b, 0, none⟩ cap bs Try.underlying70' Try.underlying5 Try.underlying9 fun j hj => ?_
  have h2 : (⟨b, 0, none⟩ : Addr).add j = ⟨b, j, none⟩ := by
    cases j <;> simp [Addr.add]
  exact (congrArg w.cell? h2).trans (h j hj)

theorem of_byte {x : Nat} : ((UInt8.ofNat (x % 256)).toNat : Int) = ((x % 256 : Nat) : Int) := by
  congr 1
  simp [UInt8.toNat_ofNat']

theorem conv_four (w : World) (c : Nat) (hc : c < 4294967296) (t : TypeId) :
    (convert 70 9 (.slice (some ⟨w.heap.size, 0, none⟩) 4 4)).run Try.prog (w.alloc (.cells #[.int .u8 ((c : Int) % 256), .int .u8 ((c : Int) / 256 % 256), .int .u8 ((c : Int) / 65536 % 256), .int .u8 ((c : Int) / 16777216)] t)) =
      .ok (.string ⟨(le 4 c).toArray⟩) (w.alloc (.cells #[.int .u8 ((c : Int) % 256), .int .u8 ((c : Int) / 256 % 256), .int .u8 ((c : Int) / 65536 % 256), .int .u8 ((c : Int) / 16777216)] t)) := by
  have e0 : ((c : Int) % 256) = ((c % 256 : Nat) : Int) := by omega
  have e1 : ((c : Int) / 256 % 256) = ((c / 256 % 256 : Nat) : Int) := by omega
  have e2 : ((c : Int) / 65536 % 256) = ((c / 256 / 256 % 256 : Nat) : Int) := by omega
  have e3 : ((c : Int) / 16777216) = ((c / 256 / 256 / 256 % 256 : Nat) : Int) := by omega
  rw [e0, e1, e2, e3]
  refine conv_cells _ _ 4 (le 4 c) fun j hj => ?_
  have h4 : j = 0 ∨ j = 1 ∨ j = 2 ∨ j = 3 := by rw [le_length] at hj; omega
  rcases h4 with rfl | rfl | rfl | rfl <;> simp [le]

set_option maxHeartbeats 400000 in
theorem seal_any (w : World) (s : ByteArray) (hsz : s.size ≤ 1099511627776) :
    Calls Try.prog 62 #[.string s] w fun e w' => e = .returned (.string ⟨(le 4 (sumN s.data.toList)).toArray⟩) ∧ Below w.heap.size w w' := by
  have hc := sumN_lt s.data.toList
  go_enter Try.func62, Try.ntmps62
  go_wp2_with fail
  refine (sum_any _ s hsz).mono ?_
  rintro e w1 ⟨rfl, rfl⟩
  obtain ⟨c, hc1⟩ : ∃ c, c = sumN s.data.toList := ⟨_, rfl⟩
  rw [← hc1] at hc ⊢
  have HC := Hid.mk hc1
  clear hc1
  go_wp2_with fail
  go_loopw [5, 8] (fun _ i wr => ∃ k : Nat, k ≤ 4 ∧ i = .int .i64 k ∧ wr = w1.alloc (.cells (tailAt c k) 106)) (fun _ i _ => 4 - (intOf i).toNat)
  case atStart => exact ⟨0, by omega, rfl, rfl⟩
  case round =>
    obtain ⟨k, hk, rfl, rfl⟩ := hrel
    by_cases hlt : k < 4
    · have h4 : k = 0 ∨ k = 1 ∨ k = 2 ∨ k = 3 := by omega
      rcases h4 with rfl | rfl | rfl | rfl
      · rw [tail0]
        go_wp2
        go_roundw
        case rel => exact ⟨1, by omega, rfl, by rw [tail1]⟩
        case measure => simp [intOf]
      · rw [tail1]
        go_wp2
        go_roundw
        case rel => exact ⟨2, by omega, rfl, by rw [tail2]⟩
        case measure => simp [intOf]
      · rw [tail2]
        go_wp2
        go_roundw
        case rel => exact ⟨3, by omega, rfl, by rw [tail3]⟩
        case measure => simp [intOf]
      · rw [tail3]
        go_wp2
        go_roundw
        case rel => exact ⟨4, by omega, rfl, by rw [tail4]⟩
        case measure => simp [intOf]
    · have hk4 : k = 4 := by omega
      subst hk4
      rw [tail4]
      have hk4 := conv_four w1 c hc 106
      have HB := Hid.mk ((Below.refl w1.heap.size w1).alloc (Nat.le_refl _) (.cells #[.int .u8 ((c : Int) % 256), .int .u8 ((c : Int) / 256 % 256), .int .u8 ((c : Int) / 65536 % 256), .int .u8 ((c : Int) / 16777216)] 106))
      go_wp2
      go_ret
      exact ⟨by rw [← HC.out]; rfl, HB.out⟩

end Go.Proofs.Ytcofiidibhmhgaa
