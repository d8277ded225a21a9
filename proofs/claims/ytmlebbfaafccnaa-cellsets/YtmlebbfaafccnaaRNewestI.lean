/-
  The walk of Newest (things: int).
-/
import Derived.Test.YtmlebbfaafccnaaRRowI
namespace Go.Proofs.Ytmlebbfaafccnaa.Cel.I
open Go.RowKit

/-- The greatest version of all, at least 0. -/
def newest (R : List (Int × Int)) : Int := R.foldl (fun m x => if m < x.2 then x.2 else m) 0

theorem newest_take (R : List (Int × Int)) (k : Nat) (hk : k < R.length) : newest (R.take (k + 1)) = if newest (R.take k) < R[k]!.2 then R[k]!.2 else newest (R.take k) := by
  rw [List.take_succ_eq_append_getElem hk, getElem!_pos R k hk]
  unfold newest
  rw [List.foldl_append]
  rfl

section
variable {w w' : World} {b g : Nat} {R : List (Int × Int)}

set_option maxHeartbeats 800000 in
set_option maxRecDepth 100000 in
theorem newest_yes (h : RowAt w b g R) :
    Calls Try.prog 15 #[.pointer (some ⟨b, 0, none⟩)] w fun e w' => e = .returned (.int .i64 (newest R)) ∧ w' = w := by
  have c0 := h.sl
  have hs := h.short
  have HR := Hid.mk h
  clear h
  go_enter Try.func15, Try.ntmps15
  go_wp2_with fail
  refine (len_yes HR.out).mono ?_
  rintro e w1 ⟨rfl, hw⟩
  rw [hw]
  clear hw w1
  go_wp2
  go_loopw [3, 4, 7] (fun nw _ idx wr => ∃ k : Nat, k ≤ R.length ∧ idx = .int .i64 k ∧ nw = .int .i64 (newest (R.take k)) ∧ wr = w) (fun _ _ idx _ => R.length - (intOf idx).toNat)
  case atStart => exact ⟨0, Nat.zero_le _, rfl, rfl, rfl⟩
  case round =>
    obtain ⟨k, hk, rfl, rfl, hw⟩ := hrel
    rw [hw]
    clear hw
    by_cases hlt : k < R.length
    · have c1 := HR.out.ver k hlt
      have hn := newest_take R k hlt
      obtain ⟨A, hA⟩ : ∃ A, A = newest (R.take k) := ⟨_, rfl⟩
      obtain ⟨B, hB⟩ : ∃ B, B = R[k]!.2 := ⟨_, rfl⟩
      obtain ⟨C, hC⟩ : ∃ C, C = newest (R.take (k + 1)) := ⟨_, rfl⟩
      rw [← hA, ← hB, ← hC] at hn
      rw [← hA]
      rw [← hB] at c1
      have HC := Hid.mk hC
      have hn2 : (if A < B then B else A) = C := hn.symm
      clear hA hB hC hn
      go_wp2
      go_roundw
      case rel => exact ⟨k + 1, by omega, by go_num, by rw [← HC.out], trivial⟩
      case measure => simp [intOf]; omega
    · have hkK : k = R.length := by omega
      rw [hkK, List.take_length]
      obtain ⟨A, hA⟩ : ∃ A, A = newest R := ⟨_, rfl⟩
      rw [← hA]
      have HA := Hid.mk hA
      clear hkK hA
      go_wp2
      go_ret
      exact ⟨by rw [← HA.out]; rfl, rfl⟩

set_option maxHeartbeats 400000 in
set_option maxRecDepth 100000 in
theorem newest_nil (w : World) : Calls Try.prog 15 #[.pointer none] w fun e w' => e = .returned (.int .i64 0) ∧ w' = w := by
  go_enter Try.func15, Try.ntmps15
  go_wp2_with fail
  refine (len_nil _).mono ?_
  rintro e w1 ⟨rfl, hw⟩
  rw [hw]
  clear hw w1
  go_wp2
  go_loopw [3, 4, 7] (fun nw _ idx wr => idx = .int .i64 0 ∧ nw = .int .i64 0 ∧ wr = w) (fun _ _ _ _ => 0)
  case atStart => exact ⟨rfl, rfl, rfl⟩
  case round =>
    obtain ⟨rfl, rfl, hw⟩ := hrel
    rw [hw]
    go_wp2
    go_ret
    exact ⟨rfl, rfl⟩

end

end Go.Proofs.Ytmlebbfaafccnaa.Cel.I
