/-
  The document's At.
-/
import Derived.Test.YtdngehfebmaegaaFOne
namespace Go.Proofs.Ytdngehfebmaegaa.Fil
open Go.RowKit Go.Deep

set_option maxHeartbeats 1600000 in
set_option maxRecDepth 100000 in
theorem refAt_any (is : Bool) (s : ByteArray) (hs : s.size ≤ 32) (k : Int) (w : World) : Calls Try.prog 64 #[.agg #[.bool is, .string s], .int .i64 k] w fun e w' => e = .returned (.int .i64 (atI s k)) ∧ Below w.heap.size w w' := by
  have hb := (Below.refl w.heap.size w).alloc (Nat.le_refl _) (.cells #[.bool is, .string s] 36)
  have c1 : (w.alloc (.cells #[.bool is, .string s] 36)).cell? ⟨w.heap.size, 1, none⟩ = some (.string s) := cell_at (heap_new w _) rfl
  obtain ⟨w0, hw0⟩ : ∃ w0, w0 = w.alloc (.cells #[.bool is, .string s] 36) := ⟨_, rfl⟩
  rw [← hw0] at hb c1
  have HB := Hid.mk hb
  have HW := Hid.mk hw0
  clear hb hw0
  go_enter Try.func64, Try.ntmps64
  go_wp2_with fail
  rw [← HW.out]
  clear HW
  go_loopw [5] (fun iv wr => ∃ j : Nat, j ≤ s.size ∧ iv = .int .i64 j ∧ wr = w0 ∧ (k < 0 ∨ (j : Int) ≤ k)) (fun iv _ => s.size - (intOf iv).toNat)
  case atStart => exact ⟨0, Nat.zero_le _, rfl, rfl, by omega⟩
  case round =>
    obtain ⟨j, hj, rfl, rfl, hjk⟩ := hrel
    by_cases hlt : j < s.size
    · have hlt2 : (j : Int) < (s.size : Int) := by omega
      have hj0 : (0 : Int) ≤ (j : Int) := by omega
      by_cases he : (j : Int) = k
      · have he2 : ((j : Int) == k) = true := by simpa using he
        have e1 : atI s k = (s[j].toNat : Int) := by
          rw [← he, atI_yes s j hlt, atz_get _ _ (by rw [list_size]; exact hlt), Array.getElem_toList]
          rfl
        have wz : wrap64 (s[j].toNat : Int) = (s[j].toNat : Int) := wrap_u8 _
        have HE := Hid.mk e1
        clear he e1 hjk
        go_wp2
        go_ret
        exact ⟨by rw [HE.out]; exact congrArg (fun x => Ending.returned (Value.int .i64 x)) wz, HB.out⟩
      · have he2 : ((j : Int) == k) = false := by simpa using he
        clear he
        go_wp2
        go_roundw
        case rel => exact ⟨j + 1, hlt, by go_num, trivial, by simp at he2; omega⟩
        case measure => simp [intOf]; omega
    · have hlt2 : ¬ (j : Int) < (s.size : Int) := by omega
      have e1 : atI s k = -1 := atI_no s k (by omega)
      have HE := Hid.mk e1
      clear e1 hjk
      go_wp2
      go_ret
      exact ⟨by rw [HE.out]; rfl, HB.out⟩

end Go.Proofs.Ytdngehfebmaegaa.Fil
