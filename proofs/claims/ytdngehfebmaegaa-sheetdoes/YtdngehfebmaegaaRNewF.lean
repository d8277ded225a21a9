/-
  The walk of New, of six files that aren't there.
-/
import Derived.Test.YtdngehfebmaegaaRRowF
namespace Go.Proofs.Ytdngehfebmaegaa.Cel.F
open Go.RowKit

/-- No files. -/
def none6 : List ((Bool × ByteArray) × Int) := List.replicate 6 ((false, ⟨#[]⟩), 0)

theorem none6_length : none6.length = 6 := rfl
theorem none6_get (k : Nat) (h : k < 6) : none6[k]! = ((false, ⟨#[]⟩), 0) := by
  rw [getElem!_pos none6 k h]
  exact List.getElem_replicate _
theorem none6_set (k : Nat) : none6.set k ((false, ⟨#[]⟩), 0) = none6 := List.set_replicate_self

set_option maxRecDepth 100000 in
theorem Try.infoT : (Try.prog.info? 104).map (fun i => (i.zero, i.size, i.bytes)) = some (some (.agg #[.bool false, .string ⟨#[]⟩, .int .i64 0]), 3, 32) := by kernel_rfl

theorem made18 : madeCells #[.bool false, .string ⟨#[]⟩, .int .i64 0] 18 = (thC none6).toArray := by kernel_rfl

set_option maxRecDepth 100000 in
theorem run_mk (w : World) :
    (Instr.makeSlice 105 (.int .i64 6) (.int .i64 6)).run Try.prog w = .ok (.slice (some ⟨w.heap.size, 0, none⟩) 6 6) (w.alloc (.cells (thC none6).toArray 104)) := by
  obtain ⟨i0, hi, hz0, hz1, hz2⟩ := info_parts Try.infoT
  have h := run_make (P := Try.prog) w 105 104 i0 _ Try.underlying105 hi hz0 .i64 .i64 6 6 (by omega) (Int.le_refl _) (by rw [hz2]; omega) (by omega)
  rw [hz1] at h
  rw [h]
  exact congrArg (fun x => Result.ok (Value.slice (some ⟨w.heap.size, 0, none⟩) 6 6) (w.alloc (.cells x 104))) made18

set_option maxHeartbeats 1600000 in
set_option maxRecDepth 100000 in
theorem new_six (w : World) :
    Calls Try.prog 47 #[.int .i64 6, .agg #[.bool false, .string ⟨#[]⟩]] w fun e w' => e = .returned (.pointer (some ⟨w.heap.size + 2, 0, none⟩)) ∧ RowAt w' (w.heap.size + 2) (w.heap.size + 1) none6 ∧ Below w.heap.size w w' ∧ w'.heap.size = w.heap.size + 3 := by
  have mk := run_mk (w.alloc (.cells #[.bool false, .string ⟨#[]⟩] 23))
  rw [World.size_alloc] at mk
  obtain ⟨w1, hw1⟩ : ∃ w1, w1 = ((w.alloc (.cells #[.bool false, .string ⟨#[]⟩] 23)).alloc (.cells (thC none6).toArray 104)).alloc (.cells #[.slice (some ⟨w.heap.size + 1, 0, none⟩) 6 6] 107) := ⟨_, rfl⟩
  have hz1 : w1.heap.size = w.heap.size + 3 := by rw [hw1]; simp
  have hb1 : Below w.heap.size w w1 := by rw [hw1]; exact (((Below.refl _ w).alloc (Nat.le_refl _) _).alloc (by simp) _).alloc (by simp; omega) _
  have hr1 : RowAt w1 (w.heap.size + 2) (w.heap.size + 1) none6 := by
    rw [hw1]
    refine ⟨?_, ?_, by decide⟩
    · have h := heap_new ((w.alloc (.cells #[.bool false, .string ⟨#[]⟩] 23)).alloc (.cells (thC none6).toArray 104)) (.cells #[.slice (some ⟨w.heap.size + 1, 0, none⟩) 6 6] 107)
      rw [World.size_alloc, World.size_alloc] at h
      exact h
    · rw [Below.heap_alloc _ _ _ (by simp)]
      have h := heap_new (w.alloc (.cells #[.bool false, .string ⟨#[]⟩] 23)) (.cells (thC none6).toArray 104)
      rw [World.size_alloc] at h
      exact h
  have hx1 : w1.heap[w.heap.size]? = some (.cells #[.bool false, .string ⟨#[]⟩] 23 (0, 0)) := by
    rw [hw1, Below.heap_alloc _ _ _ (by simp; omega), Below.heap_alloc _ _ _ (by simp)]
    exact heap_new _ _
  have HX := Hid.mk hx1
  have hng : w.heap.size + 1 ≠ w.heap.size := by omega
  go_enter Try.func47, Try.ntmps47
  go_wp2_with fail
  rw [← hw1]
  clear mk hw1
  go_wp2_with fail
  obtain ⟨G, hG⟩ : ∃ G, w.heap.size + 1 = G := ⟨_, rfl⟩
  obtain ⟨T, hT⟩ : ∃ T, G + 1 = T := ⟨_, rfl⟩
  obtain ⟨B, hB⟩ : ∃ B, w.heap.size = B := ⟨_, rfl⟩
  have hT2 : w.heap.size + 2 = T := by omega
  have hr2 : RowAt w1 T G none6 := by rw [← hT2, ← hG]; exact hr1
  have hx2 := HX.out
  rw [hB] at hx2 hb1 hz1 ⊢
  have hng2 : G ≠ B := by omega
  have hnt2 : T ≠ B := by omega
  rw [← hB, hG, hT, hB]
  have HT := Hid.mk (show B + 2 = T by omega)
  have HG := Hid.mk (show B + 1 = G by omega)
  clear hr1 hx1 HX hng hG hT hT2
  go_loopw [6, 18] (fun _ idx wr => ∃ k : Nat, k ≤ 6 ∧ idx = .int .i64 k ∧ RowAt wr T G none6 ∧ Below B w wr ∧ wr.heap.size = B + 3 ∧ wr.heap[B]? = some (.cells #[.bool false, .string ⟨#[]⟩] 23 (0, 0))) (fun _ idx _ => 6 - (intOf idx).toNat)
  case atStart => exact ⟨0, Nat.zero_le _, rfl, hr2, hb1, hz1, hx2⟩
  case round =>
    obtain ⟨k, hk, rfl, hr, hb, hz, hx⟩ := hrel
    clear hr2 hb1 hz1 hx2
    by_cases hlt : k < 6
    · have c0 := hr.sl
      rw [none6_length] at c0
      have c1 := hr.is k hlt
      have c2 := hr.val k hlt
      have f1 := hr.fz (k * 3)
      have f2 := hr.fz (k * 3 + 1)
      have x0 : wr.cell? ⟨B, 0, none⟩ = some (.bool false) := cell_at hx rfl
      have x1 : wr.cell? ⟨B, 1, none⟩ = some (.string ⟨#[]⟩) := cell_at hx rfl
      have hs := hr.set0 k hlt (false, ⟨#[]⟩)
      rw [none6_get k hlt] at c1 c2 hs
      rw [none6_set k] at hs
      have HS := Hid.mk hs
      have HB := Hid.mk ((hb.setCell (p := ⟨G, k * 3, none⟩) (show B ≤ G by have := HG.out; omega) (.bool false)).setCell (p := ⟨G, k * 3 + 1, none⟩) (show B ≤ G by have := HG.out; omega) (.string ⟨#[]⟩))
      have HX : Hid (((wr.setCell ⟨G, k * 3, none⟩ (.bool false)).setCell ⟨G, k * 3 + 1, none⟩ (.string ⟨#[]⟩)).heap[B]? = some (.cells #[.bool false, .string ⟨#[]⟩] 23 (0, 0))) := Hid.mk (by rw [Below.heap_setCell _ _ _ _ (Ne.symm hng2), Below.heap_setCell _ _ _ _ (Ne.symm hng2)]; exact hx)
      have HZ := Hid.mk hz
      clear hr hs hb hx hz
      go_wp2
      go_big_region
      all_goals
        go_wp2
        go_roundw
        case rel => exact ⟨k + 1, by omega, by go_num, HS.out.keep rfl rfl, HB.out.drew, by simpa [World.setCell] using HZ.out, HX.out⟩
        case measure => simp [intOf]; omega
    · have hge : (6 : Int) ≤ (k : Int) := by omega
      have HR : Hid (RowAt wr (w.heap.size + 2) (w.heap.size + 1) none6) := Hid.mk (by rw [hB, HT.out, HG.out]; exact hr)
      have HB : Hid (Below w.heap.size w wr) := Hid.mk (by rw [hB]; exact hb)
      have HZ : Hid (wr.heap.size = w.heap.size + 3) := Hid.mk (by rw [hB]; exact hz)
      have HE : Hid (Ending.returned (Value.pointer (some ⟨T, 0, none⟩)) = .returned (.pointer (some ⟨w.heap.size + 2, 0, none⟩))) := Hid.mk (by rw [hB, HT.out])
      clear hr hb hz hx
      go_wp2
      go_ret
      exact ⟨HE.out, HR.out, HB.out, HZ.out⟩

end Go.Proofs.Ytdngehfebmaegaa.Cel.F
