/-
  The walk of New (things: int).
-/
import Derived.Test.YtmgimohnednlgaaRRowJ
namespace Go.Proofs.Ytmgimohnednlgaa.Cel.I
open Go.RowKit

set_option maxRecDepth 100000 in
theorem Try.infoT : (Try.prog.info? 57).map (fun i => (i.zero, i.size, i.bytes)) = some (some (.agg #[(.int .i64 0), .int .i64 0]), 2, 16) := by kernel_rfl

theorem thC_made (n : Nat) : madeCells #[(.int .i64 0), .int .i64 0] (n * 2) = (thC (List.replicate n (0, 0))).toArray := by
  apply Array.ext'
  apply List.ext_getElem?
  intro j
  by_cases hj : j < n * 2
  · have hl : (thC (List.replicate n (0, 0))).length = n * 2 := by simp [thC_length]
    have hk : j / 2 < (List.replicate n ((0, 0) : Int × Int)).length := by simp; omega
    have h := thC_get (List.replicate n ((0, 0) : Int × Int)) (j / 2) hk
    have hg : (List.replicate n ((0, 0) : Int × Int))[j / 2]! = (0, 0) := by rw [getElem!_pos (List.replicate n ((0, 0) : Int × Int)) (j / 2) hk]; simp
    rw [hg] at h
    rcases Nat.mod_two_eq_zero_or_one j with e | e
    · have ej : j / 2 * 2 = j := by omega
      rw [ej] at h
      rw [h.1]
      simp [madeCells, hj, e]
    · have ej : j / 2 * 2 + 1 = j := by omega
      rw [ej] at h
      rw [h.2]
      simp [madeCells, hj, e]
  · rw [List.getElem?_eq_none (by simp [madeCells]; omega), List.getElem?_eq_none (by simp [thC_length]; omega)]

set_option maxRecDepth 100000 in
theorem run_mk (w : World) (K : Nat) (hK : K ≤ 1024) :
    (Instr.makeSlice 53 (.int .i64 (K : Int)) (.int .i64 (K : Int))).run Try.prog w = .ok (.slice (some ⟨w.heap.size, 0, none⟩) K K) (w.alloc (.cells (thC (List.replicate K (0, 0))).toArray 57)) := by
  obtain ⟨i0, hi, hz0, hz1, hz2⟩ := info_parts Try.infoT
  have h := run_make (P := Try.prog) w 53 57 i0 _ Try.underlying53 hi hz0 .i64 .i64 K K (by omega) (Int.le_refl _) (by rw [hz2]; omega) (by omega)
  rw [hz1] at h
  simp only [Int.toNat_natCast] at h
  rw [h]
  have e : (Value.agg #[(.int .i64 0), .int .i64 0]).cells = #[(.int .i64 0), .int .i64 0] := by rfl
  rw [e, thC_made]

/-- How many things New makes. -/
def made (n : Int) : Nat := (min (max n 0) 1024).toNat

/-- The things as New lays them, the first ones. -/
def part (K k : Nat) (x : Int) : List (Int × Int) := List.replicate k (x, 0) ++ List.replicate (K - k) (0, 0)

theorem part_length (K k : Nat) (x : Int) (h : k ≤ K) : (part K k x).length = K := by simp [part]; omega
theorem part_all (K : Nat) (x : Int) : part K K x = List.replicate K (x, 0) := by simp [part]
theorem part_none (K : Nat) (x : Int) : part K 0 x = List.replicate K (0, 0) := by simp [part]
theorem part_get (K k : Nat) (x : Int) (h : k < K) : (part K k x)[k]! = (0, 0) := by
  rw [getElem!_pos _ k (by rw [part_length _ _ _ (by omega)]; exact h)]
  simp [part]
theorem part_set (K k : Nat) (x : Int) (h : k < K) : (part K k x).set k (x, 0) = part K (k + 1) x := by
  have e : K - k = (K - (k + 1)) + 1 := by omega
  unfold part
  rw [e, List.replicate_succ, List.set_append_right _ _ (by simp)]
  simp only [List.length_replicate, Nat.sub_self, List.set_cons_zero]
  rw [List.replicate_succ', List.append_assoc]
  rfl

set_option maxHeartbeats 1600000 in
set_option maxRecDepth 100000 in
theorem new_any (n : Int) (x : Int) (w : World) :
    Calls Try.prog 17 #[.int .i64 n, (.int .i64 (x))] w fun e w' => e = .returned (.pointer (some ⟨w.heap.size + 1, 0, none⟩)) ∧ RowAt w' (w.heap.size + 1) w.heap.size (List.replicate (made n) (x, 0)) ∧ Below w.heap.size w w' ∧ w'.heap.size = w.heap.size + 2 := by
  obtain ⟨K, hK⟩ : ∃ K, K = made n := ⟨_, rfl⟩
  rw [← hK]
  obtain ⟨M, hM⟩ : ∃ M : Int, M = (if n < 0 then 0 else n) := ⟨_, rfl⟩
  have m1 : (if n < 0 then 0 else n) = M := hM.symm
  have m2 : (if 1024 < M then 1024 else M) = (K : Int) := by
    rw [hK]; unfold made
    split at hM <;> split <;> omega
  have hK2 : K ≤ 1024 := by rw [hK]; unfold made; omega
  have mk := run_mk w K hK2
  clear hK hM
  go_enter Try.func17, Try.ntmps17
  go_wp2
  have hr0 : RowAt ((w.alloc (.cells (thC (List.replicate K (0, 0))).toArray 57)).alloc (.cells #[.slice (some ⟨w.heap.size, 0, none⟩) K K] 55)) (w.heap.size + 1) w.heap.size (part K 0 x) := by
    rw [part_none]
    refine ⟨?_, ?_, by simpa using hK2⟩
    · have h := heap_new (w.alloc (.cells (thC (List.replicate K (0, 0))).toArray 57)) (.cells #[.slice (some ⟨w.heap.size, 0, none⟩) K K] 55)
      rw [World.size_alloc] at h
      rw [h]
      simp
    · rw [Below.heap_alloc _ _ _ (by simp)]
      exact heap_new _ _
  have hb0 : Below w.heap.size w ((w.alloc (.cells (thC (List.replicate K (0, 0))).toArray 57)).alloc (.cells #[.slice (some ⟨w.heap.size, 0, none⟩) K K] 55)) := ((Below.refl _ w).alloc (Nat.le_refl _) _).alloc (by simp) _
  clear mk m1 m2
  go_loopw [6, 18] (fun _ idx wr => ∃ k : Nat, k ≤ K ∧ idx = .int .i64 k ∧ RowAt wr (w.heap.size + 1) w.heap.size (part K k x) ∧ Below w.heap.size w wr ∧ wr.heap.size = w.heap.size + 2) (fun _ idx _ => K - (intOf idx).toNat)
  case atStart => exact ⟨0, Nat.zero_le _, rfl, hr0, hb0, by simp⟩
  case round =>
    obtain ⟨k, hk, rfl, hr, hb, hz⟩ := hrel
    clear hr0 hb0
    by_cases hlt : k < K
    · have c0 := hr.sl
      rw [part_length K k x hk] at c0
      have hl : k < (part K k x).length := by rw [part_length K k x hk]; exact hlt
      have c1 := hr.val k hl
      have f1 := hr.fz (k * 2)
      have hs := hr.set0 k hl x
      rw [part_get K k x hlt] at c1 hs
      rw [part_set K k x hlt] at hs
      have HS := Hid.mk hs
      have HB := Hid.mk (hb.setCell (p := ⟨w.heap.size, k * 2, none⟩) (Nat.le_refl _) (.int .i64 (x)))
      clear hr hs hb hl
      go_wp2
      go_roundw
      case rel => exact ⟨k + 1, by omega, by go_num, HS.out, HB.out, by simpa [World.setCell] using hz⟩
      case measure => simp [intOf]; omega
    · have hkK : k = K := by omega
      rw [hkK, part_all] at hr
      clear hkK
      go_wp2
      go_ret
      exact ⟨rfl, hr, hb, hz⟩

end Go.Proofs.Ytmgimohnednlgaa.Cel.I
