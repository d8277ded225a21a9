/-
  The walks of Of, (*Reader).Bad and (*Reader).Over, and of the law's own 'alive': it returns true, and nothing that was there has turned.
-/
import Derived.Test.YtjenalblcdmpaaaPens
namespace Go.Proofs.Ytjenalblcdmpaaa
open Go.RowKit

set_option maxHeartbeats 400000 in
theorem of_any (w : World) (s : ByteArray) :
    Calls Try.prog 12 #[.string s] w fun e w' => e = .returned (.pointer (some ⟨w.heap.size, 0, none⟩)) ∧ w' = w.alloc (.cells #[.string s, .bool false] 57) := by
  go_enter Try.func12, Try.ntmps12
  go_wp2
  go_ret
  exact ⟨rfl, rfl⟩

set_option maxHeartbeats 400000 in
theorem bad_any (w : World) (r : Nat) (bad : Bool) (h1 : w.cell? ⟨r, 1, none⟩ = some (.bool bad)) :
    Calls Try.prog 18 #[.pointer (some ⟨r, 0, none⟩)] w fun e w' => e = .returned (.bool bad) ∧ w' = w := by
  go_enter Try.func18, Try.ntmps18
  go_wp2
  go_ret
  exact ⟨rfl, rfl⟩

set_option maxHeartbeats 400000 in
theorem over_any (w : World) (r : Nat) (s : ByteArray) (bad : Bool) (h0 : w.cell? ⟨r, 0, none⟩ = some (.string s)) (h1 : w.cell? ⟨r, 1, none⟩ = some (.bool bad)) :
    Calls Try.prog 17 #[.pointer (some ⟨r, 0, none⟩)] w fun e w' => e = .returned (.bool (!bad && (s.size : Int) == 0)) ∧ w' = w := by
  cases bad
  · go_enter Try.func17, Try.ntmps17
    go_wp2_with fail
    refine (bad_any _ r false h1).mono ?_
    rintro e w1 ⟨rfl, rfl⟩
    go_wp2
    go_ret
    exact ⟨rfl, rfl⟩
  · go_enter Try.func17, Try.ntmps17
    go_wp2_with fail
    refine (bad_any _ r true h1).mono ?_
    rintro e w1 ⟨rfl, rfl⟩
    go_wp2
    go_ret
    exact ⟨rfl, rfl⟩

theorem alive_bytes : [] ++ natB 300 ++ intB (-2) = [172, 2, 3] := by
  have e1 : natB 300 = wide 300 := by unfold natB; rw [if_neg (by decide)]; rfl
  have e2 : intB (-2) = wide 3 := by unfold intB foldN; rw [if_pos (by decide)]; rfl
  rw [e1, e2, wide_great (n := 300) (by decide), wide_small (n := 300 / 128) (by decide), wide_small (n := 3) (by decide)]
  decide

set_option maxHeartbeats 400000 in
theorem alive_any (w : World) :
    Calls Try.prog 9 #[] w fun e w' => e = .returned (.bool true) ∧ Below w.heap.size w w' := by
  have hp0 := Pen.new w
  go_enter Try.func9, Try.ntmps9
  go_wp2_with fail
  refine (nat_any _ w.heap.size (w.heap.size + 1) (.slice none 0 0) [] 300 (by omega) (hp0.alloc _) (by simp) (by simp)).mono ?_
  rintro e w1 ⟨rfl, v1, hp1, hw1⟩
  have hs1 : w.heap.size + 2 ≤ w1.heap.size := by have := hw1.size; simpa using this
  go_wp2_with fail
  refine (int_any _ w.heap.size w1.heap.size v1 _ (-2) (by omega) (by omega) (hp1.alloc _) (by have h := congrArg List.length alive_bytes; rw [List.length_append] at h; simp only [List.length_cons, List.length_nil] at h ⊢; omega) (by simp)).mono ?_
  rintro e w2 ⟨rfl, v2, hp2, hw2⟩
  rw [alive_bytes] at hp2
  have hbel : Below w.heap.size w w2 := by
    have a1 := ((Below.refl w.heap.size w).alloc (Nat.le_refl _) (.cells #[.slice none 0 0] 45)).alloc (by simp) (.cells #[.int .i64 300] 3)
    have a2 := a1.trans (hw1.below (by simp; omega) (Nat.le_refl _) (by simp [Value.ownBlock]))
    exact a2.trans (hw2.behind_alloc.below (by omega) (Nat.le_refl _) (hw1.own_from (by simp; omega) (by simp [Value.ownBlock])))
  go_wp2_with fail
  refine (bytes_any _ w.heap.size v2 _ hp2).mono ?_
  rintro e w3 ⟨rfl, rfl⟩
  clear hp2 hw2 hp1 hw1 hp0
  go_wp2_with fail
  refine (of_any _ ⟨#[]⟩).mono ?_
  rintro e w4 ⟨rfl, h4⟩
  have hbel4 : Below w.heap.size w w4 := by rw [h4]; exact hbel.alloc (by have := hbel.size; omega) _
  have c0 : w4.cell? ⟨w3.heap.size, 0, none⟩ = some (.string ⟨#[]⟩) := by rw [h4]; simp
  have c1 : w4.cell? ⟨w3.heap.size, 1, none⟩ = some (.bool false) := by rw [h4]; simp
  clear h4 hbel
  go_wp2_with fail
  refine (over_any _ _ _ _ c0 c1).mono ?_
  rintro e w5 ⟨rfl, rfl⟩
  clear c0 c1
  go_wp2_with fail
  refine (of_any _ ⟨#[97]⟩).mono ?_
  rintro e w6 ⟨rfl, h6⟩
  have hbel6 : Below w.heap.size w w6 := by rw [h6]; exact hbel4.alloc (by have := hbel4.size; omega) _
  have c0 : w6.cell? ⟨w5.heap.size, 0, none⟩ = some (.string ⟨#[97]⟩) := by rw [h6]; simp
  have c1 : w6.cell? ⟨w5.heap.size, 1, none⟩ = some (.bool false) := by rw [h6]; simp
  clear h6 hbel4
  go_wp2_with fail
  refine (over_any _ _ _ _ c0 c1).mono ?_
  rintro e w7 ⟨rfl, rfl⟩
  go_wp2
  go_ret
  exact ⟨rfl, hbel6⟩

end Go.Proofs.Ytjenalblcdmpaaa
