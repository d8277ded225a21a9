/-
  The walks of New, Has, Stamp and Len; and of all calls of a nil set.
-/
import Derived.Test.YtafpfioonbdgnaaNFind
namespace Go.Proofs.Ytafpfioonbdgnaa.Rds
open Go.RowKit Go.Shelf Go.Proofs.Ytafpfioonbdgnaa.Cel Go.Proofs.Ytafpfioonbdgnaa.Rng
attribute [local go_sem] Oper.semAt_some

section
variable {w : World} {b : Nat} {v : Value} {st : Int} {E : List En}

set_option maxHeartbeats 400000 in
set_option maxRecDepth 100000 in
theorem new_any (st : Int) (w : World) :
    Calls Try.prog 9 #[.int .i64 st] w fun e w' => e = .returned (.pointer (some ⟨w.heap.size, 0, none⟩)) ∧ SetAt w' w.heap.size (.slice none 0 0) st [] ∧ w' = w.alloc (.cells #[.int .i64 st, .slice none 0 0] 65) := by
  have F : SetAt (w.alloc (.cells #[.int .i64 st, .slice none 0 0] 65)) w.heap.size (.slice none 0 0) st [] := ⟨heap_new _ _, ⟨rfl, .inl ⟨rfl, rfl⟩⟩⟩
  have HF := Hid.mk F
  clear F
  go_enter Try.func9, Try.ntmps9
  go_wp2
  go_ret
  exact ⟨rfl, HF.out, rfl⟩

set_option maxHeartbeats 400000 in
set_option maxRecDepth 100000 in
theorem stamp_any (h : SetAt w b v st E) : Calls Try.prog 15 #[.pointer (some ⟨b, 0, none⟩)] w fun e w' => e = .returned (.int .i64 st) ∧ w' = w := by
  have c0 := h.c0
  clear h
  go_enter Try.func15, Try.ntmps15
  go_wp2
  go_ret
  exact ⟨rfl, rfl⟩

set_option maxHeartbeats 400000 in
set_option maxRecDepth 100000 in
theorem len_any (h : SetAt w b v st E) : Calls Try.prog 16 #[.pointer (some ⟨b, 0, none⟩)] w fun e w' => e = .returned (.int .i64 (E.length : Nat)) ∧ w' = w := by
  have c1 := h.c1
  obtain ⟨va, vc, rfl⟩ := row_shape h.owns
  clear h
  go_enter Try.func16, Try.ntmps16
  go_wp2
  go_ret
  exact ⟨rfl, rfl⟩

set_option maxHeartbeats 800000 in
set_option maxRecDepth 100000 in
theorem has_any (h : SetAt w b v st E) (hE : E.length ≤ 1000000) (k i : Int) : Calls Try.prog 18 #[.pointer (some ⟨b, 0, none⟩), .int .i64 k, .int .i64 i] w fun e w' => e = .returned (.bool (findE E k i).isSome) ∧ Below w.heap.size w w' := by
  have hf := find_any k i w h hE
  cases hv : findE E k i with
  | none =>
    rw [hv] at hf
    unfold fndV at hf
    have HF := Hid.mk hf
    clear hf hv h
    go_enter Try.func18, Try.ntmps18
    go_wp2_with fail
    refine HF.out.mono ?_
    rintro e w1 ⟨rfl, hb⟩
    have HB := Hid.mk hb
    clear hb
    go_wp2
    go_ret
    exact ⟨rfl, HB.out.alloc HB.out.size _⟩
  | some y =>
    obtain ⟨y0, y1, y2⟩ := y
    rw [hv] at hf
    unfold fndV at hf
    dsimp only at hf
    have HF := Hid.mk hf
    clear hf hv h
    go_enter Try.func18, Try.ntmps18
    go_wp2_with fail
    refine HF.out.mono ?_
    rintro e w1 ⟨rfl, hb⟩
    have HB := Hid.mk hb
    clear hb
    go_wp2
    go_ret
    exact ⟨rfl, HB.out.alloc HB.out.size _⟩

end

/-! Of a nil set. -/

set_option maxHeartbeats 400000 in
set_option maxRecDepth 100000 in
theorem stamp_nil (w : World) : Calls Try.prog 15 #[.pointer none] w fun e w' => e = .returned (.int .i64 0) ∧ w' = w := by
  go_enter Try.func15, Try.ntmps15
  go_wp2
  go_ret
  exact ⟨rfl, rfl⟩

set_option maxHeartbeats 400000 in
set_option maxRecDepth 100000 in
theorem len_nil (w : World) : Calls Try.prog 16 #[.pointer none] w fun e w' => e = .returned (.int .i64 0) ∧ w' = w := by
  go_enter Try.func16, Try.ntmps16
  go_wp2
  go_ret
  exact ⟨rfl, rfl⟩

set_option maxHeartbeats 800000 in
set_option maxRecDepth 100000 in
theorem note_nil (f : Nat → Int) (c : Int) (k i : Int) (w : World) : Calls Try.prog 10 #[.pointer none, .agg (nowA f c), .int .i64 k, .int .i64 i] w fun e w' => e = .returned (.bool false) ∧ Below w.heap.size w w' := by
  have HB := Hid.mk ((Below.refl w.heap.size w).alloc (Nat.le_refl _) (.cells (nowA f c) 43))
  go_enter Try.func10, Try.ntmps10
  go_wp2
  go_ret
  exact ⟨rfl, HB.out⟩

set_option maxRecDepth 100000 in
set_option maxHeartbeats 4000000 in
theorem valid_nil (f : Nat → Int) (c : Int) (w : World) :
    Calls Try.prog 13 #[.pointer none, .agg (nowA f c)] w fun e w' => e = .returned (.bool true) ∧ Below w.heap.size w w' := by
  refine (callsIn_wide (n := 5)).1 ?_
  refine callsIn_of_wp_marks Try.func13 rfl trivial ?_ rfl
  simp only [Try.ntmps13, List.size_toArray, List.length_cons, List.length_nil, Nat.reduceAdd, Nat.reduceSub, Array.replicate_succ, Array.replicate_zero, List.push_toArray, List.append_toArray, List.nil_append, List.cons_append]
  gi_wp2_with fail
  refine ⟨trivial, (all_in _ _ _).mono ?_⟩
  rintro e w1 ⟨rfl, hw1⟩
  obtain ⟨w0, hw0⟩ : ∃ w0, w0 = (w.alloc (.cells (nowA f c) 43)).alloc (.cells #[.bool false] 4) := ⟨_, rfl⟩
  have hz0 : w0.heap.size = w.heap.size + 2 := by rw [hw0]; simp
  have hb0 : Below w.heap.size w w0 := by rw [hw0]; exact ((Below.refl _ w).alloc (Nat.le_refl _) _).alloc (by simp) _
  have L0 : Lv w.heap.size f c w0 := by
    rw [hw0]
    refine ⟨?_, ?_⟩
    · rw [Below.heap_alloc _ _ _ (by simp), heap_new]
    · have h := heap_new (w.alloc (.cells (nowA f c) 43)) (.cells #[.bool false] 4)
      rw [World.size_alloc] at h
      exact h
  have hb01 : Below w0.heap.size w0 w1 := by rw [hw1, hw0]; exact (Below.refl _ _).alloc (Nat.le_refl _) _
  have L1 := L0.grown hb01
  have hb1 : Below w.heap.size w w1 := hb0.trans (hb01.mono (by omega))
  have hc1 : w1.cell? ⟨w.heap.size + 2, 0, none⟩ = some (.pointer none) := by rw [hw1, ← hw0, ← hz0]; exact cell_at (heap_new _ _) rfl
  have hz1 : w1.heap.size = w.heap.size + 3 := by rw [hw1, ← hw0]; simp; omega
  rw [← hw0, hz0]
  have HL1 := Hid.mk L1
  have HB1 := Hid.mk hb1
  have HZ1 := Hid.mk hz1
  have HC1 := Hid.mk hc1
  clear hw1 hw0 hb0 L0 hb01 L1 hb1 hc1 hz1 hz0 w0
  gi_wp2
  refine range_over2 (gf := 24) (lb := #[.pointer (some ⟨w.heap.size + 2, 0, none⟩)]) rfl (enters_of Try.func24 (by kernel_rfl) rfl)
    (nil_gives 4 _ w1 HC1.out) (Below.refl _ _) (fun _ _ _ _ _ => trivial) (fun _ _ _ _ _ _ => trivial) (fun _ => rfl)
    (fun _ W => Lv w.heap.size f c W ∧ Below w.heap.size w W) (fun _ _ => False)
    (OwnFrom.and (Own.from (fun s X Y row hs hg hr => hs.kept hg hr) _) (ownFrom_below (Nat.le_refl _) (by have := HZ1.out; omega)))
    (fun _ _ _ _ h _ _ => h)
    ⟨HL1.out, HB1.out⟩ ?round ?done ?stop
  case round => intro l pre x W r hl hr hI hG; exact hG.elim
  case stop => intro D pre W hD hS; exact hS.elim
  case done =>
    rintro D ys W hD hys ⟨hL, hBW⟩ hK
    have cr : W.cell? ⟨w.heap.size + 1, 0, none⟩ = some (.bool false) := cell_at hL.res rfl
    have fr : W.frozen? ⟨w.heap.size + 1, 0, none⟩ = false := free_at hL.res
    have HBW := Hid.mk hBW
    have HK := Hid.mk hK
    clear hys hL hBW hK
    gi_wp2
    have hK' := (KeepsOthers.setCell W ⟨w.heap.size + 1, 0, none⟩ (.bool true)).same D _ HK.out rfl
    refine ⟨by simp, .inl ⟨_, _, rfl, run_takeDeferred hK', ?_⟩⟩
    have hc5 := cell_kept (World.cell?_setCell_same' W ⟨w.heap.size + 1, 0, none⟩ (.bool true) (by rw [cr]; rfl)) (grownBy_putObj' _ D (.deferred none)) (fun r e => by cases e; exact ⟨_, hK', rfl⟩)
    refine ⟨.bool true, ?_, rfl, (HBW.out.setCell (p := ⟨w.heap.size + 1, 0, none⟩) (Nat.le_succ _) _).trans (belowK_b (w := w) (Nat.le_refl _) _ D _ _ (by have := HZ1.out; omega) hK' rfl rfl)⟩
    simp [results, Try.f13, go_sem, hc5]

set_option maxRecDepth 100000 in
set_option maxHeartbeats 4000000 in
theorem find_nil (k i : Int) (w : World) :
    Calls Try.prog 23 #[.pointer none, .int .i64 k, .int .i64 i] w fun e w' => e = .returned (.tuple (fndV none)) ∧ Below w.heap.size w w' := by
  refine (callsIn_wide (n := 5)).1 ?_
  refine callsIn_of_wp_marks Try.func23 rfl trivial ?_ rfl
  simp only [Try.ntmps23, List.size_toArray, List.length_cons, List.length_nil, Nat.reduceAdd, Nat.reduceSub, Array.replicate_succ, Array.replicate_zero, List.push_toArray, List.append_toArray, List.nil_append, List.cons_append]
  gi_wp2_with fail
  refine ⟨trivial, (all_in _ _ _).mono ?_⟩
  rintro e w1 ⟨rfl, hw1⟩
  obtain ⟨w0, hw0⟩ : ∃ w0, w0 = (((w.alloc (.cells #[.int .i64 k] 45)).alloc (.cells #[.int .i64 i] 3)).alloc (.cells #[.int .i64 0, .int .i64 0, .int .i64 0] 54)).alloc (.cells #[.bool false] 4) := ⟨_, rfl⟩
  have hz0 : w0.heap.size = w.heap.size + 4 := by rw [hw0]; simp
  have hb0 : Below w.heap.size w w0 := by rw [hw0]; exact ((((Below.refl _ w).alloc (Nat.le_refl _) _).alloc (by simp) _).alloc (by simp; omega) _).alloc (by simp; omega) _
  have L0 : Lf w.heap.size k i w0 := by
    rw [hw0]
    refine ⟨?_, ?_, ?_, ?_⟩
    · rw [Below.heap_alloc _ _ _ (by simp; omega), Below.heap_alloc _ _ _ (by simp; omega), Below.heap_alloc _ _ _ (by simp), heap_new]
    · rw [Below.heap_alloc _ _ _ (by simp; try omega), Below.heap_alloc _ _ _ (by simp)]
      have h := heap_new (w.alloc (.cells #[.int .i64 k] 45)) (.cells #[.int .i64 i] 3)
      rw [World.size_alloc] at h
      exact h
    · rw [Below.heap_alloc _ _ _ (by simp)]
      have h := heap_new ((w.alloc (.cells #[.int .i64 k] 45)).alloc (.cells #[.int .i64 i] 3)) (.cells #[.int .i64 0, .int .i64 0, .int .i64 0] 54)
      rw [World.size_alloc, World.size_alloc] at h
      exact h
    · have h := heap_new (((w.alloc (.cells #[.int .i64 k] 45)).alloc (.cells #[.int .i64 i] 3)).alloc (.cells #[.int .i64 0, .int .i64 0, .int .i64 0] 54)) (.cells #[.bool false] 4)
      rw [World.size_alloc, World.size_alloc, World.size_alloc] at h
      exact h
  have hb01 : Below w0.heap.size w0 w1 := by rw [hw1, hw0]; exact (Below.refl _ _).alloc (Nat.le_refl _) _
  have L1 := L0.grown hb01
  have hb1 : Below w.heap.size w w1 := hb0.trans (hb01.mono (by omega))
  have hc1 : w1.cell? ⟨w.heap.size + 4, 0, none⟩ = some (.pointer none) := by rw [hw1, ← hw0, ← hz0]; exact cell_at (heap_new _ _) rfl
  have hz1 : w1.heap.size = w.heap.size + 5 := by rw [hw1, ← hw0]; simp; omega
  rw [← hw0, hz0]
  have HL1 := Hid.mk L1
  have HB1 := Hid.mk hb1
  have HZ1 := Hid.mk hz1
  have HC1 := Hid.mk hc1
  clear hw1 hw0 hb0 L0 hb01 L1 hb1 hc1 hz1 hz0 w0
  gi_wp2
  refine range_over2 (gf := 24) (lb := #[.pointer (some ⟨w.heap.size + 4, 0, none⟩)]) rfl (enters_of Try.func24 (by kernel_rfl) rfl)
    (nil_gives 4 _ w1 HC1.out) (Below.refl _ _) (fun _ _ _ _ _ => trivial) (fun _ _ _ _ _ _ => trivial) (fun _ => rfl)
    (fun _ W => Lf w.heap.size k i W ∧ Below w.heap.size w W) (fun _ _ => False)
    (OwnFrom.and (Own.from (fun s X Y row hs hg hr => hs.kept hg hr) _) (ownFrom_below (Nat.le_refl _) (by have := HZ1.out; omega)))
    (fun _ _ _ _ h _ _ => h)
    ⟨HL1.out, HB1.out⟩ ?round ?done ?stop
  case round => intro l pre x W r hl hr hI hG; exact hG.elim
  case stop => intro D pre W hD hS; exact hS.elim
  case done =>
    rintro D ys W hD hys ⟨hL, hBW⟩ hK
    have r0 : W.cell? ⟨w.heap.size + 1 + 1, 0, none⟩ = some (.int .i64 0) := cell_at hL.e rfl
    have r1 : W.cell? ⟨w.heap.size + 1 + 1, 1, none⟩ = some (.int .i64 0) := cell_at hL.e rfl
    have r2 : W.cell? ⟨w.heap.size + 1 + 1, 2, none⟩ = some (.int .i64 0) := cell_at hL.e rfl
    have r3 : W.cell? ⟨w.heap.size + 1 + 1 + 1, 0, none⟩ = some (.bool false) := cell_at hL.ok rfl
    have f0 : W.frozen? ⟨w.heap.size + 1 + 1, 0, none⟩ = false := free_at hL.e
    have f1 : W.frozen? ⟨w.heap.size + 1 + 1, 1, none⟩ = false := free_at hL.e
    have f2 : W.frozen? ⟨w.heap.size + 1 + 1, 2, none⟩ = false := free_at hL.e
    have f3 : W.frozen? ⟨w.heap.size + 1 + 1 + 1, 0, none⟩ = false := free_at hL.ok
    have HL := Hid.mk hL
    have HBW := Hid.mk hBW
    have HK := Hid.mk hK
    clear hys hL hBW hK
    gi_wp2
    obtain ⟨X, hX⟩ : ∃ X, X = (((W.setCell ⟨w.heap.size + 1 + 1, 0, none⟩ (.int .i64 0)).setCell ⟨w.heap.size + 1 + 1, 1, none⟩ (.int .i64 0)).setCell ⟨w.heap.size + 1 + 1, 2, none⟩ (.int .i64 0)).setCell ⟨w.heap.size + 1 + 1 + 1, 0, none⟩ (.bool false) := ⟨_, rfl⟩
    have hko : KeepsOthers W X := by rw [hX]; exact (((KeepsOthers.setCell _ _ _).trans (KeepsOthers.setCell _ _ _)).trans (KeepsOthers.setCell _ _ _)).trans (KeepsOthers.setCell _ _ _)
    have hbX : Below w.heap.size w X := by
      rw [hX]
      exact (((HBW.out.setCell (p := ⟨w.heap.size + 1 + 1, 0, none⟩) (by show _ ≤ w.heap.size + 1 + 1; omega) _).setCell (p := ⟨w.heap.size + 1 + 1, 1, none⟩) (by show _ ≤ w.heap.size + 1 + 1; omega) _).setCell (p := ⟨w.heap.size + 1 + 1, 2, none⟩) (by show _ ≤ w.heap.size + 1 + 1; omega) _).setCell (p := ⟨w.heap.size + 1 + 1 + 1, 0, none⟩) (by show _ ≤ w.heap.size + 1 + 1 + 1; omega) _
    have x0 : X.heap[w.heap.size + 1 + 1]? = some (.cells #[.int .i64 0, .int .i64 0, .int .i64 0] 54 (0, 0)) := by
      rw [hX, Below.heap_setCell _ _ _ _ (by show w.heap.size + 1 + 1 ≠ w.heap.size + 1 + 1 + 1; omega), heap_set _ (heap_set _ (heap_set _ HL.out.e))]
      simp
    have x1 : X.heap[w.heap.size + 1 + 1 + 1]? = some (.cells #[.bool false] 4 (0, 0)) := by
      have s0 : ∀ (X : World) (j : Nat) (u : Value), (X.setCell ⟨w.heap.size + 1 + 1, j, none⟩ u).heap[w.heap.size + 1 + 1 + 1]? = X.heap[w.heap.size + 1 + 1 + 1]? := fun X j u => Below.heap_setCell _ _ _ _ (by show w.heap.size + 1 + 1 + 1 ≠ w.heap.size + 1 + 1; omega)
      rw [hX, heap_set _ ((s0 _ _ _).trans ((s0 _ _ _).trans ((s0 _ _ _).trans HL.out.ok)))]
      simp
    rw [← hX]
    clear hX
    have hK' := hko.same D _ HK.out rfl
    have hr : ∀ r, some D = some r → ∃ o : Obj, X.heap[r]? = some o ∧ o.isCells = false := fun r e => by cases e; exact ⟨_, hK', rfl⟩
    refine ⟨by simp, .inl ⟨_, _, rfl, run_takeDeferred hK', ?_⟩⟩
    have e0 := block_kept x0 (grownBy_putObj' X D (.deferred none)) hr
    have e1 := block_kept x1 (grownBy_putObj' X D (.deferred none)) hr
    have p0 := cell_at (i := 0) e0 rfl
    have p1 := cell_at (i := 1) e0 rfl
    have p2 := cell_at (i := 2) e0 rfl
    have p3 := cell_at (i := 0) e1 rfl
    refine ⟨.tuple (fndV none), ?_, rfl, hbX.trans (belowK_b (w := w) (Nat.le_refl _) _ D _ _ (by have := HZ1.out; omega) hK' rfl rfl)⟩
    simp [results, Try.f23, go_sem, p0, p1, p2, p3, fndV]

set_option maxHeartbeats 800000 in
set_option maxRecDepth 100000 in
theorem has_nil (k i : Int) (w : World) : Calls Try.prog 18 #[.pointer none, .int .i64 k, .int .i64 i] w fun e w' => e = .returned (.bool false) ∧ Below w.heap.size w w' := by
  have hf := find_nil k i w
  unfold fndV at hf
  have HF := Hid.mk hf
  clear hf
  go_enter Try.func18, Try.ntmps18
  go_wp2_with fail
  refine HF.out.mono ?_
  rintro e w1 ⟨rfl, hb⟩
  have HB := Hid.mk hb
  clear hb
  go_wp2
  go_ret
  exact ⟨rfl, HB.out.alloc HB.out.size _⟩

end Go.Proofs.Ytafpfioonbdgnaa.Rds
