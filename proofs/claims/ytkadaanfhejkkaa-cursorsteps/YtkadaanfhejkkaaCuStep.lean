/-
  The walks of Step, Any and Copy.
-/
import Derived.Test.YtkadaanfhejkkaaCuMem
import Derived.Laws.StructEq
namespace Go.Proofs.Ytkadaanfhejkkaa.Cur
open Go.RowKit Go.Proofs.Ytkadaanfhejkkaa.Cel

section
variable {w w' : World} {b : Nat} {f : Nat → Nat}

set_option maxHeartbeats 800000 in
set_option maxRecDepth 100000 in
theorem step_yes (h : CurAt w b f) (i : Nat) (hi : i < 3) (hf : f i < 64) :
    Calls Try.prog 7 #[.pointer (some ⟨b, 0, none⟩), .int .i64 i] w fun e w' => e = .returned (.bool true) ∧ CurAt w' b (upd f i (f i + 1)) ∧ Only b w w' := by
  have c0 := h.cell i hi
  have z0 := h.fz i
  have q0 : ¬ (i : Int) < 0 := by omega
  have q1 : (i : Int) < 3 := by omega
  have HG := Hid.mk (good_upd h.good i hf)
  have HA := Hid.mk h.at_
  have HI := Hid.mk hi
  have HF := Hid.mk (cA_set f i (f i + 1) hi)
  obtain ⟨n, hn⟩ : ∃ n, n = f i := ⟨_, rfl⟩
  rw [← hn] at c0 hf HG HF ⊢
  have q2 : ¬ (n : Int) = 64 := by omega
  clear h hn
  go_enter Try.func7, Try.ntmps7
  go_wp2_with fail
  refine (has_yes i hi _).mono ?_
  rintro e w1 ⟨rfl, rfl⟩
  go_wp2_with fail
  go_big_region
  all_goals
    have HB : Hid (CurAt ((w1.setCell ⟨b, i, none⟩ (.int .i64 ((n : Int) + 1))).drew) b (upd f i (n + 1))) := Hid.mk ⟨by
      show (w1.setCell ⟨b, i, none⟩ (.int .i64 ((n : Int) + 1))).heap[b]? = _
      rw [heap_set _ HA.out]
      exact congrArg (fun x => some (Obj.cells x 27 (0, 0))) HF.out, HG.out⟩
    have HO : Hid (Only b w1 ((w1.setCell ⟨b, i, none⟩ (.int .i64 ((n : Int) + 1))).drew)) := by
      have ho := (Only.refl b w1).set i (.int .i64 ((n : Int) + 1))
      exact Hid.mk ⟨ho.os, ho.tape, ho.output, ho.size, ho.block⟩
    go_wp2
    go_ret
    exact ⟨rfl, HB.out, HO.out⟩

set_option maxHeartbeats 800000 in
set_option maxRecDepth 100000 in
theorem step_full (h : CurAt w b f) (i : Nat) (hi : i < 3) (hf : f i = 64) :
    Calls Try.prog 7 #[.pointer (some ⟨b, 0, none⟩), .int .i64 i] w fun e w' => e = .returned (.bool false) ∧ w' = w := by
  have c0 : w.cell? ⟨b, i, none⟩ = some (.int .i64 64) := by
    have := h.cell i hi
    rw [hf] at this
    exact this
  have q0 : ¬ (i : Int) < 0 := by omega
  have q1 : (i : Int) < 3 := by omega
  clear h hf
  go_enter Try.func7, Try.ntmps7
  go_wp2_with fail
  refine (has_yes i hi _).mono ?_
  rintro e w1 ⟨rfl, rfl⟩
  go_wp2
  go_ret
  exact ⟨rfl, rfl⟩

set_option maxHeartbeats 800000 in
set_option maxRecDepth 100000 in
theorem step_no (s : Int) (hs : Not3 s) (w : World) :
    Calls Try.prog 7 #[.pointer (some ⟨b, 0, none⟩), .int .i64 s] w fun e w' => e = .returned (.bool false) ∧ w' = w := by
  go_enter Try.func7, Try.ntmps7
  go_wp2_with fail
  refine (has_no s hs _).mono ?_
  rintro e w1 ⟨rfl, rfl⟩
  go_wp2
  go_ret
  exact ⟨rfl, rfl⟩

set_option maxHeartbeats 800000 in
set_option maxRecDepth 100000 in
theorem step_nil (s : Int) (w : World) :
    Calls Try.prog 7 #[.pointer none, .int .i64 s] w fun e w' => e = .returned (.bool false) ∧ w' = w := by
  go_enter Try.func7, Try.ntmps7
  go_wp2_with fail
  refine (has_nil s _).mono ?_
  rintro e w1 ⟨rfl, rfl⟩
  go_wp2
  go_ret
  exact ⟨rfl, rfl⟩

set_option maxRecDepth 100000 in
theorem step_any (h : CurAt w b f) (s : Int) :
    Calls Try.prog 7 #[.pointer (some ⟨b, 0, none⟩), .int .i64 s] w fun e w' => e = .returned (.bool (okF f s)) ∧ CurAt w' b (stF f s) ∧ Only b w w' := by
  unfold stF okF
  cases hs : isS s with
  | true =>
    obtain ⟨i, hi, rfl⟩ := isS_yes hs
    rw [Int.toNat_natCast]
    by_cases hf : f i < 64
    · rw [decide_eq_true hf]
      exact step_yes h i hi hf
    · rw [decide_eq_false hf]
      have := h.good i hi
      refine (step_full h i hi (by omega)).mono fun e w' ⟨he, hw⟩ => ⟨he, ?_⟩
      rw [hw]
      exact ⟨h, Only.refl _ _⟩
  | false =>
    refine (step_no s (isS_no hs) w).mono fun e w' ⟨he, hw⟩ => ⟨he, ?_⟩
    rw [hw]
    exact ⟨h, Only.refl _ _⟩

set_option maxRecDepth 100000 in
theorem eq_num (d : Nat) (a b : Nat) (w : World) : (Op.equalIn (d + 1) 3 (.int .i64 (a : Int)) (.int .i64 (b : Int))).run Try.prog w = .ok (decide (a = b)) w := by
  by_cases h : a = b
  · subst h
    rw [decide_eq_true rfl]
    simp [go_sem]
  · have e : ¬ (a : Int) = (b : Int) := by omega
    rw [decide_eq_false h]
    simp [go_sem, e]

set_option maxRecDepth 100000 in
theorem part_three (f : Nat → Nat) (w : World) :
    (part 3 (cA f) 0).run Try.prog w = .ok (.int .i64 (f 0)) w ∧ (part 3 (cA f) 1).run Try.prog w = .ok (.int .i64 (f 1)) w ∧ (part 3 (cA f) 2).run Try.prog w = .ok (.int .i64 (f 2)) w := ⟨rfl, rfl, rfl⟩
set_option maxRecDepth 100000 in
theorem size_num (w : World) : (sizeOf 3).run Try.prog w = .ok 1 w := rfl

set_option maxRecDepth 100000 in
/-- Three numbers, held against three others. -/
theorem eq_threeD (D : Nat) (f g : Nat → Nat) (w : World) : (Op.equalIn (D + 1 + 1) 25 (.agg (cA f)) (.agg (cA g))).run Try.prog w = .ok (decide (f 0 = g 0 ∧ f 1 = g 1 ∧ f 2 = g 2)) w := by
  obtain ⟨p0, p1, p2⟩ := part_three f w
  obtain ⟨q0, q1, q2⟩ := part_three g w
  generalize cA f = xs at *
  generalize cA g = ys at *
  rw [Op.equalIn]
  simp only [Sem.run_bind, run_underlying Try.underlying25, Result.andThen_ok, size_num]
  have hE : ∀ (a b : Nat), (Op.equalIn (D + 1) 3 (.int .i64 (a : Int)) (.int .i64 (b : Int))).run Try.prog w = .ok (decide (a = b)) w := fun a b => eq_num D a b w
  have hr : List.range' 0 3 1 = [0, 1, 2] := rfl
  have hs : ([:3] : Std.Legacy.Range).start = 0 := rfl
  have hz : ([:3] : Std.Legacy.Range).size = 3 := rfl
  have ht : ([:3] : Std.Legacy.Range).step = 1 := rfl
  rw [Std.Legacy.Range.forIn_eq_forIn_range', hs, hz, ht, hr]
  by_cases h0 : f 0 = g 0
  · rw [h0] at p0
    by_cases h1 : f 1 = g 1
    · rw [h1] at p1
      by_cases h2 : f 2 = g 2
      · rw [h2] at p2
        simp [List.forIn_cons, List.forIn_nil, Sem.run_bind, Sem.run_pure, Sem.run_ite, p0, p1, p2, q0, q1, q2, hE, h0, h1, h2]
      · simp [List.forIn_cons, Sem.run_bind, Sem.run_pure, Sem.run_ite, p0, q0, p1, q1, p2, q2, hE, h0, h1, h2]
    · simp [List.forIn_cons, Sem.run_bind, Sem.run_pure, Sem.run_ite, p0, q0, p1, q1, hE, h0, h1]
  · simp [List.forIn_cons, Sem.run_bind, Sem.run_pure, Sem.run_ite, p0, q0, hE, h0]

set_option maxRecDepth 100000 in
/-- Three numbers, held against none. -/
theorem eq_three (f : Nat → Nat) (w : World) : (Op.equalIn 10000 25 (.agg (cA f)) (.agg (cA nones))).run Try.prog w = .ok (!anyF f) w := by
  rw [eq_threeD 9998 f nones w]
  unfold anyF nones
  congr 1
  by_cases h0 : f 0 = 0 <;> by_cases h1 : f 1 = 0 <;> by_cases h2 : f 2 = 0 <;> simp [h0, h1, h2]

set_option maxHeartbeats 800000 in
set_option maxRecDepth 100000 in
theorem any_nil (w : World) :
    Calls Try.prog 11 #[.pointer none] w fun e w' => e = .returned (.bool false) ∧ w' = w := by
  go_enter Try.func11, Try.ntmps11
  go_wp2
  go_ret
  exact ⟨rfl, rfl⟩

set_option maxHeartbeats 800000 in
set_option maxRecDepth 100000 in
theorem some_any (h : CurAt w b f) :
    Calls Try.prog 11 #[.pointer (some ⟨b, 0, none⟩)] w fun e w' => e = .returned (.bool (anyF f)) ∧ w' = w := by
  have c0 := h.cell 0 (by decide)
  have c1 := h.cell 1 (by decide)
  have c2 := h.cell 2 (by decide)
  have heq : ∀ w : World, (Op.equalIn 10000 25 (.agg #[.int .i64 (f 0), .int .i64 (f 1), .int .i64 (f 2)]) (.agg #[.int .i64 0, .int .i64 0, .int .i64 0])).run Try.prog w = .ok (!anyF f) w := fun w => eq_three f w
  clear h
  go_enter Try.func11, Try.ntmps11
  go_wp2
  go_ret
  exact ⟨rfl, rfl⟩

set_option maxHeartbeats 800000 in
set_option maxRecDepth 100000 in
theorem copy_nil (w : World) :
    Calls Try.prog 9 #[.pointer none] w fun e w' => e = .returned (.pointer none) ∧ w' = w := by
  go_enter Try.func9, Try.ntmps9
  go_wp2
  go_ret
  exact ⟨rfl, rfl⟩

set_option maxHeartbeats 800000 in
set_option maxRecDepth 100000 in
theorem copy_any (h : CurAt w b f) :
    Calls Try.prog 9 #[.pointer (some ⟨b, 0, none⟩)] w fun e w' => e = .returned (.pointer (some ⟨w.heap.size, 0, none⟩)) ∧ CurAt w' w.heap.size f ∧ Below w.heap.size w w' := by
  have c0 := h.cell 0 (by decide)
  have c1 := h.cell 1 (by decide)
  have c2 := h.cell 2 (by decide)
  have HG := Hid.mk h.good
  have HB := Hid.mk ((Below.refl w.heap.size w).alloc (Nat.le_refl _) (.cells (cA f) 27))
  have HN := Hid.mk (heap_new w (.cells (cA f) 27))
  clear h
  go_enter Try.func9, Try.ntmps9
  go_wp2
  go_ret
  exact ⟨rfl, ⟨HN.out, HG.out⟩, HB.out⟩

end

end Go.Proofs.Ytkadaanfhejkkaa.Cur
