/-
  FileCuts: for every file and two sizes, the law returns true: cut twice is cut to the lesser size, and cut to its own size a file is as it was. No condition.
-/
import Derived.Test.YtajongclalcigaaFCut
namespace Go.Proofs.Ytajongclalcigaa.fileCuts
open Go.ChangeShapes Go.WideShapes Go.ChangeAt Go.RowKit Go.Deep Go.Proofs.Ytajongclalcigaa.Fil

set_option maxRecDepth 100000 in
set_option maxHeartbeats 4000000 in
theorem walk (is : Bool) (s : ByteArray) (a b : Int) (w : World) (_h1 : (Lit.int .i64 a).wf = true) (_h2 : (Lit.int .i64 b).wf = true) :
    Calls Try.prog 5 #[.agg #[.bool is, .string s], .int .i64 a, .int .i64 b] w fun e w' => e = .returned (.bool true) ∧ Below w.heap.size w w' := by
  have HB := Hid.mk ((Below.refl w.heap.size w).alloc (Nat.le_refl _) (.cells #[.bool is, .string s] 23))
  have HN := Hid.mk (heap_new w (.cells #[.bool is, .string s] 23))
  go_enter Try.func5, Try.ntmps5
  go_wp2_with fail
  refine (alive_any _).mono ?_
  rintro e w1 ⟨rfl, hb1⟩
  have r1 := (hb1.block w.heap.size (by simp)).trans HN.out
  have c0 : w1.cell? ⟨w.heap.size, 0, none⟩ = some (.bool is) := cell_at r1 rfl
  have c1 : w1.cell? ⟨w.heap.size, 1, none⟩ = some (.string s) := cell_at r1 rfl
  have HB1 := Hid.mk (HB.out.trans (hb1.mono (by simp)))
  have HR1 := Hid.mk r1
  have HL1 : Hid (w.heap.size + 1 ≤ w1.heap.size) := Hid.mk (by have := hb1.size; simpa using this)
  clear hb1 r1 HB HN
  by_cases hc : CanBe is s
  case neg =>
    have HC := Hid.mk hc
    clear hc
    go_wp2_with fail
    refine (good_no HC.out _).mono ?_
    rintro e w2 ⟨rfl, hb2⟩
    have HB2 := Hid.mk (HB1.out.trans (hb2.mono HB1.out.size))
    clear hb2
    go_wp2
    go_ret
    exact ⟨rfl, HB2.out⟩
  have HC := Hid.mk hc
  clear hc
  go_wp2_with fail
  refine (good_yes HC.out _).mono ?_
  rintro e w2 ⟨rfl, hb2⟩
  have HB2 := Hid.mk (HB1.out.trans (hb2.mono HB1.out.size))
  have r2 := (hb2.block w.heap.size (by have := HL1.out; omega)).trans HR1.out
  have HR2 := Hid.mk r2
  have HL2 : Hid (w.heap.size + 1 ≤ w2.heap.size) := Hid.mk (Nat.le_trans HL1.out hb2.size)
  clear hb2 HR1 HL1 c0 c1
  by_cases h0 : a < b
  · go_wp2
    go_ret
    exact ⟨rfl, HB2.out⟩
  by_cases h1 : b < 0
  · go_wp2
    go_ret
    exact ⟨rfl, HB2.out⟩
  by_cases h2 : 32 < a
  · go_wp2
    go_ret
    exact ⟨rfl, HB2.out⟩
  have x0 : w2.cell? ⟨w.heap.size, 0, none⟩ = some (.bool is) := cell_at r2 rfl
  have x1 : w2.cell? ⟨w.heap.size, 1, none⟩ = some (.string s) := cell_at r2 rfl
  obtain ⟨A, hA⟩ : ∃ A, A = w.heap.size := ⟨_, rfl⟩
  have lay : ∀ z, Below (A + 1) w2 z → z.cell? ⟨A, 0, none⟩ = some (.bool is) ∧ z.cell? ⟨A, 1, none⟩ = some (.string s) := by
    intro z hz
    rw [← hA] at r2
    have e1 := (hz.block A (by omega)).trans r2
    exact ⟨cell_at e1 rfl, cell_at e1 rfl⟩
  have LAY := Hid.mk lay
  have HZB : Hid (A + 1 ≤ w2.heap.size) := Hid.mk (by rw [hA]; exact HL2.out)
  obtain ⟨T1, hT1⟩ : ∃ T, T = cutS is s a := ⟨_, rfl⟩
  obtain ⟨T2, hT2⟩ : ∃ T, T = cutS is s b := ⟨_, rfl⟩
  have C1 : Hid (∀ z, Calls Try.prog 11 #[.agg #[.bool is, .string s], .int .i64 a] z fun e z' => e = .returned (.agg #[.bool is, .string T1]) ∧ Below z.heap.size z z') := Hid.mk (by
    intro z
    rw [hT1]
    exact cut_any HC.out a z)
  have C2 : Hid (∀ z, Calls Try.prog 11 #[.agg #[.bool is, .string T1], .int .i64 b] z fun e z' => e = .returned (.agg #[.bool is, .string T2]) ∧ Below z.heap.size z z') := Hid.mk (by
    intro z
    rw [hT1, hT2, ← cutS_twice is s a b (by omega) (by omega) (by omega)]
    exact cut_any (cutS_can HC.out a) b z)
  have C3 : Hid (∀ z, Calls Try.prog 11 #[.agg #[.bool is, .string s], .int .i64 b] z fun e z' => e = .returned (.agg #[.bool is, .string T2]) ∧ Below z.heap.size z z') := Hid.mk (by
    intro z
    rw [hT2]
    exact cut_any HC.out b z)
  have C4 : Hid (∀ z, Calls Try.prog 11 #[.agg #[.bool is, .string s], .int .i64 s.size] z fun e z' => e = .returned (.agg #[.bool is, .string s]) ∧ Below z.heap.size z z') := Hid.mk (by
    intro z
    have h := cut_any HC.out (s.size : Int) z
    rw [cutS_own is s] at h
    exact h)
  clear r2 lay hT1 hT2
  go_wp2_with fail
  rw [← hA]
  rw [← hA] at x0 x1
  have HA := Hid.mk hA
  clear hA
  go_region_held3 (fun wx => wx.cell? ⟨A, 0, none⟩ = some (.bool is) ∧ wx.cell? ⟨A, 1, none⟩ = some (.string s))
    (first
      | exact ⟨x0, x1⟩
      | exact hS4
      | exact hS3
      | exact hS2
      | exact hS1
      | fail)
    (first
      | (go_at_call_of 11 (Value.string T1); refine (C2.out _).mono ?_; rintro e z2 ⟨rfl, hz2⟩; have hb2 : Below (A + 1) w2 z2 := (by first | exact farther HZB.out hb1 hz2 | exact farther HZB.out hb1.drew hz2); have hS2 := LAY.out _ hb2)
      | (go_at_call_of 11 (Value.int IntKind.i64 (s.size : Int)); refine (C4.out _).mono ?_; rintro e z4 ⟨rfl, hz4⟩; have hb4 : Below (A + 1) w2 z4 := (by first | exact farther HZB.out hb3 hz4 | exact farther HZB.out hb3.drew hz4); have hS4 := LAY.out _ hb4)
      | (go_at_call_of 11 (Value.int IntKind.i64 a); refine (C1.out _).mono ?_; rintro e z1 ⟨rfl, hz1⟩; have hb1 : Below (A + 1) w2 z1 := (by first | exact farther HZB.out ((Below.refl _ w2).drew) hz1 | exact farther HZB.out (Below.refl _ w2) hz1); have hS1 := LAY.out _ hb1)
      | (go_at_call_of 11 (Value.int IntKind.i64 b); refine (C3.out _).mono ?_; rintro e z3 ⟨rfl, hz3⟩; have hb3 : Below (A + 1) w2 z3 := (by first | exact farther HZB.out hb2 hz3 | exact farther HZB.out hb2.drew hz3); have hS3 := LAY.out _ hb3))
  have hb : Below w.heap.size w z4 := HB2.out.trans (hb4.mono (by rw [HA.out]; omega))
  have HBZ := Hid.mk hb
  clear hb hz1 hz2 hz3 hz4 hb1 hb2 hb3 hb4 hS1 hS2 hS3 hS4
  go_wp2
  go_ret
  exact ⟨rfl, HBZ.out⟩

set_option maxRecDepth 100000 in
theorem lifted (os : Os) (started : os.Started) (H : Type) (enc : TypeId × Value → H) :
    ReturnsInHanded {} Try.checked os 5 .any (Rows.fileCutsSpec.pre6 enc Try.prog Try.f5 Rows.fileCutsRow.domain false) (Rows.fileCutsSpec.post enc Try.prog Try.f5 false true false false) := by
  refine returnsInHanded_of_change (C := Try.checked) own started (by kernel_rfl) Try.func5
    (ChangeSpec.witness6 (enc := enc) (C := Try.checked) false ⟨#[], #[.agg #[.bool false, .string .empty], .int .i64 0, .int .i64 0], []⟩ 8 (by kernel_rfl) (by kernel_rfl) (by kernel_rfl) (by kernel_rfl)) ?_
  intro W base args ds gs before hval0 hW hcnd _
  have hval : ∀ (j : Nat) t v, Try.f5.params[j]? = some t → args[j]? = some v → Value.okWide Try.prog W .any base t v := hval0
  have hW' := hW
  obtain ⟨p, q, hA0, hV, rfl, hfz, hnd⟩ := hW
  have hA : DataW.TrodAll enc Try.prog W 0 (fun _ => true) true Try.f5.params.toList args.toList ds p := hA0
  rw [Try.params5] at hA hval
  obtain ⟨v0, vs0, d0, ds0, p0, q0, hargs, rfl, rfl, h0, r0⟩ := trodAll_cons hA
  obtain ⟨v1, vs1, d1, ds1, p1, q1, rfl, rfl, rfl, h1, r1⟩ := trodAll_cons r0
  obtain ⟨v2, vs2, d2, ds2, p2, q2, rfl, rfl, rfl, h2, r2⟩ := trodAll_cons r1
  obtain ⟨rfl, rfl, rfl⟩ := trodAll_nil r2
  obtain rfl : args = #[v0, v1, v2] := by cases args; simp_all
  obtain ⟨rfl, rfl⟩ := trodVars_none hV
  obtain ⟨ca0, rfl, hz0⟩ := okWide_struct Try.underlying23 (hval 0 23 v0 rfl rfl)
  have lt0 : ∀ x ∈ p0, x.block < W.heap.size := by obtain ⟨m, hm⟩ := h0; exact DataW.trod_lt m _ _ _ hm
  obtain ⟨is0, s0, e0⟩ : ∃ (is : Bool) (s : ByteArray), ca0 = #[.bool is, .string s] := by
    obtain ⟨fuel, hf⟩ := h0
    obtain ⟨is, s, hc, _⟩ := open_fl hf
    exact ⟨is, s, by simpa [Value.cells] using congrArg List.toArray hc⟩
  subst e0
  have k0 := h0
  obtain ⟨a1, rfl, rfl, rfl, w1⟩ := open_int Try.underlying3 (hval 1 3 v1 rfl rfl) h1
  obtain ⟨a2, rfl, rfl, rfl, w2⟩ := open_int Try.underlying3 (hval 2 3 v2 rfl rfl) h2
  clear hA0 hval0
  refine (walk is0 s0 a1 a2 W w1 w2).mono fun e W' ⟨he, bel⟩ => ?_
  subst he
  exact ⟨_, rfl, _, _, _, [], _, [], hW', trodAll_mk1 (shut_bool Try.underlying4 _), (trodAll_cons_mk (Below.trod laidOut (by kernel_rfl) (of_decide_eq_true (by kernel_rfl)) k0 bel lt0) (trodAll_cons_mk (shut_int Try.underlying3 w1) (trodAll_cons_mk (shut_int Try.underlying3 w2) trodAll_mk0))), rfl, bel.frame _, fun h => by cases h⟩

set_option maxRecDepth 100000 in
theorem over : Rows.fileCutsRow.holds Try.pinned (OpenSpec.ofChange Rows.fileCutsSpec) :=
  OpenClaim.holds_of_wide 5 Try.f5 rfl rfl rfl rfl rfl rfl rfl ⟨rfl, rfl, rfl, rfl, rfl⟩ rfl rfl rfl rfl rfl (by kernel_rfl) Try.func5 (by kernel_rfl)
    (of_decide_eq_true (by kernel_rfl)) (by unfold Func.isWrapper; first | (rw [if_pos (by decide +kernel)]; kernel_rfl) | (rw [if_neg (by decide +kernel)]; exact ⟨rfl, rfl⟩))
    (fun os started H enc _ => lifted os started H enc)

end Go.Proofs.Ytajongclalcigaa.fileCuts

namespace Go.Proofs.Ytajongclalcigaa
/-- The statement. -/
theorem fileCuts_holds : Rows.FileCutsSaid := fileCuts.over
#print axioms fileCuts_holds
end Go.Proofs.Ytajongclalcigaa
