/-
  FilePuts: for every file, place, byte and other place, the law returns true: a byte that was put is there, and no other one is changed. No condition.
-/
import Derived.Test.YtajongclalcigaaFAt
namespace Go.Proofs.Ytajongclalcigaa.filePuts
open Go.ChangeShapes Go.WideShapes Go.ChangeAt Go.RowKit Go.Deep Go.Proofs.Ytajongclalcigaa.Fil

set_option maxRecDepth 100000 in
set_option maxHeartbeats 4000000 in
theorem walk (is : Bool) (s : ByteArray) (at_ : Int) (b : UInt8) (other : Int) (w : World) (_h1 : (Lit.int .i64 at_).wf = true) (_h3 : (Lit.int .i64 other).wf = true) :
    Calls Try.prog 4 #[.agg #[.bool is, .string s], .int .i64 at_, .int .u8 b.toNat, .int .i64 other] w fun e w' => e = .returned (.bool true) ∧ Below w.heap.size w w' := by
  have HB := Hid.mk ((Below.refl w.heap.size w).alloc (Nat.le_refl _) (.cells #[.bool is, .string s] 23))
  have HN := Hid.mk (heap_new w (.cells #[.bool is, .string s] 23))
  go_enter Try.func4, Try.ntmps4
  go_wp2_with fail
  refine (alive_any _).mono ?_
  rintro e w1 ⟨rfl, hb1⟩
  have r1 := (hb1.block w.heap.size (by simp)).trans HN.out
  have c0 : w1.cell? ⟨w.heap.size, 0, none⟩ = some (.bool is) := cell_at r1 rfl
  have c1 : w1.cell? ⟨w.heap.size, 1, none⟩ = some (.string s) := cell_at r1 rfl
  have HB1 := Hid.mk (HB.out.trans (hb1.mono (by simp)))
  have HR1 := Hid.mk r1
  have HL1 : Hid (w.heap.size + 1 ≤ w1.heap.size) := Hid.mk (by have := hb1.size; simpa using this)
  clear hb1 r1 HB HN
  by_cases hc : CanBe is s
  case neg =>
    have HC := Hid.mk hc
    clear hc
    go_wp2_with fail
    refine (good_no HC.out _).mono ?_
    rintro e w2 ⟨rfl, hb2⟩
    have HB2 := Hid.mk (HB1.out.trans (hb2.mono HB1.out.size))
    clear hb2
    go_wp2
    go_ret
    exact ⟨rfl, HB2.out⟩
  have HC := Hid.mk hc
  clear hc
  go_wp2_with fail
  refine (good_yes HC.out _).mono ?_
  rintro e w2 ⟨rfl, hb2⟩
  have HB2 := Hid.mk (HB1.out.trans (hb2.mono HB1.out.size))
  have r2 := (hb2.block w.heap.size (by have := HL1.out; omega)).trans HR1.out
  have HR2 := Hid.mk r2
  have HL2 : Hid (w.heap.size + 1 ≤ w2.heap.size) := Hid.mk (Nat.le_trans HL1.out hb2.size)
  clear hb2 HR1 HL1 c0 c1
  by_cases h0 : at_ < 0
  · go_wp2
    go_ret
    exact ⟨rfl, HB2.out⟩
  by_cases h1 : 31 < at_
  · go_wp2
    go_ret
    exact ⟨rfl, HB2.out⟩
  obtain ⟨k, rfl⟩ : ∃ k : Nat, at_ = (k : Int) := ⟨at_.toNat, by omega⟩
  have hk : k < 32 := by omega
  have c0 : w2.cell? ⟨w.heap.size, 0, none⟩ = some (.bool is) := cell_at r2 rfl
  have c1 : w2.cell? ⟨w.heap.size, 1, none⟩ = some (.string s) := cell_at r2 rfl
  obtain ⟨p, hp⟩ : ∃ p, p = txt (put s.data.toList k b) := ⟨_, rfl⟩
  have hput := put_yes HC.out k hk b w2
  rw [← hp] at hput
  have HP := Hid.mk hput
  have hcp : CanBe true p := by rw [hp]; exact put_can s k b HC.out.le hk
  have HCP := Hid.mk hcp
  have hth := put_there s k b
  have hot := put_other s k b other
  have hsz := put_size s k b
  rw [← hp] at hth hot hsz
  have HTH := Hid.mk hth
  have HOT := Hid.mk hot
  have HSZ := Hid.mk hsz
  clear hput hcp hp r2 hth hot hsz
  go_wp2_with fail
  refine HP.out.mono ?_
  rintro e w3 ⟨rfl, hb3⟩
  have HB3 := Hid.mk ((HB2.out.trans (hb3.mono HB2.out.size)).alloc (by have := HB2.out.size; have := hb3.size; omega) (.cells #[.bool true, .string p] 23))
  have r3 := (hb3.block w.heap.size (by have := HL2.out; omega)).trans HR2.out
  have r4 := (Below.heap_alloc w3 (.cells #[.bool true, .string p] 23) w.heap.size (by have := HL2.out; have := hb3.size; omega)).trans r3
  have n3 := heap_new w3 (.cells #[.bool true, .string p] 23)
  have hle : w.heap.size < w3.heap.size := by have := HL2.out; have := hb3.size; omega
  have hne : w.heap.size ≠ w3.heap.size := by omega
  have x0 : (w3.alloc (.cells #[.bool true, .string p] 23)).cell? ⟨w.heap.size, 0, none⟩ = some (.bool is) := cell_at r4 rfl
  have x1 : (w3.alloc (.cells #[.bool true, .string p] 23)).cell? ⟨w.heap.size, 1, none⟩ = some (.string s) := cell_at r4 rfl
  have y0 : (w3.alloc (.cells #[.bool true, .string p] 23)).cell? ⟨w3.heap.size, 0, none⟩ = some (.bool true) := cell_at n3 rfl
  have y1 : (w3.alloc (.cells #[.bool true, .string p] 23)).cell? ⟨w3.heap.size, 1, none⟩ = some (.string p) := cell_at n3 rfl
  have HR4 := Hid.mk r4
  have HN3 := Hid.mk n3
  have HLE := Hid.mk hle
  clear hb3 r3 r4 n3 hle c0 c1
  have lay : ∀ z, Below (w3.heap.size + 1) (w3.alloc (.cells #[.bool true, .string p] 23)) z → z.cell? ⟨w.heap.size, 0, none⟩ = some (.bool is) ∧ z.cell? ⟨w.heap.size, 1, none⟩ = some (.string s) ∧ z.cell? ⟨w3.heap.size, 0, none⟩ = some (.bool true) ∧ z.cell? ⟨w3.heap.size, 1, none⟩ = some (.string p) := by
    intro z hz
    have e1 := (hz.block w.heap.size (by have := HLE.out; omega)).trans HR4.out
    have e2 := (hz.block w3.heap.size (by omega)).trans HN3.out
    exact ⟨cell_at e1 rfl, cell_at e1 rfl, cell_at e2 rfl, cell_at e2 rfl⟩
  have LAY := Hid.mk lay
  have hA : w.heap.size < w3.heap.size := HLE.out
  obtain ⟨wA, hwA⟩ : ∃ wA, wA = w3.alloc (.cells #[.bool true, .string p] 23) := ⟨_, rfl⟩
  have hzA : wA.heap.size = w3.heap.size + 1 := by rw [hwA]; simp
  rw [← hwA] at x0 x1 y0 y1 LAY HB3
  have HWA := Hid.mk hwA
  have HZA := Hid.mk hzA
  have HZB : Hid (w3.heap.size + 1 ≤ wA.heap.size) := Hid.mk (by rw [hzA]; exact Nat.le_refl _)
  clear hzA hwA lay HR4 HN3 hne hA
  obtain ⟨X, hX⟩ : ∃ X, X = atI s other := ⟨_, rfl⟩
  obtain ⟨Y, hY⟩ : ∃ Y, Y = atI p other := ⟨_, rfl⟩
  have cX : ∀ z, Calls Try.prog 14 #[.agg #[.bool is, .string s], .int .i64 other] z fun e z' => e = .returned (.int .i64 X) ∧ Below z.heap.size z z' := by
    intro z
    rw [hX]
    exact at_any HC.out other z
  have cY : ∀ z, Calls Try.prog 14 #[.agg #[.bool true, .string p], .int .i64 other] z fun e z' => e = .returned (.int .i64 Y) ∧ Below z.heap.size z z' := by
    intro z
    rw [hY]
    exact at_any HCP.out other z
  have CX := Hid.mk cX
  have CY := Hid.mk cY
  have hot := HOT.out
  rw [← hX, ← hY] at hot
  have HO2 := Hid.mk hot
  clear cX cY hX hY hot HOT
  go_wp2_with fail
  rw [← HWA.out]
  obtain ⟨A, hA⟩ : ∃ A, A = w.heap.size := ⟨_, rfl⟩
  obtain ⟨M, hM⟩ : ∃ M, M = w3.heap.size := ⟨_, rfl⟩
  rw [← hA, ← hM]
  rw [← hA] at x0 x1 LAY
  rw [← hM] at y0 y1 LAY HZA HZB
  have HA := Hid.mk hA
  have HM := Hid.mk hM
  clear hA hM
  go_region_held3 (fun wx => wx.cell? ⟨A, 0, none⟩ = some (.bool is) ∧ wx.cell? ⟨A, 1, none⟩ = some (.string s) ∧ wx.cell? ⟨M, 0, none⟩ = some (.bool true) ∧ wx.cell? ⟨M, 1, none⟩ = some (.string p))
    (first
      | exact ⟨x0, x1, y0, y1⟩
      | exact hS1
      | exact hS2)
    (first
      | (go_at_call_of 14 (Value.string p); refine (CY.out _).mono ?_; rintro e z2 ⟨rfl, hz2⟩; have hb2 : Below (M + 1) wA z2 := farther HZB.out hb1 hz2; have hS2 := LAY.out _ hb2)
      | (go_at_call_of 14 (Value.string s); refine (CX.out _).mono ?_; rintro e z1 ⟨rfl, hz1⟩; have hb1 : Below (M + 1) wA z1 := farther HZB.out ((Below.refl _ wA).drew) hz1; have hS1 := LAY.out _ hb1))
  obtain ⟨y0, y1, y2, y3⟩ := hS2
  have HB4 := Hid.mk hb2
  clear hz1 hb1 hS1 hz2 hb2 x0 x1
  have cZ := fun z => at_any HCP.out k z
  rw [HTH.out] at cZ
  have CZ := Hid.mk cZ
  clear cZ
  have wz : wrap64 (b.toNat : Int) = (b.toNat : Int) := wrap_u8 b
  go_wp2_with fail
  refine (CZ.out _).mono ?_
  rintro e z3 ⟨rfl, hz3⟩
  have hb3 : Below (M + 1) wA z3 := farther HZB.out HB4.out hz3
  obtain ⟨x0, x1, y0, y1⟩ := LAY.out _ hb3
  have HB5 := Hid.mk hb3
  have FIN : Hid (Below w.heap.size w z3) := Hid.mk (HB3.out.trans (HB5.out.mono (by rw [HM.out]; have := HLE.out; omega)))
  have HZ := HSZ.out
  clear hz3 hb3 y2 y3
  by_cases hs : s.size ≤ k
  · have e1 : ((p.size : Int) == (k : Int) + 1) = true := by simp; omega
    have e2 : (s.size : Int) < (k : Int) + 1 := by omega
    clear HZ
    by_cases ho : other = k
    · have o1 : (other == (k : Int)) = true := by simpa using ho
      clear ho
      go_wp2
      go_ret
      exact ⟨rfl, FIN.out⟩
    · have o1 : (other == (k : Int)) = false := by simpa using ho
      rcases HO2.out ho with hxy | ⟨hx, hy, h3, h4⟩
      · have o2 : (X == Y) = true := by simpa using hxy
        clear ho hxy
        go_wp2
        go_ret
        exact ⟨rfl, FIN.out⟩
      · have o2 : (X == Y) = false := by simp; omega
        have o3 : (X == -1) = true := by simpa using hx
        have o4 : (Y == 0) = true := by simpa using hy
        clear ho hx hy
        go_wp2
        go_ret
        exact ⟨rfl, FIN.out⟩
  · have e1 : (p.size == s.size) = true := by simp; omega
    have e2 : ¬ (s.size : Int) < (k : Int) + 1 := by omega
    clear HZ
    by_cases ho : other = k
    · have o1 : (other == (k : Int)) = true := by simpa using ho
      clear ho
      go_wp2
      go_ret
      exact ⟨rfl, FIN.out⟩
    · have o1 : (other == (k : Int)) = false := by simpa using ho
      rcases HO2.out ho with hxy | ⟨hx, hy, h3, h4⟩
      · have o2 : (X == Y) = true := by simpa using hxy
        clear ho hxy
        go_wp2
        go_ret
        exact ⟨rfl, FIN.out⟩
      · exact absurd h4 (by omega)

set_option maxRecDepth 100000 in
theorem lifted (os : Os) (started : os.Started) (H : Type) (enc : TypeId × Value → H) :
    ReturnsInHanded {} Try.checked os 4 .any (Rows.filePutsSpec.pre6 enc Try.prog Try.f4 Rows.filePutsRow.domain false) (Rows.filePutsSpec.post enc Try.prog Try.f4 false true false false) := by
  refine returnsInHanded_of_change (C := Try.checked) own started (by kernel_rfl) Try.func4
    (ChangeSpec.witness6 (enc := enc) (C := Try.checked) false ⟨#[], #[.agg #[.bool false, .string .empty], .int .i64 0, .int .u8 0, .int .i64 0], []⟩ 8 (by kernel_rfl) (by kernel_rfl) (by kernel_rfl) (by kernel_rfl)) ?_
  intro W base args ds gs before hval0 hW hcnd _
  have hval : ∀ (j : Nat) t v, Try.f4.params[j]? = some t → args[j]? = some v → Value.okWide Try.prog W .any base t v := hval0
  have hW' := hW
  obtain ⟨p, q, hA0, hV, rfl, hfz, hnd⟩ := hW
  have hA : DataW.TrodAll enc Try.prog W 0 (fun _ => true) true Try.f4.params.toList args.toList ds p := hA0
  rw [Try.params4] at hA hval
  obtain ⟨v0, vs0, d0, ds0, p0, q0, hargs, rfl, rfl, h0, r0⟩ := trodAll_cons hA
  obtain ⟨v1, vs1, d1, ds1, p1, q1, rfl, rfl, rfl, h1, r1⟩ := trodAll_cons r0
  obtain ⟨v2, vs2, d2, ds2, p2, q2, rfl, rfl, rfl, h2, r2⟩ := trodAll_cons r1
  obtain ⟨v3, vs3, d3, ds3, p3, q3, rfl, rfl, rfl, h3, r3⟩ := trodAll_cons r2
  obtain ⟨rfl, rfl, rfl⟩ := trodAll_nil r3
  obtain rfl : args = #[v0, v1, v2, v3] := by cases args; simp_all
  obtain ⟨rfl, rfl⟩ := trodVars_none hV
  obtain ⟨ca0, rfl, hz0⟩ := okWide_struct Try.underlying23 (hval 0 23 v0 rfl rfl)
  have lt0 : ∀ x ∈ p0, x.block < W.heap.size := by obtain ⟨m, hm⟩ := h0; exact DataW.trod_lt m _ _ _ hm
  obtain ⟨is0, s0, e0⟩ : ∃ (is : Bool) (s : ByteArray), ca0 = #[.bool is, .string s] := by
    obtain ⟨fuel, hf⟩ := h0
    obtain ⟨is, s, hc, _⟩ := open_fl hf
    exact ⟨is, s, by simpa [Value.cells] using congrArg List.toArray hc⟩
  subst e0
  have k0 := h0
  obtain ⟨a1, rfl, rfl, rfl, w1⟩ := open_int Try.underlying3 (hval 1 3 v1 rfl rfl) h1
  obtain ⟨a2, rfl, rfl, rfl, w2⟩ := open_int Try.underlying5 (hval 2 5 v2 rfl rfl) h2
  obtain ⟨b2, rfl⟩ := u8_of w2
  obtain ⟨a3, rfl, rfl, rfl, w3⟩ := open_int Try.underlying3 (hval 3 3 v3 rfl rfl) h3
  clear hA0 hval0
  refine (walk is0 s0 a1 b2 a3 W w1 w3).mono fun e W' ⟨he, bel⟩ => ?_
  subst he
  exact ⟨_, rfl, _, _, _, [], _, [], hW', trodAll_mk1 (shut_bool Try.underlying4 _), (trodAll_cons_mk (Below.trod laidOut (by kernel_rfl) (of_decide_eq_true (by kernel_rfl)) k0 bel lt0) (trodAll_cons_mk (shut_int Try.underlying3 w1) (trodAll_cons_mk (shut_int Try.underlying5 w2) (trodAll_cons_mk (shut_int Try.underlying3 w3) trodAll_mk0)))), rfl, bel.frame _, fun h => by cases h⟩

set_option maxRecDepth 100000 in
theorem over : Rows.filePutsRow.holds Try.pinned (OpenSpec.ofChange Rows.filePutsSpec) :=
  OpenClaim.holds_of_wide 4 Try.f4 rfl rfl rfl rfl rfl rfl rfl ⟨rfl, rfl, rfl, rfl, rfl⟩ rfl rfl rfl rfl rfl (by kernel_rfl) Try.func4 (by kernel_rfl)
    (of_decide_eq_true (by kernel_rfl)) (by unfold Func.isWrapper; first | (rw [if_pos (by decide +kernel)]; kernel_rfl) | (rw [if_neg (by decide +kernel)]; exact ⟨rfl, rfl⟩))
    (fun os started H enc _ => lifted os started H enc)

end Go.Proofs.Ytajongclalcigaa.filePuts

namespace Go.Proofs.Ytajongclalcigaa
/-- The statement. -/
theorem filePuts_holds : Rows.FilePutsSaid := filePuts.over
#print axioms filePuts_holds
end Go.Proofs.Ytajongclalcigaa
