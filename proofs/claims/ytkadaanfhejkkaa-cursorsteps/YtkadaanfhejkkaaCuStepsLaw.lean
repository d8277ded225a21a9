/-
  CursorSteps: for every row of steps, every socket and every place the law returns true: each answer, and how many were read, are the document's. No condition.
-/
import Derived.Test.YtkadaanfhejkkaaCuRef
namespace Go.Proofs.Ytkadaanfhejkkaa.cursorSteps
open Go.ChangeShapes Go.WideShapes Go.ChangeAt Go.RowKit Go.Deep Go.Proofs.Ytkadaanfhejkkaa.Cel Go.Proofs.Ytkadaanfhejkkaa.Cur

set_option maxHeartbeats 8000000 in
set_option maxRecDepth 100000 in
theorem walk (a : Option Addr) (len cap : Nat) (zs : List Int) (s p : Int) (w : World) (ha : IsInts w a len cap zs) :
    Calls Try.prog 3 #[.slice a len cap, .int .i64 s, .int .i64 p] w fun e w' => e = .returned (.bool true) ∧ Below w.heap.size w w' := by
  go_enter Try.func3, Try.ntmps3
  go_wp2_with fail
  refine (aliveC w).mono ?_
  rintro e w1 ⟨rfl, hb⟩
  by_cases h300 : 300 < len
  · have h2 : (300 : Int) < (len : Int) := by omega
    go_wp2
    go_ret
    exact ⟨rfl, hb⟩
  have h2 : ¬ (300 : Int) < (len : Int) := by omega
  by_cases hp0 : p < 0
  · go_wp2
    go_ret
    exact ⟨rfl, hb⟩
  by_cases hp1 : (1099511627776 : Int) < p
  · go_wp2
    go_ret
    exact ⟨rfl, hb⟩
  have HA := Hid.mk ha
  have HL := Hid.mk ha.1
  have HC0 := Hid.mk ha.2.1
  have HB := Hid.mk (hb.alloc hb.size (.cells #[.int .i64 0, .int .i64 0, .int .i64 0] 27))
  have HC := Hid.mk (CurAt.made w1)
  have HSZ := Hid.mk hb.size
  clear ha hb
  go_wp2_with fail
  obtain ⟨b, hbb⟩ : ∃ b, b = w1.heap.size := ⟨_, rfl⟩
  rw [← hbb] at HC HSZ ⊢
  obtain ⟨w2, hw2⟩ : ∃ z, z = w1.alloc (.cells #[.int .i64 0, .int .i64 0, .int .i64 0] 27) := ⟨_, rfl⟩
  rw [← hw2] at HC HB ⊢
  clear hbb hw2
  go_loopw [8, 9, 10, 11, 12, 33] (fun an _ _ _ _ i wr => ∃ k : Nat, k ≤ len ∧ i = .int .i64 k ∧ an = .bool (anyF (ofZ (zs.take k))) ∧ Hid (CurAt wr b (ofZ (zs.take k))) ∧ Hid (Below w.heap.size w wr)) (fun _ _ _ _ _ i _ => len - (intOf i).toNat)
  case atStart => exact ⟨0, Nat.zero_le _, rfl, rfl, HC, HB⟩
  case round =>
    clear HC HB
    obtain ⟨k, hk, rfl, rfl, HC, HB⟩ := hrel
    by_cases hlt : k < len
    · have HI := Hid.mk (HA.out.grown HB.out)
      obtain ⟨g, off, hz, rfl, hc⟩ := HI.out.at_ k hlt
      obtain ⟨x, hx⟩ : ∃ x, x = zs[k] := ⟨_, rfl⟩
      rw [← hx] at hc
      have hst : zs.take (k + 1) = zs.take k ++ [x] := by rw [List.take_succ_eq_append_getElem hz, hx]
      have hof := ofZ_add (zs.take k) x
      rw [← hst] at hof
      have HOF := Hid.mk hof
      have hcap : k ≤ cap := by have := HC0.out; omega
      have hcap2 : k + 1 ≤ cap := by have := HC0.out; omega
      have hr1 := refRead_any (HI.out.take k (Nat.le_of_lt hlt)) (by omega) x
      have hr2 := fun (z : World) (hz : Below w.heap.size w z) => refRead_any ((HA.out.grown hz).take (k + 1) hlt) (by omega) x
      have hle := cnt_le (zs.take k) x
      have hok := ofZ_ok (zs.take k) x
      have hany := any_st (ofZ (zs.take k)) x
      rw [hof] at hany
      have hrd := ofZ_rd (zs.take (k + 1)) x
      have hstep := step_any HC.out.drew x
      rw [hof] at hstep
      obtain ⟨n, hn⟩ : ∃ n, n = cnt (zs.take k) x := ⟨_, rfl⟩
      obtain ⟨n2, hn2⟩ : ∃ n2, n2 = cnt (zs.take (k + 1)) x := ⟨_, rfl⟩
      rw [← hn] at hr1 hle hok
      rw [← hn2] at hr2 hrd
      obtain ⟨an, han⟩ : ∃ an, an = anyF (ofZ (zs.take k)) := ⟨_, rfl⟩
      rw [← han] at hany ⊢
      obtain ⟨ok, hok2⟩ : ∃ ok, ok = okF (ofZ (zs.take k)) x := ⟨_, rfl⟩
      rw [← hok2] at hstep hok hany
      have HR1 := Hid.mk hr1
      have HR2 := Hid.mk hr2
      have HS := Hid.mk hstep
      have HAN := Hid.mk hany
      have HRD := Hid.mk hrd
      have HK := Hid.mk hlt
      clear hr1 hr2 hstep hany hrd hn hn2 han hok2 hx hst hof
      obtain ⟨K, hK⟩ : ∃ K, K = k + 1 := ⟨_, rfl⟩
      have hwr : IntKind.i64.wrap ((k : Int) + 1) = (K : Int) := by rw [IntKind.wrap_i64]; omega
      have hk0 : (0 : Int) ≤ (K : Int) := by omega
      have hk1 : (K : Int) ≤ (cap : Int) := by omega
      rw [← hK] at HR2
      have HKK := Hid.mk hK
      clear hK
      have h4 : (decide (0 ≤ x) = false ∧ ok = false) ∨ (decide (0 ≤ x) = true ∧ decide (x ≤ 2) = false ∧ ok = false) ∨ (decide (0 ≤ x) = true ∧ decide (x ≤ 2) = true ∧ decide ((n : Int) < 64) = false ∧ ok = false) ∨ (decide (0 ≤ x) = true ∧ decide (x ≤ 2) = true ∧ decide ((n : Int) < 64) = true ∧ ok = true) := by
        rw [hok]
        unfold isS
        by_cases q0 : 0 ≤ x <;> by_cases q1 : x ≤ 2 <;> by_cases q2 : n < 64 <;> simp [q0, q1, q2] <;> omega
      clear hok
      cases an with
      | true =>
        rcases h4 with ⟨q0, rfl⟩ | ⟨q0, q1, rfl⟩ | ⟨q0, q1, q2, rfl⟩ | ⟨q0, q1, q2, rfl⟩
        all_goals
          go_wp2_with fail
          refine HR1.out.mono ?_
          rintro e w3 ⟨rfl, hw3⟩
          rw [hw3]
          clear hw3 w3
          go_wp2_with fail
          go_region_held3 (fun _ => True) (trivial)
            (first
              | (go_at_call 6; have m2 := m1; refine (HR2.out _ HB4.out).mono ?_; rintro e w6 ⟨rfl, hw6⟩; rw [hw6]; clear hw6 w6)
              | (go_at_call 8; have m1 := HC4; refine HR5.out.mono ?_; rintro e w5 ⟨rfl, hw5⟩; rw [hw5]; clear hw5 w5)
              | (go_at_call 7; refine HS.out.mono ?_; rintro e w4 ⟨rfl, h4, ho4⟩; have HC4 := Hid.mk h4; have hr5 := read_any h4 x; rw [HRD.out] at hr5; have HR5 := Hid.mk hr5; have HB4 := Hid.mk (HB.out.drew.trans (ho4.below HSZ.out)); clear h4 ho4 hr5))
          all_goals
            go_wp2
            go_roundw
            case rel => exact ⟨k + 1, HK.out, by rw [HKK.out], by rw [HAN.out]; rfl, HC4, HB4⟩
            case measure => have := HK.out; have := HKK.out; simp [intOf]; omega
      | false =>
        rcases h4 with ⟨q0, rfl⟩ | ⟨q0, q1, rfl⟩ | ⟨q0, q1, q2, rfl⟩ | ⟨q0, q1, q2, rfl⟩
        all_goals
          go_wp2_with fail
          refine HR1.out.mono ?_
          rintro e w3 ⟨rfl, hw3⟩
          rw [hw3]
          clear hw3 w3
          go_wp2_with fail
          go_region_held3 (fun _ => True) (trivial)
            (first
              | (go_at_call 6; have m2 := m1; refine (HR2.out _ HB4.out).mono ?_; rintro e w6 ⟨rfl, hw6⟩; rw [hw6]; clear hw6 w6)
              | (go_at_call 8; have m1 := HC4; refine HR5.out.mono ?_; rintro e w5 ⟨rfl, hw5⟩; rw [hw5]; clear hw5 w5)
              | (go_at_call 7; refine HS.out.mono ?_; rintro e w4 ⟨rfl, h4, ho4⟩; have HC4 := Hid.mk h4; have hr5 := read_any h4 x; rw [HRD.out] at hr5; have HR5 := Hid.mk hr5; have HB4 := Hid.mk (HB.out.drew.trans (ho4.below HSZ.out)); clear h4 ho4 hr5))
          all_goals
            go_wp2
            go_roundw
            case rel => exact ⟨k + 1, HK.out, by rw [HKK.out], by rw [HAN.out]; rfl, HC4, HB4⟩
            case measure => have := HK.out; have := HKK.out; simp [intOf]; omega
    · have hkl : k = len := by omega
      have hall : zs.take k = zs := by rw [hkl]; exact List.take_of_length_le (Nat.le_of_eq HL.out)
      have hnk : ¬ (k : Int) < (len : Int) := by omega
      rw [hall] at HC ⊢
      have hr := fun (z : World) (hz : Below w.heap.size w z) (j : Int) => refRead_any (HA.out.grown hz) (by omega) j
      have hrd := ofZ_rd zs
      obtain ⟨f, hf⟩ : ∃ f, f = ofZ zs := ⟨_, rfl⟩
      rw [← hf] at HC hrd ⊢
      simp only [← hrd] at hr
      have hcp := copy_any HC.out
      obtain ⟨an, han⟩ : ∃ an, an = anyF f := ⟨_, rfl⟩
      have hsome := fun (z : World) (hz : CurAt z b f) => some_any hz
      rw [← han] at hsome ⊢
      obtain ⟨n, hn⟩ : ∃ n, n = rdF f s := ⟨_, rfl⟩
      have hrs := fun (z : World) (hz : Below w.heap.size w z) => hr z hz s
      have hqs := fun (z : World) (hz : CurAt z b f) => read_any hz s
      have hps := fun (z : World) (hz : CurAt z b f) => place_any hz s p (by omega) (by omega)
      have hle := HC.out.rd_le s
      rw [← hn] at hrs hqs hps hle
      obtain ⟨n0, hn0⟩ : ∃ n, n = rdF f 0 := ⟨_, rfl⟩
      have hr0 := fun (z : World) (hz : Below w.heap.size w z) => hr z hz 0
      have hq0 := fun (z : World) (hz : CurAt z b f) => read_any hz 0
      rw [← hn0] at hr0 hq0
      obtain ⟨n1, hn1⟩ : ∃ n, n = rdF f 1 := ⟨_, rfl⟩
      have hq1 := fun (z : World) (hz : CurAt z b f) => read_any hz 1
      have hot : rdF (stF f 0) 1 = rdF f 1 := rd_other f 0 1 (by decide) (by decide)
      rw [← hn1] at hq1 hot
      have HR := Hid.mk hrs
      have HR0 := Hid.mk hr0
      have HQ := Hid.mk hqs
      have HQ0 := Hid.mk hq0
      have HQ1 := Hid.mk hq1
      have HP := Hid.mk hps
      have HSO := Hid.mk hsome
      have HCP := Hid.mk hcp
      have HOT := Hid.mk hot
      have HBL := Hid.mk HC.out.lt
      have q3 : (0 : Int) ≤ p + (n : Int) := by omega
      have q4 : p + (n : Int) ≤ 1099511627840 := by omega
      clear hrs hr0 hqs hq0 hq1 hps hsome hcp hot hn hn0 hn1 han hf hrd hr hall hkl hlt
      go_wp2_with fail
      refine (HR.out _ HB.out).mono ?_
      rintro e w3 ⟨rfl, hw3⟩
      rw [hw3]
      clear hw3 w3
      go_wp2_with fail
      refine HCP.out.mono ?_
      rintro e w4 ⟨rfl, ho4, hb4⟩
      obtain ⟨D, hD⟩ : ∃ D, D = wr.heap.size := ⟨_, rfl⟩
      have HC4 := Hid.mk (HC.out.grown hb4)
      have HB4 := Hid.mk (HB.out.trans (hb4.mono HB.out.size))
      have hne : b ≠ D := by have := HBL.out; omega
      have hwd : w.heap.size ≤ D := by have := HB.out.size; omega
      rw [← hD] at ho4 ⊢
      have HO4 := Hid.mk ho4
      have HNE := Hid.mk hne
      have HWD := Hid.mk hwd
      clear ho4 hb4 hD hne hwd
      go_wp2_with fail
      refine (step_any HO4.out 0).mono ?_
      rintro e w5 ⟨rfl, ho5, hon5⟩
      have HO5 := Hid.mk ho5
      have HC5 := Hid.mk (HC4.out.other hon5 HNE.out)
      have HB5 := Hid.mk (HB4.out.trans (hon5.below HWD.out))
      have HQO := Hid.mk (read_any HO5.out 1)
      clear ho5 hon5
      have hq := HQO.out
      rw [show rdF (stF f 0) 1 = n1 from HOT.out] at hq
      have HQO1 := Hid.mk hq
      clear hq
      go_wp2_with fail
      refine (place_nil 0 p (by omega) (by omega) _).mono ?_
      rintro e w6 ⟨rfl, hw6⟩
      rw [hw6]
      clear hw6 w6
      go_wp2_with fail
      refine (step_nil 0 _).mono ?_
      rintro e w6 ⟨rfl, hw6⟩
      rw [hw6]
      clear hw6 w6
      go_wp2_with fail
      refine (read_nil 0 _).mono ?_
      rintro e w6 ⟨rfl, hw6⟩
      rw [hw6]
      clear hw6 w6
      go_wp2_with fail
      refine (any_nil _).mono ?_
      rintro e w6 ⟨rfl, hw6⟩
      rw [hw6]
      clear hw6 w6
      go_wp2_with fail
      refine (copy_nil _).mono ?_
      rintro e w6 ⟨rfl, hw6⟩
      rw [hw6]
      clear hw6 w6
      go_wp2_with fail
      refine (HQ.out _ HC5.out).mono ?_
      rintro e w6 ⟨rfl, hw6⟩
      rw [hw6]
      clear hw6 w6
      go_wp2_with fail
      refine (HP.out _ HC5.out).mono ?_
      rintro e w6 ⟨rfl, hw6⟩
      rw [hw6]
      clear hw6 w6
      go_wp2_with fail
      refine (HSO.out _ HC5.out).mono ?_
      rintro e w6 ⟨rfl, hw6⟩
      rw [hw6]
      clear hw6 w6
      go_wp2_with fail
      refine (HQ0.out _ HC5.out).mono ?_
      rintro e w6 ⟨rfl, hw6⟩
      rw [hw6]
      clear hw6 w6
      go_wp2_with fail
      refine (HR0.out _ HB5.out).mono ?_
      rintro e w6 ⟨rfl, hw6⟩
      rw [hw6]
      clear hw6 w6
      go_wp2_with fail
      refine HQO1.out.mono ?_
      rintro e w6 ⟨rfl, hw6⟩
      rw [hw6]
      clear hw6 w6
      go_wp2_with fail
      refine (HQ1.out _ HC5.out).mono ?_
      rintro e w6 ⟨rfl, hw6⟩
      rw [hw6]
      clear hw6 w6
      go_wp2
      go_ret
      exact ⟨rfl, HB5.out⟩
set_option maxRecDepth 100000 in
theorem lifted (os : Os) (started : os.Started) (H : Type) (enc : TypeId × Value → H) :
    ReturnsInHanded {} Try.checked os 3 .any (Rows.cursorStepsSpec.pre6 enc Try.prog Try.f3 Rows.cursorStepsRow.domain false) (Rows.cursorStepsSpec.post enc Try.prog Try.f3 false true false false) := by
  refine returnsInHanded_of_change (C := Try.checked) own started (by kernel_rfl) Try.func3
    (ChangeSpec.witness6 (enc := enc) (C := Try.checked) false ⟨#[], #[.slice none 0 0, .int .i64 0, .int .i64 0], []⟩ 8 (by kernel_rfl) (by kernel_rfl) (by kernel_rfl) (by kernel_rfl)) ?_
  intro W base args ds gs before hval0 hW hcnd _
  have hval : ∀ (j : Nat) t v, Try.f3.params[j]? = some t → args[j]? = some v → Value.okWide Try.prog W .any base t v := hval0
  have hW' := hW
  obtain ⟨p, q, hA0, hV, rfl, hfz, hnd⟩ := hW
  have hA : DataW.TrodAll enc Try.prog W 0 (fun _ => true) true Try.f3.params.toList args.toList ds p := hA0
  rw [Try.params3] at hA hval
  obtain ⟨v0, vs0, d0, ds0, p0, q0, hargs, rfl, rfl, h0, r0⟩ := trodAll_cons hA
  obtain ⟨v1, vs1, d1, ds1, p1, q1, rfl, rfl, rfl, h1, r1⟩ := trodAll_cons r0
  obtain ⟨v2, vs2, d2, ds2, p2, q2, rfl, rfl, rfl, h2, r2⟩ := trodAll_cons r1
  obtain ⟨rfl, rfl, rfl⟩ := trodAll_nil r2
  obtain rfl : args = #[v0, v1, v2] := by cases args; simp_all
  obtain ⟨rfl, rfl⟩ := trodVars_none hV
  obtain ⟨a0, len0, cap0, rfl⟩ := okWide_slice Try.underlying22 (hval 0 22 v0 rfl rfl)
  have k0 := h0
  have lt0 : ∀ x ∈ p0, x.block < W.heap.size := by obtain ⟨m, hm⟩ := k0; exact DataW.trod_lt m _ _ _ hm
  obtain ⟨ts0, w0⟩ : ∃ ts, IsInts W a0 len0 cap0 ts := by
    obtain ⟨fuel, hf⟩ := h0
    exact open_nums hf
  obtain ⟨a1, rfl, rfl, rfl, w1⟩ := open_int Try.underlying3 (hval 1 3 v1 rfl rfl) h1
  obtain ⟨a2, rfl, rfl, rfl, w2⟩ := open_int Try.underlying3 (hval 2 3 v2 rfl rfl) h2
  clear hA0 hval0
  refine (walk a0 len0 cap0 ts0 a1 a2 W w0).mono fun e W' ⟨he, bel⟩ => ?_
  subst he
  exact ⟨_, rfl, _, _, _, [], _, [], hW', trodAll_mk1 (shut_bool Try.underlying4 _), (trodAll_cons_mk (Below.trod laidOut (by kernel_rfl) (of_decide_eq_true (by kernel_rfl)) k0 bel lt0) (trodAll_cons_mk (shut_int Try.underlying3 w1) (trodAll_cons_mk (shut_int Try.underlying3 w2) trodAll_mk0))), rfl, bel.frame _, fun h => by cases h⟩

set_option maxRecDepth 100000 in
theorem over : Rows.cursorStepsRow.holds Try.pinned (OpenSpec.ofChange Rows.cursorStepsSpec) :=
  OpenClaim.holds_of_wide 3 Try.f3 rfl rfl rfl rfl rfl rfl rfl ⟨rfl, rfl, rfl, rfl, rfl⟩ rfl rfl rfl rfl rfl (by kernel_rfl) Try.func3 (by kernel_rfl)
    (of_decide_eq_true (by kernel_rfl)) (by unfold Func.isWrapper; first | (rw [if_pos (by decide +kernel)]; kernel_rfl) | (rw [if_neg (by decide +kernel)]; exact ⟨rfl, rfl⟩))
    (fun os started H enc _ => lifted os started H enc)

end Go.Proofs.Ytkadaanfhejkkaa.cursorSteps

namespace Go.Proofs.Ytkadaanfhejkkaa
/-- The statement. -/
theorem cursorSteps_holds : Rows.CursorStepsSaid := cursorSteps.over
#print axioms cursorSteps_holds
end Go.Proofs.Ytkadaanfhejkkaa
