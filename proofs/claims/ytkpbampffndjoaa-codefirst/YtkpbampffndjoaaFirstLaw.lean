/-
  CodeFirst: for every program the law returns true: what Check tells is the first instruction that can't be, or can't stand there. No condition.
-/
import Derived.Test.YtkpbampffndjoaaCRefC
namespace Go.Proofs.Ytkpbampffndjoaa.codeFirst
open Go.ChangeShapes Go.WideShapes Go.ChangeAt Go.RowKit Go.Deep
open Go.ChangeMaps (open_string shut_string)

set_option maxHeartbeats 3200000 in
set_option maxRecDepth 100000 in
theorem walk (a : Option Addr) (len cap : Nat) (ps : List Ins) (w : World) (hp : IsIns w a len cap ps) (hwf : Wf ps) :
    Calls Try.prog 8 #[.slice a len cap] w fun e w' => e = .returned (.bool true) ∧ Below w.heap.size w w' := by
  have HP := Hid.mk hp
  have HL := Hid.mk hp.1
  have HW := Hid.mk hwf
  clear hp hwf
  go_enter Try.func8, Try.ntmps8
  go_wp2_with fail
  refine (alive_any w).mono ?_
  rintro e w1 ⟨rfl, hb1⟩
  go_wp2_with fail
  refine (check_any (HP.out.carry hb1)).mono ?_
  rintro e w2 ⟨i, er, rfl, hc, hb2⟩
  have hb : Below w.heap.size w w2 := hb1.trans (hb2.mono hb1.size)
  clear hb1 hb2
  rcases hc with ⟨_, rfl, rfl⟩ | ⟨h48, hsh, rfl, rfl⟩ | ⟨h48, hsh, k, hk, hall, hone, rfl, rfl⟩ | ⟨_, _, _, rfl, rfl⟩
  · go_wp2
    go_ret
    exact ⟨rfl, hb⟩
  · rw [HL.out] at h48
    have z : decide ((len : Int) > 48) = false := by simp; omega
    have HSH := Hid.mk hsh
    clear hsh
    go_wp2_with fail
    refine (shaped_any (HP.out.carry hb) h48).mono ?_
    rintro e w3 ⟨rfl, hb3⟩
    have hb4 : Below w.heap.size w w3 := hb.trans (hb3.mono hb.size)
    rw [HSH.out]
    clear hb3
    go_wp2
    go_ret
    exact ⟨rfl, hb4⟩
  · rw [HL.out] at h48 hk
    have z : decide ((len : Int) > 48) = false := by simp; omega
    have HSH := Hid.mk hsh
    have HSS := Hid.mk (shB_iff.1 hsh)
    have HA := Hid.mk hall
    have HO := Hid.mk hone
    clear hsh hall hone
    go_wp2_with fail
    refine (shaped_any (HP.out.carry hb) h48).mono ?_
    rintro e w3 ⟨rfl, hb3⟩
    have hb4 : Below w.heap.size w w3 := hb.trans (hb3.mono hb.size)
    rw [HSH.out]
    clear hb3
    have z2 : decide ((k : Int) < 0) = false := by simp
    have z3 : decide ((k : Int) ≥ (len : Int)) = false := by simp; omega
    have z4 : decide (len ≤ k) = false := by simp; omega
    go_wp2
    go_loopw [5] (fun idx wr => ∃ j : Nat, j ≤ k ∧ idx = .int .i64 j ∧ Below w.heap.size w wr) (fun idx _ => k - (intOf idx).toNat)
    case atStart => exact ⟨0, Nat.zero_le _, rfl, hb4⟩
    case round =>
      obtain ⟨j, hj, rfl, hbr⟩ := hrel
      by_cases hlt : j < k
      · have HLT := Hid.mk hlt
        go_wp2_with fail
        refine (one_any (HP.out.carry hbr) HW.out h48 HSS.out (i := j) (by omega)).mono ?_
        rintro e w5 ⟨rfl, hb5⟩
        have hb6 : Below w.heap.size w w5 := hbr.trans (hb5.mono hbr.size)
        rw [allB_one HA.out j hlt]
        clear hb5
        go_wp2
        go_roundw
        case rel => exact ⟨j + 1, HLT.out, by go_num, hb6⟩
        case measure => have := HLT.out; simp [intOf]; omega
      · obtain rfl : j = k := by omega
        go_wp2_with fail
        refine (one_any (HP.out.carry hbr) HW.out h48 HSS.out hk).mono ?_
        rintro e w5 ⟨rfl, hb5⟩
        have hb6 : Below w.heap.size w w5 := hbr.trans (hb5.mono hbr.size)
        rw [HO.out]
        clear hb5
        go_wp2
        go_ret
        exact ⟨rfl, hb6⟩
  · go_wp2
    go_ret
    exact ⟨rfl, hb⟩

set_option maxRecDepth 100000 in
theorem lifted (os : Os) (started : os.Started) (H : Type) (enc : TypeId × Value → H) :
    ReturnsInHanded {} Try.checked os 8 .any (Rows.codeFirstSpec.pre6 enc Try.prog Try.f8 Rows.codeFirstRow.domain false) (Rows.codeFirstSpec.post enc Try.prog Try.f8 false true false false) := by
  refine returnsInHanded_of_change (C := Try.checked) own started (by kernel_rfl) Try.func8
    (ChangeSpec.witness6 (enc := enc) (C := Try.checked) false ⟨#[], #[.slice none 0 0], []⟩ 8 (by kernel_rfl) (by kernel_rfl) (by kernel_rfl) (by kernel_rfl)) ?_
  intro W base args ds gs before hval0 hW hcnd _
  have hval : ∀ (j : Nat) t v, Try.f8.params[j]? = some t → args[j]? = some v → Value.okWide Try.prog W .any base t v := hval0
  have hW' := hW
  obtain ⟨p, q, hA0, hV, rfl, hfz, hnd⟩ := hW
  have hA : DataW.TrodAll enc Try.prog W 0 (fun _ => true) true Try.f8.params.toList args.toList ds p := hA0
  rw [Try.params8] at hA hval
  obtain ⟨v0, vs0, d0, ds0, p0, q0, hargs, rfl, rfl, h0, r0⟩ := trodAll_cons hA
  obtain ⟨rfl, rfl, rfl⟩ := trodAll_nil r0
  obtain rfl : args = #[v0] := by cases args; simp_all
  obtain ⟨rfl, rfl⟩ := trodVars_none hV
  obtain ⟨a0, len0, cap0, rfl⟩ := okWide_slice Try.underlying22 (hval 0 22 v0 rfl rfl)
  have k0 := h0
  have lt0 : ∀ x ∈ p0, x.block < W.heap.size := by obtain ⟨m, hm⟩ := k0; exact DataW.trod_lt m _ _ _ hm
  obtain ⟨ts0, w0, f0⟩ : ∃ ts, IsIns W a0 len0 cap0 ts ∧ Wf ts := by
    obtain ⟨fuel, hf⟩ := h0
    exact open_ins hf
  clear hA0 hval0
  refine (walk a0 len0 cap0 ts0 W w0 f0).mono fun e W' ⟨he, bel⟩ => ?_
  subst he
  exact ⟨_, rfl, _, _, _, [], _, [], hW', trodAll_mk1 (shut_bool Try.underlying4 _), (trodAll_cons_mk (Below.trod laidOut (by kernel_rfl) (of_decide_eq_true (by kernel_rfl)) k0 bel lt0) trodAll_mk0), rfl, bel.frame _, fun h => by cases h⟩

set_option maxRecDepth 100000 in
theorem over : Rows.codeFirstRow.holds Try.pinned (OpenSpec.ofChange Rows.codeFirstSpec) :=
  OpenClaim.holds_of_wide 8 Try.f8 rfl rfl rfl rfl rfl rfl rfl ⟨rfl, rfl, rfl, rfl, rfl⟩ rfl rfl rfl rfl rfl (by kernel_rfl) Try.func8 (by kernel_rfl)
    (of_decide_eq_true (by kernel_rfl)) (by unfold Func.isWrapper; first | (rw [if_pos (by decide +kernel)]; kernel_rfl) | (rw [if_neg (by decide +kernel)]; exact ⟨rfl, rfl⟩))
    (fun os started H enc _ => lifted os started H enc)

end Go.Proofs.Ytkpbampffndjoaa.codeFirst

namespace Go.Proofs.Ytkpbampffndjoaa
/-- The statement. -/
theorem codeFirst_holds : Rows.CodeFirstSaid := codeFirst.over
#print axioms codeFirst_holds
end Go.Proofs.Ytkpbampffndjoaa
