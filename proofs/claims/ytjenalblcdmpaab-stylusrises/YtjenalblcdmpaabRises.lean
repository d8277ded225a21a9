/-
  StylusRises: for every two numbers the law returns true: a greater number from 0 on has no fewer bytes, and two have the same bytes just where they are the same. No condition.
-/
import Derived.Test.YtjenalblcdmpaabAlive
import Derived.ProofKit
import Derived.OpenShut
namespace Go.Proofs.Ytjenalblcdmpaab.stylusRises
open Go.ChangeShapes Go.WideShapes Go.ChangeAt Go.RowKit

theorem own : ownKnob Try.prog.godebug = none := by kernel_rfl

theorem same_bytes {a b : Int} (ha : 0 ≤ a) (hb : 0 ≤ b) : (a == b) = (natB a == natB b) := by
  rw [Bool.eq_iff_iff, beq_iff_eq, beq_iff_eq]
  constructor
  · intro h; rw [h]
  · intro h
    unfold natB at h
    rw [if_neg (by omega), if_neg (by omega)] at h
    have := wide_inj h
    omega

theorem no_fewer {a b : Int} (ha : 0 ≤ a) (hb : a ≤ b) : (natB a).length ≤ (natB b).length := by
  unfold natB
  rw [if_neg (by omega), if_neg (by omega)]
  exact wide_mono (by omega)

set_option maxHeartbeats 400000 in
theorem walk (a0 : Int) (a1 : Int) (w0 : (Lit.int .i64 a0).wf = true) (w1 : (Lit.int .i64 a1).wf = true) (w : World) :
    Calls Try.prog 3 #[.int .i64 a0, .int .i64 a1] w fun e w' => e = .returned (.bool true) ∧ Below w.heap.size w w' := by
  have b0 := bounds_i64 w0
  have b1 := bounds_i64 w1
  by_cases h0 : a0 < 0
  · go_enter Try.func3, Try.ntmps3
    go_wp2_with fail
    refine (alive_any _).mono ?_
    rintro e wa ⟨rfl, hba⟩
    go_wp2
    go_ret
    exact ⟨rfl, hba⟩
  by_cases h1 : a1 < a0
  · go_enter Try.func3, Try.ntmps3
    go_wp2_with fail
    refine (alive_any _).mono ?_
    rintro e wa ⟨rfl, hba⟩
    go_wp2
    go_ret
    exact ⟨rfl, hba⟩
  go_enter Try.func3, Try.ntmps3
  go_wp2_with fail
  refine (alive_any _).mono ?_
  rintro e wa ⟨rfl, hba⟩
  go_wp2_with fail
  have hs0 : Pen ((wa.alloc (.cells #[.slice none 0 0] 26)).alloc (.cells #[.slice none 0 0] 26)) wa.heap.size (.slice none 0 0) [] := (Pen.new wa).alloc _
  have ht0 : Pen ((wa.alloc (.cells #[.slice none 0 0] 26)).alloc (.cells #[.slice none 0 0] 26)) (wa.heap.size + 1) (.slice none 0 0) [] := by
    have := Pen.new (wa.alloc (.cells #[.slice none 0 0] 26))
    simpa using this
  refine (nat_any _ wa.heap.size (wa.heap.size + 1 + 1) (.slice none 0 0) [] a0 (by omega) (hs0.alloc _) (by simp) (by rw [World.cell?_alloc_at _ _ _ _ (by simp)]; rfl)).mono ?_
  rintro e w1 ⟨rfl, v1, hp1, hw1⟩
  have ht1 : Pen w1 (wa.heap.size + 1) (.slice none 0 0) [] := (ht0.alloc _).beside hw1 (by omega) (by simp [Value.ownBlock]) (by simp [Value.ownBlock])
  have hv1 : ∀ k, v1.ownBlock = some k → wa.heap.size + 3 ≤ k := fun k hk => by
    rcases hw1.own k hk with e | e
    · simp [Value.ownBlock] at e
    · simpa using e
  have hz1 : wa.heap.size + 3 ≤ w1.heap.size := by have := hw1.size; simpa using this
  have hb1 : Below w.heap.size w w1 := by
    have a1 := ((hba.alloc hba.size (.cells #[.slice none 0 0] 26)).alloc (by have := hba.size; simp; omega) (.cells #[.slice none 0 0] 26)).alloc (by have := hba.size; simp; omega) (.cells #[.int .i64 a0] 3)
    exact a1.trans (hw1.below (by have := hba.size; simp; omega) hba.size (by simp [Value.ownBlock]))
  have hsz := hba.size
  clear hs0 ht0 hw1 hba
  rw [List.nil_append] at hp1
  go_wp2_with fail
  refine (nat_any _ (wa.heap.size + 1) w1.heap.size (.slice none 0 0) [] a1 (by omega) (ht1.alloc _) (by simp) (by simp)).mono ?_
  rintro e w2 ⟨rfl, v2, hp2, hw2⟩
  have hp1' : Pen w2 wa.heap.size v1 (natB a0) := (hp1.alloc _).beside hw2 (by omega) (by simp [Value.ownBlock]) (fun k hk => ⟨by have := hv1 k hk; omega, by simp [Value.ownBlock]⟩)
  have hb2 : Below w.heap.size w w2 := hb1.trans (hw2.behind_alloc.below (by omega) (by omega) (by simp [Value.ownBlock]))
  clear hw2 ht1 hp1 hb1 hv1
  rw [List.nil_append] at hp2
  have hle := no_fewer (a := a0) (b := a1) (by omega) (by omega)
  have heq := same_bytes (a := a0) (b := a1) (by omega) (by omega)
  have HE := Hid.mk heq
  clear heq
  go_wp2_with fail
  refine (bytes_any _ _ _ _ hp1').mono ?_
  rintro e w3 ⟨rfl, rfl⟩
  go_wp2_with fail
  refine (bytes_any _ _ _ _ hp2).mono ?_
  rintro e w4 ⟨rfl, rfl⟩
  go_wp2_with fail
  refine (bytes_any _ _ _ _ hp1').mono ?_
  rintro e w5 ⟨rfl, rfl⟩
  go_wp2_with fail
  refine (bytes_any _ _ _ _ hp2).mono ?_
  rintro e w6 ⟨rfl, rfl⟩
  go_wp2
  go_ret
  rw [HE.out]
  exact ⟨by simp, hb2⟩

set_option maxRecDepth 100000 in
theorem lifted (os : Os) (started : os.Started) (H : Type) (enc : TypeId × Value → H) :
    ReturnsInHanded {} Try.checked os 3 .any (Rows.stylusRisesSpec.pre6 enc Try.prog Try.f3 Rows.stylusRisesRow.domain false) (Rows.stylusRisesSpec.post enc Try.prog Try.f3 false true false false) := by
  refine returnsInHanded_of_change (C := Try.checked) own started (by kernel_rfl) Try.func3
    (ChangeSpec.witness6 (enc := enc) (C := Try.checked) false ⟨#[], #[.int .i64 0, .int .i64 0], []⟩ 8 (by kernel_rfl) (by kernel_rfl) (by kernel_rfl) (by kernel_rfl)) ?_
  intro W base args ds gs before hval0 hW hcnd _
  have hval : ∀ (j : Nat) t v, Try.f3.params[j]? = some t → args[j]? = some v → Value.okWide Try.prog W .any base t v := hval0
  have hW' := hW
  obtain ⟨p, q, hA0, hV, rfl, hfz, hnd⟩ := hW
  have hA : DataW.TrodAll enc Try.prog W 0 (fun _ => true) true Try.f3.params.toList args.toList ds p := hA0
  rw [Try.params3] at hA hval
  obtain ⟨v0, vs0, d0, ds0, p0, q0, hargs, rfl, rfl, h0, r0⟩ := trodAll_cons hA
  obtain ⟨v1, vs1, d1, ds1, p1, q1, rfl, rfl, rfl, h1, r1⟩ := trodAll_cons r0
  obtain ⟨rfl, rfl, rfl⟩ := trodAll_nil r1
  obtain rfl : args = #[v0, v1] := by cases args; simp_all
  obtain ⟨rfl, rfl⟩ := trodVars_none hV
  obtain ⟨a0, rfl, rfl, rfl, w0⟩ := open_int Try.underlying3 (hval 0 3 v0 rfl rfl) h0
  obtain ⟨a1, rfl, rfl, rfl, w1⟩ := open_int Try.underlying3 (hval 1 3 v1 rfl rfl) h1
  clear hA0 hval0
  refine (walk a0 a1 w0 w1 W).mono fun e W' ⟨he, bel⟩ => ?_
  subst he
  exact ⟨_, rfl, _, _, _, [], _, [], hW', trodAll_mk1 (shut_bool Try.underlying4 _), (trodAll_cons_mk (shut_int Try.underlying3 w0) (trodAll_cons_mk (shut_int Try.underlying3 w1) trodAll_mk0)), rfl, bel.frame _, fun h => by cases h⟩

theorem over : Rows.stylusRisesRow.holds Try.pinned (OpenSpec.ofChange Rows.stylusRisesSpec) :=
  OpenClaim.holds_of_wide 3 Try.f3 rfl rfl rfl rfl rfl rfl rfl ⟨rfl, rfl, rfl, rfl, rfl⟩ rfl rfl rfl rfl rfl (by kernel_rfl) Try.func3 (by kernel_rfl)
    (of_decide_eq_true (by kernel_rfl)) (by unfold Func.isWrapper; first | (rw [if_pos (by decide +kernel)]; kernel_rfl) | (rw [if_neg (by decide +kernel)]; exact ⟨rfl, rfl⟩))
    (fun os started H enc _ => lifted os started H enc)

end Go.Proofs.Ytjenalblcdmpaab.stylusRises

namespace Go.Proofs.Ytjenalblcdmpaab
/-- The statement. -/
theorem rises_holds : Rows.StylusRisesSaid := stylusRises.over
#print axioms rises_holds
end Go.Proofs.Ytjenalblcdmpaab
