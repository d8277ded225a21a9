/-
  StylusReturns: for every list of items the law returns true: what was written is read again, item by item, and nothing is left. No condition.
-/
import Derived.Test.YtjenalblcdmpaaaReturns
namespace Go.Proofs.Ytjenalblcdmpaaa.stylusReturns
open Go.ChangeShapes Go.WideShapes Go.ChangeAt Go.RowKit

set_option maxHeartbeats 400000 in
set_option maxRecDepth 100000 in
theorem walk_none (a : Option Addr) (cap : Nat) (w : World) (hc : a = none → cap = 0) :
    Calls Try.prog 4 #[.slice a 0 cap] w fun e w' => e = .returned (.bool true) ∧ Below w.heap.size w w' := by
  have hit : IsItems w a 0 cap [] := ⟨rfl, .inl ⟨rfl, hc⟩⟩
  have hg : greatB [] = false := rfl
  go_enter Try.func4, Try.ntmps4
  go_wp2_with fail
  refine (alive_any _).mono ?_
  rintro e w1 ⟨rfl, hb1⟩
  have h1 := hit.carry hb1
  go_wp2_with fail
  refine (great_is _ _ 0 cap [] h1).mono ?_
  rintro e w2 ⟨rfl, hb2⟩
  have hb := hb1.trans (hb2.mono hb1.size)
  have h2 := h1.carry hb2
  rw [hg]
  clear h1 hb1 hb2 hg
  go_wp2_with fail
  refine (put_is _ _ 0 cap [] h2 rfl).mono ?_
  rintro e w3 ⟨rfl, hb3⟩
  have hb4 := hb.trans (hb3.mono hb.size)
  clear hb hb3 h2
  go_wp2_with fail
  refine (of_any _ _).mono ?_
  rintro e w4 ⟨rfl, h4⟩
  have hrd : Rd w4 w3.heap.size ⟨#[]⟩ false := by rw [h4]; exact Rd.new _ _
  have hb5 : Below w.heap.size w w4 := by rw [h4]; exact hb4.alloc hb4.size _
  clear h4 hb4
  go_wp2_with fail
  go_loop [22] (fun i => i = .int .i64 0) (fun _ => 0)
  case atStart => rfl
  case round =>
    subst hrel
    go_wp2_with fail
    refine (rover_any _ _ _ _ hrd).mono ?_
    rintro e w5 ⟨rfl, rfl⟩
    go_wp2_with fail
    refine (bad_any _ _ _ hrd.c1).mono ?_
    rintro e w6 ⟨rfl, rfl⟩
    go_wp2_with fail
    refine (left_any _ _ _ _ hrd).mono ?_
    rintro e w7 ⟨rfl, rfl⟩
    go_wp2
    go_ret
    exact ⟨rfl, hb5⟩

set_option maxHeartbeats 400000 in
set_option maxRecDepth 100000 in
theorem walk (a : Option Addr) (len cap : Nat) (its : List It) (w : World) (h : IsItems w a len cap its) :
    Calls Try.prog 4 #[.slice a len cap] w fun e w' => e = .returned (.bool true) ∧ Below w.heap.size w w' := by
  cases hg : greatB its with
  | true =>
    go_enter Try.func4, Try.ntmps4
    go_wp2_with fail
    refine (alive_any _).mono ?_
    rintro e w1 ⟨rfl, hb1⟩
    have h1 := h.carry hb1
    go_wp2_with fail
    refine (great_is _ a len cap its h1).mono ?_
    rintro e w2 ⟨rfl, hb2⟩
    have hb := hb1.trans (hb2.mono hb1.size)
    rw [hg]
    clear h1 hb1 hb2 hg
    go_wp2
    go_ret
    exact ⟨rfl, hb⟩
  | false =>
    obtain ⟨hl, ⟨rfl, hc⟩ | ⟨g, off, rfl, hat⟩⟩ := h
    · have h0 : len = 0 := hl.symm
      subst h0
      exact walk_none a cap w hc
    · exact walk_some g off len cap its w hl hat hg

set_option maxRecDepth 100000 in
theorem lifted (os : Os) (started : os.Started) (H : Type) (enc : TypeId × Value → H) :
    ReturnsInHanded {} Try.checked os 4 .any (Rows.stylusReturnsSpec.pre6 enc Try.prog Try.f4 Rows.stylusReturnsRow.domain false) (Rows.stylusReturnsSpec.post enc Try.prog Try.f4 false true false false) := by
  refine returnsInHanded_of_change (C := Try.checked) own started (by kernel_rfl) Try.func4
    (ChangeSpec.witness6 (enc := enc) (C := Try.checked) false ⟨#[], #[.slice none 0 0], []⟩ 8 (by kernel_rfl) (by kernel_rfl) (by kernel_rfl) (by kernel_rfl)) ?_
  intro W base args ds gs before hval0 hW hcnd _
  have hval : ∀ (j : Nat) t v, Try.f4.params[j]? = some t → args[j]? = some v → Value.okWide Try.prog W .any base t v := hval0
  have hW' := hW
  obtain ⟨p, q, hA0, hV, rfl, hfz, hnd⟩ := hW
  have hA : DataW.TrodAll enc Try.prog W 0 (fun _ => true) true Try.f4.params.toList args.toList ds p := hA0
  rw [Try.params4] at hA hval
  obtain ⟨v0, vs0, d0, ds0, p0, q0, hargs, rfl, rfl, h0, r0⟩ := trodAll_cons hA
  obtain ⟨rfl, rfl, rfl⟩ := trodAll_nil r0
  obtain rfl : args = #[v0] := by cases args; simp_all
  obtain ⟨rfl, rfl⟩ := trodVars_none hV
  obtain ⟨a0, len0, cap0, rfl⟩ := okWide_slice Try.underlying22 (hval 0 22 v0 rfl rfl)
  have k0 := h0
  have lt0 : ∀ x ∈ p0, x.block < W.heap.size := by obtain ⟨m, hm⟩ := k0; exact DataW.trod_lt m _ _ _ hm
  obtain ⟨its, w0⟩ : ∃ its, IsItems W a0 len0 cap0 its := by
    obtain ⟨fuel, hf⟩ := h0
    exact open_items hf
  clear hA0 hval0
  refine (walk a0 len0 cap0 its W w0).mono fun e W' ⟨he, bel⟩ => ?_
  subst he
  exact ⟨_, rfl, _, _, _, [], _, [], hW', trodAll_mk1 (shut_bool Try.underlying4 _), (trodAll_cons_mk (Below.trod laidOut (by kernel_rfl) (of_decide_eq_true (by kernel_rfl)) k0 bel lt0) trodAll_mk0), rfl, bel.frame _, fun h => by cases h⟩

theorem over : Rows.stylusReturnsRow.holds Try.pinned (OpenSpec.ofChange Rows.stylusReturnsSpec) :=
  OpenClaim.holds_of_wide 4 Try.f4 rfl rfl rfl rfl rfl rfl rfl ⟨rfl, rfl, rfl, rfl, rfl⟩ rfl rfl rfl rfl rfl (by kernel_rfl) Try.func4 (by kernel_rfl)
    (of_decide_eq_true (by kernel_rfl)) (by unfold Func.isWrapper; first | (rw [if_pos (by decide +kernel)]; kernel_rfl) | (rw [if_neg (by decide +kernel)]; exact ⟨rfl, rfl⟩))
    (fun os started H enc _ => lifted os started H enc)

end Go.Proofs.Ytjenalblcdmpaaa.stylusReturns

namespace Go.Proofs.Ytjenalblcdmpaaa
/-- The statement. -/
theorem returns_holds : Rows.StylusReturnsSaid := stylusReturns.over
#print axioms returns_holds
end Go.Proofs.Ytjenalblcdmpaaa
