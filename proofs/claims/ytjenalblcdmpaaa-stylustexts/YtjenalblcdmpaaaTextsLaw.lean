/-
  StylusTexts: for every list of texts, and wherever it is cut, the law returns true: texts are told one by one; one that is cut is none, and nothing behind it is read. No condition.
-/
import Derived.Test.YtjenalblcdmpaaaTextsWalk
namespace Go.Proofs.Ytjenalblcdmpaaa.stylusTexts
open Go.ChangeShapes Go.WideShapes Go.ChangeAt Go.RowKit

set_option maxHeartbeats 400000 in
set_option maxRecDepth 100000 in
theorem walk_none (a : Option Addr) (cap : Nat) (cut : Int) (w : World) :
    Calls Try.prog 8 #[.slice a 0 cap, .int .i64 cut] w fun e w' => e = .returned (.bool true) ∧ Below w.heap.size w w' := by
  go_enter Try.func8, Try.ntmps8
  go_wp2_with fail
  refine (alive_any _).mono ?_
  rintro e w1 ⟨rfl, hb1⟩
  have hp0 := Pen.new w1
  have hb2 := hb1.alloc hb1.size (.cells #[.slice none 0 0] 45)
  clear hb1
  go_wp2_with fail
  go_loop [23] (fun i => i = .int .i64 0) (fun _ => 0)
  case atStart => rfl
  case round =>
    subst hrel
    go_wp2_with fail
    refine (text_none _ _ _ _).mono ?_
    rintro e w2 ⟨rfl, h2⟩
    rw [← h2] at hp0 hb2
    clear h2
    go_wp2_with fail
    refine (bytes_any _ _ _ _ hp0).mono ?_
    rintro e w3 ⟨rfl, rfl⟩
    clear hp0
    go_wp2_with fail
    refine (of_any _ _).mono ?_
    rintro e w5 ⟨rfl, h5⟩
    have hrd : Rd w5 w3.heap.size ⟨#[]⟩ false := by rw [h5]; exact Rd.new _ _
    have hb5 : Below w.heap.size w w5 := by rw [h5]; exact hb2.alloc hb2.size _
    clear h5 hb2
    go_wp2_with fail
    go_loop [46] (fun i => i = .int .i64 0) (fun _ => 0)
    case atStart => rfl
    case round =>
      subst hrel
      go_wp2_with fail
      refine (rover_any _ _ _ _ hrd).mono ?_
      rintro e w6 ⟨rfl, rfl⟩
      go_wp2_with fail
      refine (rover_any _ _ _ _ hrd).mono ?_
      rintro e w7 ⟨rfl, rfl⟩
      go_wp2
      go_ret
      exact ⟨rfl, hb5⟩

theorem walk (a : Option Addr) (len cap : Nat) (ts : List ByteArray) (cut : Int) (w : World) (h : IsTexts w a len cap ts) :
    Calls Try.prog 8 #[.slice a len cap, .int .i64 cut] w fun e w' => e = .returned (.bool true) ∧ Below w.heap.size w w' := by
  obtain ⟨hl, ⟨rfl, hc⟩ | ⟨g, off, rfl, hat⟩⟩ := h
  · have h0 : len = 0 := hl.symm
    subst h0
    exact walk_none a cap cut w
  · by_cases h0 : len = 0
    · subst h0
      exact walk_none _ cap cut w
    · exact walk_some g off len cap ts cut w hl (by omega) hat

set_option maxRecDepth 100000 in
theorem lifted (os : Os) (started : os.Started) (H : Type) (enc : TypeId × Value → H) :
    ReturnsInHanded {} Try.checked os 8 .any (Rows.stylusTextsSpec.pre6 enc Try.prog Try.f8 Rows.stylusTextsRow.domain false) (Rows.stylusTextsSpec.post enc Try.prog Try.f8 false true false false) := by
  refine returnsInHanded_of_change (C := Try.checked) own started (by kernel_rfl) Try.func8
    (ChangeSpec.witness6 (enc := enc) (C := Try.checked) false ⟨#[], #[.slice none 0 0, .int .i64 0], []⟩ 8 (by kernel_rfl) (by kernel_rfl) (by kernel_rfl) (by kernel_rfl)) ?_
  intro W base args ds gs before hval0 hW hcnd _
  have hval : ∀ (j : Nat) t v, Try.f8.params[j]? = some t → args[j]? = some v → Value.okWide Try.prog W .any base t v := hval0
  have hW' := hW
  obtain ⟨p, q, hA0, hV, rfl, hfz, hnd⟩ := hW
  have hA : DataW.TrodAll enc Try.prog W 0 (fun _ => true) true Try.f8.params.toList args.toList ds p := hA0
  rw [Try.params8] at hA hval
  obtain ⟨v0, vs0, d0, ds0, p0, q0, hargs, rfl, rfl, h0, r0⟩ := trodAll_cons hA
  obtain ⟨v1, vs1, d1, ds1, p1, q1, rfl, rfl, rfl, h1, r1⟩ := trodAll_cons r0
  obtain ⟨rfl, rfl, rfl⟩ := trodAll_nil r1
  obtain rfl : args = #[v0, v1] := by cases args; simp_all
  obtain ⟨rfl, rfl⟩ := trodVars_none hV
  obtain ⟨a0, len0, cap0, rfl⟩ := okWide_slice Try.underlying50 (hval 0 50 v0 rfl rfl)
  have k0 := h0
  have lt0 : ∀ x ∈ p0, x.block < W.heap.size := by obtain ⟨m, hm⟩ := k0; exact DataW.trod_lt m _ _ _ hm
  obtain ⟨ts, w0⟩ : ∃ ts, IsTexts W a0 len0 cap0 ts := by
    obtain ⟨fuel, hf⟩ := h0
    exact open_texts hf
  obtain ⟨a1, rfl, rfl, rfl, w1⟩ := open_int Try.underlying3 (hval 1 3 v1 rfl rfl) h1
  clear hA0 hval0
  refine (walk a0 len0 cap0 ts a1 W w0).mono fun e W' ⟨he, bel⟩ => ?_
  subst he
  exact ⟨_, rfl, _, _, _, [], _, [], hW', trodAll_mk1 (shut_bool Try.underlying4 _), (trodAll_cons_mk (Below.trod laidOut (by kernel_rfl) (of_decide_eq_true (by kernel_rfl)) k0 bel lt0) (trodAll_cons_mk (shut_int Try.underlying3 w1) trodAll_mk0)), rfl, bel.frame _, fun h => by cases h⟩

theorem over : Rows.stylusTextsRow.holds Try.pinned (OpenSpec.ofChange Rows.stylusTextsSpec) :=
  OpenClaim.holds_of_wide 8 Try.f8 rfl rfl rfl rfl rfl rfl rfl ⟨rfl, rfl, rfl, rfl, rfl⟩ rfl rfl rfl rfl rfl (by kernel_rfl) Try.func8 (by kernel_rfl)
    (of_decide_eq_true (by kernel_rfl)) (by unfold Func.isWrapper; first | (rw [if_pos (by decide +kernel)]; kernel_rfl) | (rw [if_neg (by decide +kernel)]; exact ⟨rfl, rfl⟩))
    (fun os started H enc _ => lifted os started H enc)

end Go.Proofs.Ytjenalblcdmpaaa.stylusTexts

namespace Go.Proofs.Ytjenalblcdmpaaa
/-- The statement. -/
theorem texts_holds : Rows.StylusTextsSaid := stylusTexts.over
#print axioms texts_holds
end Go.Proofs.Ytjenalblcdmpaaa
