/-
  WaferCloses: for every load and whatever stands behind its record the law returns true: sums and records are the document's, and a record is opened to its load. No condition.
-/
import Derived.Test.YtedmpbmbeianfaaBase
namespace Go.Proofs.Ytedmpbmbeianfaa.waferCloses
open Go.ChangeShapes Go.WideShapes Go.ChangeAt Go.RowKit
open Go.ChangeMaps (open_string shut_string)

set_option maxHeartbeats 400000 in
theorem walk (s m : ByteArray) (w : World) :
    Calls Try.prog 3 #[.string s, .string m] w fun e w' => e = .returned (.bool true) ∧ Below w.heap.size w w' := by
  by_cases hbig : 2048 < s.size ∨ 2048 < m.size
  · go_enter Try.func3, Try.ntmps3
    go_wp2_with fail
    refine (alive_any _).mono ?_
    rintro e w1 ⟨rfl, hb1⟩
    rcases hbig with h | h
    · go_wp2
      go_ret
      exact ⟨rfl, hb1⟩
    · go_wp2
      all_goals
        go_ret
        exact ⟨rfl, hb1⟩
  · have hs : s.size ≤ 2048 := by omega
    have hm : m.size ≤ 2048 := by omega
    have hsl := size_list s
    obtain ⟨r, hr⟩ : ∃ r : ByteArray, r = ⟨(recB s.data.toList).toArray⟩ := ⟨_, rfl⟩
    have hrs : r.size = (recB s.data.toList).length := by rw [hr, str_size]
    have hrl : r.data.toList = recB s.data.toList := by rw [hr]
    have HRL := Hid.mk hrl
    clear hbig
    go_enter Try.func3, Try.ntmps3
    go_wp2_with fail
    refine (alive_any _).mono ?_
    rintro e w1 ⟨rfl, hb1⟩
    go_wp2_with fail
    refine (close_any _ s (by omega)).mono ?_
    rintro e w2 ⟨rfl, hb2⟩
    rw [← hr]
    have hb3 := hb1.trans (hb2.mono hb1.size)
    clear hb2 hb1
    go_wp2_with fail
    refine (sum_any _ s (by omega)).mono ?_
    rintro e w3 ⟨rfl, rfl⟩
    go_wp2_with fail
    refine (refSum_any _ s (by omega)).mono ?_
    rintro e w4 ⟨rfl, rfl⟩
    obtain ⟨c, hc⟩ : ∃ c, c = sumN s.data.toList := ⟨_, rfl⟩
    rw [← hc]
    clear hc
    go_wp2_with fail
    refine (refClose_any _ s (by omega)).mono ?_
    rintro e w5 ⟨rfl, hb5⟩
    rw [← hr]
    have hb6 := hb3.trans (hb5.mono hb3.size)
    clear hb5 hb3 hr hrl
    by_cases hlong : 1024 < s.size
    · have hr0 : r = ⟨#[]⟩ := by
        apply ByteArray.ext
        have h := HRL.out
        unfold recB at h
        rw [if_pos (by omega)] at h
        simpa using h
      subst hr0
      clear hrs
      go_wp2
      go_ret
      exact ⟨rfl, hb6⟩
    · rw [recB_length (by omega), hsl] at hrs
      have hj : (r ++ m).size = r.size + m.size := by simp
      clear hsl
      go_wp2_with fail
      refine (open_any _ (r ++ m) (by omega)).mono ?_
      rintro e w7 ⟨ld, n, rfl, ho, hb7⟩
      have hjl : (r ++ m).data.toList = recB s.data.toList ++ m.data.toList := by rw [← HRL.out]; simp
      rw [hjl] at ho
      obtain ⟨e1, e2⟩ := ho.one (opened_rec (r := m.data.toList) (by rw [size_list]; omega))
      have e3 : ld = s := by apply ByteArray.ext; exact Array.toList_inj.1 e1
      subst e3
      rw [size_list] at e2
      have e4 : (n : Int) = (r.size : Int) := by omega
      have hb8 := hb6.trans (hb7.mono hb6.size)
      clear hjl ho e1 e2 hb7 hb6
      rw [e4]
      go_wp2
      go_ret
      exact ⟨rfl, hb8⟩

set_option maxRecDepth 100000 in
theorem lifted (os : Os) (started : os.Started) (H : Type) (enc : TypeId × Value → H) :
    ReturnsInHanded {} Try.checked os 3 .any (Rows.waferClosesSpec.pre6 enc Try.prog Try.f3 Rows.waferClosesRow.domain false) (Rows.waferClosesSpec.post enc Try.prog Try.f3 false true false false) := by
  refine returnsInHanded_of_change (C := Try.checked) own started (by kernel_rfl) Try.func3
    (ChangeSpec.witness6 (enc := enc) (C := Try.checked) false ⟨#[], #[.string .empty, .string .empty], []⟩ 8 (by kernel_rfl) (by kernel_rfl) (by kernel_rfl) (by kernel_rfl)) ?_
  intro W base args ds gs before hval0 hW hcnd _
  have hval : ∀ (j : Nat) t v, Try.f3.params[j]? = some t → args[j]? = some v → Value.okWide Try.prog W .any base t v := hval0
  have hW' := hW
  obtain ⟨p, q, hA0, hV, rfl, hfz, hnd⟩ := hW
  have hA : DataW.TrodAll enc Try.prog W 0 (fun _ => true) true Try.f3.params.toList args.toList ds p := hA0
  rw [Try.params3] at hA hval
  obtain ⟨v0, vs0, d0, ds0, p0, q0, hargs, rfl, rfl, h0, r0⟩ := trodAll_cons hA
  obtain ⟨v1, vs1, d1, ds1, p1, q1, rfl, rfl, rfl, h1, r1⟩ := trodAll_cons r0
  obtain ⟨rfl, rfl, rfl⟩ := trodAll_nil r1
  obtain rfl : args = #[v0, v1] := by cases args; simp_all
  obtain ⟨rfl, rfl⟩ := trodVars_none hV
  obtain ⟨s0, rfl, rfl, rfl, w0⟩ := open_string Try.underlying9 (hval 0 9 v0 rfl rfl) h0
  obtain ⟨s1, rfl, rfl, rfl, w1⟩ := open_string Try.underlying9 (hval 1 9 v1 rfl rfl) h1
  clear hA0 hval0
  refine (walk s0 s1 W ).mono fun e W' ⟨he, bel⟩ => ?_
  subst he
  exact ⟨_, rfl, _, _, _, [], _, [], hW', trodAll_mk1 (shut_bool Try.underlying4 _), (trodAll_cons_mk (shut_string Try.underlying9 w0) (trodAll_cons_mk (shut_string Try.underlying9 w1) trodAll_mk0)), rfl, bel.frame _, fun h => by cases h⟩

theorem over : Rows.waferClosesRow.holds Try.pinned (OpenSpec.ofChange Rows.waferClosesSpec) :=
  OpenClaim.holds_of_wide 3 Try.f3 rfl rfl rfl rfl rfl rfl rfl ⟨rfl, rfl, rfl, rfl, rfl⟩ rfl rfl rfl rfl rfl (by kernel_rfl) Try.func3 (by kernel_rfl)
    (of_decide_eq_true (by kernel_rfl)) (by unfold Func.isWrapper; first | (rw [if_pos (by decide +kernel)]; kernel_rfl) | (rw [if_neg (by decide +kernel)]; exact ⟨rfl, rfl⟩))
    (fun os started H enc _ => lifted os started H enc)

end Go.Proofs.Ytedmpbmbeianfaa.waferCloses

namespace Go.Proofs.Ytedmpbmbeianfaa
/-- The statement. -/
theorem closes_holds : Rows.WaferClosesSaid := waferCloses.over
#print axioms closes_holds
end Go.Proofs.Ytedmpbmbeianfaa
