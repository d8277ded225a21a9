/-
  WaferOpens: for all bytes the law returns true: Open answers what the document says, and what is opened is closed to just these bytes. No condition.
-/
import Derived.Test.YtedmpbmbeianfaaGrown
namespace Go.Proofs.Ytedmpbmbeianfaa.waferOpens
open Go.ChangeShapes Go.WideShapes Go.ChangeAt Go.RowKit
open Go.ChangeMaps (open_string shut_string)

set_option maxHeartbeats 800000 in
theorem walk (s : ByteArray) (w : World) :
    Calls Try.prog 4 #[.string s] w fun e w' => e = .returned (.bool true) ∧ Below w.heap.size w w' := by
  by_cases hbig : 2048 < s.size
  · go_enter Try.func4, Try.ntmps4
    go_wp2_with fail
    refine (alive_any _).mono ?_
    rintro e w1 ⟨rfl, hb1⟩
    go_wp2
    go_ret
    exact ⟨rfl, hb1⟩
  · have hs : s.size ≤ 2048 := by omega
    go_enter Try.func4, Try.ntmps4
    go_wp2_with fail
    refine (alive_any _).mono ?_
    rintro e w1 ⟨rfl, hb1⟩
    go_wp2_with fail
    refine (open_any _ s (by omega)).mono ?_
    rintro e w2 ⟨ld, n, rfl, ho, hb2⟩
    have HO := Hid.mk ho
    have hb3 := hb1.trans (hb2.mono hb1.size)
    clear hb1 hb2 ho
    go_wp2_with fail
    refine (refOpen_any _ s (by omega)).mono ?_
    rintro e w4 ⟨ld2, n2, rfl, ho2, hb4⟩
    have hb5 := hb3.trans (hb4.mono hb3.size)
    obtain ⟨e1, e2⟩ := ho2.one HO.out
    have e3 : ld2 = ld := by apply ByteArray.ext; exact Array.toList_inj.1 e1
    subst e3 e2
    clear hb3 hb4 ho2 e1
    by_cases hn : n2 = 0
    · subst hn
      go_wp2_with fail
      go_quiet (fail)
      go_wp2
      go_ret
      exact ⟨rfl, below_drewN hb5 _⟩
    · have hbg : Begins s.data.toList ld2.data.toList ∧ n2 = ld2.data.toList.length + 6 := by
        rcases HO.out with h | ⟨h, _⟩
        · exact h
        · exact absurd h hn
      have hsz := hbg.1.size
      have hl := size_list s
      have hl2 := size_list ld2
      have hn1 := hbg.2
      have ht : (recB ld2.data.toList == (s.extract 0 n2).toList) = true := by
        rw [ByteArray.toList_eq, extract_list, List.drop_zero, hn1]
        have hp := List.prefix_iff_eq_take.1 hbg.1.2
        rw [recB_length (by have := hbg.1.1; omega)] at hp
        rw [← hp]
        simp
      have hnb : ((n2 : Int) == 0) = false := by simp; omega
      have hlt : (n2 : Int) ≤ (s.size : Int) := by omega
      have hls : ld2.size ≤ 1099511627776 := by omega
      clear hbg hsz hl hl2 hn1
      go_wp2_with fail
      have hne := Grown.some w.heap.size w
      refine wp_region_grown (B := w.heap.size) (w0 := w) (by kernel_rfl) (by kernel_rfl) hb5 ?_
      repeat (go_big_quiet_step ((go_at_call 10; refine (close_any _ ld2 hls).mono ?_; rintro e w6 ⟨rfl, hb6⟩; exact ⟨rfl, ⟨w6, by rename_i g; exact g.h.trans (hb6.mono g.h.size)⟩, rfl⟩)))
      refine wpQuiet_nil ?_
      rintro _ ⟨⟨z, hz⟩, rfl⟩
      go_wp2
      go_ret
      exact ⟨rfl, hz⟩

set_option maxRecDepth 100000 in
theorem lifted (os : Os) (started : os.Started) (H : Type) (enc : TypeId × Value → H) :
    ReturnsInHanded {} Try.checked os 4 .any (Rows.waferOpensSpec.pre6 enc Try.prog Try.f4 Rows.waferOpensRow.domain false) (Rows.waferOpensSpec.post enc Try.prog Try.f4 false true false false) := by
  refine returnsInHanded_of_change (C := Try.checked) own started (by kernel_rfl) Try.func4
    (ChangeSpec.witness6 (enc := enc) (C := Try.checked) false ⟨#[], #[.string .empty], []⟩ 8 (by kernel_rfl) (by kernel_rfl) (by kernel_rfl) (by kernel_rfl)) ?_
  intro W base args ds gs before hval0 hW hcnd _
  have hval : ∀ (j : Nat) t v, Try.f4.params[j]? = some t → args[j]? = some v → Value.okWide Try.prog W .any base t v := hval0
  have hW' := hW
  obtain ⟨p, q, hA0, hV, rfl, hfz, hnd⟩ := hW
  have hA : DataW.TrodAll enc Try.prog W 0 (fun _ => true) true Try.f4.params.toList args.toList ds p := hA0
  rw [Try.params4] at hA hval
  obtain ⟨v0, vs0, d0, ds0, p0, q0, hargs, rfl, rfl, h0, r0⟩ := trodAll_cons hA
  obtain ⟨rfl, rfl, rfl⟩ := trodAll_nil r0
  obtain rfl : args = #[v0] := by cases args; simp_all
  obtain ⟨rfl, rfl⟩ := trodVars_none hV
  obtain ⟨s0, rfl, rfl, rfl, w0⟩ := open_string Try.underlying9 (hval 0 9 v0 rfl rfl) h0
  clear hA0 hval0
  refine (walk s0 W ).mono fun e W' ⟨he, bel⟩ => ?_
  subst he
  exact ⟨_, rfl, _, _, _, [], _, [], hW', trodAll_mk1 (shut_bool Try.underlying4 _), (trodAll_cons_mk (shut_string Try.underlying9 w0) trodAll_mk0), rfl, bel.frame _, fun h => by cases h⟩

theorem over : Rows.waferOpensRow.holds Try.pinned (OpenSpec.ofChange Rows.waferOpensSpec) :=
  OpenClaim.holds_of_wide 4 Try.f4 rfl rfl rfl rfl rfl rfl rfl ⟨rfl, rfl, rfl, rfl, rfl⟩ rfl rfl rfl rfl rfl (by kernel_rfl) Try.func4 (by kernel_rfl)
    (of_decide_eq_true (by kernel_rfl)) (by unfold Func.isWrapper; first | (rw [if_pos (by decide +kernel)]; kernel_rfl) | (rw [if_neg (by decide +kernel)]; exact ⟨rfl, rfl⟩))
    (fun os started H enc _ => lifted os started H enc)

end Go.Proofs.Ytedmpbmbeianfaa.waferOpens

namespace Go.Proofs.Ytedmpbmbeianfaa
/-- The statement. -/
theorem opens_holds : Rows.WaferOpensSaid := waferOpens.over
#print axioms opens_holds
end Go.Proofs.Ytedmpbmbeianfaa
