/-
  WaferUnlike: for every two loads the law returns true: unlike loads have unlike records, none the beginning of another's. No condition.
-/
import Derived.Test.YtedmpbmbeianfaaBase
namespace Go.Proofs.Ytedmpbmbeianfaa.waferUnlike
open Go.ChangeShapes Go.WideShapes Go.ChangeAt Go.RowKit
open Go.ChangeMaps (open_string shut_string)

theorem one_of_prefix {a b : List UInt8} (ha : a.length ≤ 1024) (hb : b.length ≤ 1024) (h : recB a <+: recB b) : a = b :=
  Begins.one (l := recB b) ⟨ha, h⟩ ⟨hb, List.prefix_refl _⟩

set_option maxHeartbeats 800000 in
theorem walk (a b : ByteArray) (w : World) :
    Calls Try.prog 7 #[.string a, .string b] w fun e w' => e = .returned (.bool true) ∧ Below w.heap.size w w' := by
  by_cases hbig : 1024 < a.size ∨ 1024 < b.size
  · go_enter Try.func7, Try.ntmps7
    go_wp2_with fail
    refine (alive_any _).mono ?_
    rintro e w1 ⟨rfl, hb1⟩
    rcases hbig with h | h
    · go_wp2
      go_ret
      exact ⟨rfl, hb1⟩
    · go_wp2
      all_goals
        go_ret
        exact ⟨rfl, hb1⟩
  · have ha : a.size ≤ 1024 := by omega
    have hb : b.size ≤ 1024 := by omega
    have hal := size_list a
    have hbl := size_list b
    obtain ⟨x, hx⟩ : ∃ x : ByteArray, x = ⟨(recB a.data.toList).toArray⟩ := ⟨_, rfl⟩
    obtain ⟨y, hy⟩ : ∃ y : ByteArray, y = ⟨(recB b.data.toList).toArray⟩ := ⟨_, rfl⟩
    have hxl : x.data.toList = recB a.data.toList := by rw [hx]
    have hyl : y.data.toList = recB b.data.toList := by rw [hy]
    have hxs : x.size = a.size + 6 := by rw [hx, str_size, recB_length (by omega), hal]
    have hys : y.size = b.size + 6 := by rw [hy, str_size, recB_length (by omega), hbl]
    have HXL := Hid.mk hxl
    have HYL := Hid.mk hyl
    have hpre : ∀ n, x.toList = (y.extract 0 n).toList → a = b := fun n h => by
      rw [ByteArray.toList_eq, ByteArray.toList_eq, extract_list, List.drop_zero, hxl, hyl] at h
      apply ByteArray.ext
      exact Array.toList_inj.1 (one_of_prefix (by omega) (by omega) (by rw [h]; exact List.take_prefix _ _))
    have hsame : x.toList = y.toList → a = b := fun h => by
      rw [ByteArray.toList_eq, ByteArray.toList_eq, hxl, hyl] at h
      apply ByteArray.ext
      exact Array.toList_inj.1 (one_of_prefix (by omega) (by omega) (by rw [h]; exact List.prefix_refl _))
    have HP := Hid.mk hpre
    have HS := Hid.mk hsame
    have HX := Hid.mk hx
    have HY := Hid.mk hy
    clear hbig hpre hsame hxl hyl hal hbl hx hy
    go_enter Try.func7, Try.ntmps7
    go_wp2_with fail
    refine (alive_any _).mono ?_
    rintro e w1 ⟨rfl, hb1⟩
    go_wp2_with fail
    refine (close_any _ a (by omega)).mono ?_
    rintro e w2 ⟨rfl, hb2⟩
    rw [← HX.out]
    have hb3 := hb1.trans (hb2.mono hb1.size)
    clear hb2 hb1
    go_wp2_with fail
    refine (close_any _ b (by omega)).mono ?_
    rintro e w4 ⟨rfl, hb4⟩
    rw [← HY.out]
    have hb5 := hb3.trans (hb4.mono hb3.size)
    clear hb3 hb4
    by_cases hab : a = b
    · have hxy : x = y := by rw [HX.out, HY.out, hab]
      subst hab
      subst hxy
      go_wp2
      go_ret
      exact ⟨rfl, hb5⟩
    · have e1 : (a.toList == b.toList) = false := by
        rw [ByteArray.toList_eq, ByteArray.toList_eq]
        simp
        intro h
        exact hab (ByteArray.ext h)
      have e2 : (x.toList == y.toList) = false := by
        simp
        intro h
        exact hab (HS.out h)
      by_cases hlen : y.size < x.size
      · go_wp2
        go_ret
        exact ⟨rfl, hb5⟩
      · have e3 : ((y.extract 0 (a.size + 6)).toList == x.toList) = false := by
          simp
          intro h
          exact hab (HP.out _ h.symm)
        have f1 : (x.size : Int) ≤ (y.size : Int) := by omega
        go_wp2
        go_ret
        exact ⟨rfl, hb5⟩

set_option maxRecDepth 100000 in
theorem lifted (os : Os) (started : os.Started) (H : Type) (enc : TypeId × Value → H) :
    ReturnsInHanded {} Try.checked os 7 .any (Rows.waferUnlikeSpec.pre6 enc Try.prog Try.f7 Rows.waferUnlikeRow.domain false) (Rows.waferUnlikeSpec.post enc Try.prog Try.f7 false true false false) := by
  refine returnsInHanded_of_change (C := Try.checked) own started (by kernel_rfl) Try.func7
    (ChangeSpec.witness6 (enc := enc) (C := Try.checked) false ⟨#[], #[.string .empty, .string .empty], []⟩ 8 (by kernel_rfl) (by kernel_rfl) (by kernel_rfl) (by kernel_rfl)) ?_
  intro W base args ds gs before hval0 hW hcnd _
  have hval : ∀ (j : Nat) t v, Try.f7.params[j]? = some t → args[j]? = some v → Value.okWide Try.prog W .any base t v := hval0
  have hW' := hW
  obtain ⟨p, q, hA0, hV, rfl, hfz, hnd⟩ := hW
  have hA : DataW.TrodAll enc Try.prog W 0 (fun _ => true) true Try.f7.params.toList args.toList ds p := hA0
  rw [Try.params7] at hA hval
  obtain ⟨v0, vs0, d0, ds0, p0, q0, hargs, rfl, rfl, h0, r0⟩ := trodAll_cons hA
  obtain ⟨v1, vs1, d1, ds1, p1, q1, rfl, rfl, rfl, h1, r1⟩ := trodAll_cons r0
  obtain ⟨rfl, rfl, rfl⟩ := trodAll_nil r1
  obtain rfl : args = #[v0, v1] := by cases args; simp_all
  obtain ⟨rfl, rfl⟩ := trodVars_none hV
  obtain ⟨s0, rfl, rfl, rfl, w0⟩ := open_string Try.underlying9 (hval 0 9 v0 rfl rfl) h0
  obtain ⟨s1, rfl, rfl, rfl, w1⟩ := open_string Try.underlying9 (hval 1 9 v1 rfl rfl) h1
  clear hA0 hval0
  refine (walk s0 s1 W ).mono fun e W' ⟨he, bel⟩ => ?_
  subst he
  exact ⟨_, rfl, _, _, _, [], _, [], hW', trodAll_mk1 (shut_bool Try.underlying4 _), (trodAll_cons_mk (shut_string Try.underlying9 w0) (trodAll_cons_mk (shut_string Try.underlying9 w1) trodAll_mk0)), rfl, bel.frame _, fun h => by cases h⟩

theorem over : Rows.waferUnlikeRow.holds Try.pinned (OpenSpec.ofChange Rows.waferUnlikeSpec) :=
  OpenClaim.holds_of_wide 7 Try.f7 rfl rfl rfl rfl rfl rfl rfl ⟨rfl, rfl, rfl, rfl, rfl⟩ rfl rfl rfl rfl rfl (by kernel_rfl) Try.func7 (by kernel_rfl)
    (of_decide_eq_true (by kernel_rfl)) (by unfold Func.isWrapper; first | (rw [if_pos (by decide +kernel)]; kernel_rfl) | (rw [if_neg (by decide +kernel)]; exact ⟨rfl, rfl⟩))
    (fun os started H enc _ => lifted os started H enc)

end Go.Proofs.Ytedmpbmbeianfaa.waferUnlike

namespace Go.Proofs.Ytedmpbmbeianfaa
/-- The statement. -/
theorem unlike_holds : Rows.WaferUnlikeSaid := waferUnlike.over
#print axioms unlike_holds
end Go.Proofs.Ytedmpbmbeianfaa
