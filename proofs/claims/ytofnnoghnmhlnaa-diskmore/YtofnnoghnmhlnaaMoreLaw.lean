/-
  DiskMore: for every list of texts and every two numbers the law returns true: the more changes a crash keeps, the longer what lasts of an area to which was appended alone. No condition.
-/
import Derived.Test.YtofnnoghnmhlnaaDTexts
namespace Go.Proofs.Ytofnnoghnmhlnaa.diskMore
open Go.ChangeShapes Go.WideShapes Go.ChangeAt Go.RowKit

set_option maxHeartbeats 1600000 in
theorem walk (a : Option Addr) (len cap : Nat) (ts : List ByteArray) (x y : Int) (w : World) (h : IsTexts w a len cap ts) :
    Calls Try.prog 8 #[.slice a len cap, .int .i64 x, .int .i64 y] w fun e w' => e = .returned (.bool true) ∧ Below w.heap.size w w' := by
  go_enter Try.func8, Try.ntmps8
  go_wp2_with fail
  refine (alive_any _).mono ?_
  rintro e w1 ⟨rfl, hb1⟩
  by_cases h30 : 30 < len
  · go_wp2
    go_ret
    exact ⟨rfl, hb1⟩
  go_wp2_with fail
  refine (new_any _).mono ?_
  rintro e w3 ⟨rfl, rfl⟩
  have hm := Mine.new hb1 hb1.size
  have HL := Hid.mk h.1
  obtain ⟨b, hbd⟩ : ∃ b, b = w1.heap.size := ⟨_, rfl⟩
  rw [← hbd] at hm ⊢
  clear hbd hb1
  go_wp2
  go_loopw [7, 10, 23] (fun n _ i wr => ∃ (k : Nat) (v : Value), k ≤ len ∧ i = .int .i64 k ∧ n = .int .i64 (sumT (ts.take k) : Nat) ∧ sumT (ts.take k) ≤ 8192 ∧ Mine w.heap.size w wr b v [] (apps (ts.take k))) (fun _ _ i _ => len - (intOf i).toNat)
  case atStart => exact ⟨0, _, Nat.zero_le _, rfl, rfl, by simp [sumT], hm⟩
  case round =>
    obtain ⟨k, v, hk, rfl, rfl, hsum, hmr⟩ := hrel
    clear hm
    by_cases hlt : k < len
    · obtain ⟨g, off, rfl, hat⟩ := h.at_ k hlt
      have hkt : k < ts.length := by rw [HL.out]; exact hlt
      have hstep := sumT_take_succ ts k hkt
      have hap := apps_succ ts k hkt
      have hsz := txt_apps_size (ts.take k)
      have c := (hat.carry (hmr.below.block g hat.lt) hmr.below.size).cell k hkt
      obtain ⟨t, ht⟩ : ∃ t, t = ts[k] := ⟨_, rfl⟩
      rw [← ht] at hstep hap c
      have hln : (apps (ts.take k)).length ≤ 30 := by
        rw [apps_length, List.length_take]
        have := HL.out
        omega
      have HS := Hid.mk hstep
      have HA := Hid.mk hap
      have HZ := Hid.mk hsz
      have HK := Hid.mk hlt
      clear ht hstep hap hat hsz
      go_wp2_with fail
      · go_ret
        exact ⟨rfl, hmr.below⟩
      · go_ret
        exact ⟨rfl, hmr.below⟩
      · rename_i hn2 hn3
        refine (append_yes false t hmr.has (by rw [List.nil_append, HZ.out]; omega) (by omega)).mono ?_
        rintro e w4 ⟨rfl, v4, h4, hw4⟩
        have hm4 := hmr.step h4 hw4
        rw [← HA.out] at hm4
        have HM := Hid.mk hm4
        clear hm4 h4 hw4 hmr
        go_wp2
        go_roundw
        case rel => exact ⟨k + 1, v4, HK.out, by go_num, by rw [HS.out]; go_num, by rw [HS.out]; omega, HM.out⟩
        case measure =>
          have := HK.out
          simp [intOf]
          omega
    · have hkl : k = len := by omega
      rw [hkl, List.take_of_length_le (by rw [HL.out]; exact Nat.le_refl _)] at hmr hsum
      rw [hkl, List.take_of_length_le (by rw [HL.out]; exact Nat.le_refl _)]
      by_cases hx0 : x < 0
      · go_wp2
        go_ret
        exact ⟨rfl, hmr.below⟩
      by_cases hyx : y < x
      · go_wp2
        go_ret
        exact ⟨rfl, hmr.below⟩
      by_cases hy1 : 1048576 < y
      · go_wp2
        go_ret
        exact ⟨rfl, hmr.below⟩
      have hln : (apps ts).length ≤ 30 := by
        rw [apps_length]
        have := HL.out
        omega
      obtain ⟨A, hA⟩ : ∃ A, A = near x (apps ts).length := ⟨_, rfl⟩
      obtain ⟨D, hD⟩ : ∃ D, D = near y (apps ts).length := ⟨_, rfl⟩
      have hAD : A ≤ D := by rw [hA, hD]; exact near_mono (by omega) _
      have hDn : D ≤ ts.length := by rw [hD, apps_length]; exact near_le _ _
      have ex : txt false ([] ++ kept (apps ts) x 0 ++ []) = txt false (apps (ts.take A)) := by rw [List.append_nil, txt_whole, ← hA, List.nil_append, apps_take]
      have ey : txt false ([] ++ kept (apps ts) y 0 ++ []) = txt false (apps (ts.take D)) := by rw [List.append_nil, txt_whole, ← hD, List.nil_append, apps_take]
      obtain ⟨r1, p1⟩ := apps_pre ts A D hAD
      obtain ⟨r2, p2⟩ := apps_pre ts D ts.length hDn
      rw [List.take_length] at p2
      have g1 := cut_of_pre p1
      have g2 := cut_of_pre p2
      have g3 := txt_apps_size ts
      obtain ⟨s, hs⟩ : ∃ s, s = txt false (apps (ts.take A)) := ⟨_, rfl⟩
      obtain ⟨t, ht⟩ : ∃ t, t = txt false (apps (ts.take D)) := ⟨_, rfl⟩
      obtain ⟨f, hf⟩ : ∃ f, f = txt false (apps ts) := ⟨_, rfl⟩
      have ef : txt false ([] ++ apps ts) = f := by rw [hf]; rfl
      rw [← hs] at ex g1
      rw [← ht] at ey g1 g2
      rw [← hf] at g2 g3
      rw [← g3]
      rw [← g3] at hsum
      have EX := Hid.mk ex
      have EY := Hid.mk ey
      have EF := Hid.mk ef
      have G1 := Hid.mk g1.2
      have G2 := Hid.mk g2.2
      have j1 := g1.1
      have j2 := g2.1
      clear ex ey ef g1 g2 g3 hs ht hf p1 p2 hA hD
      go_wp2_with fail
      refine (copy_any hmr.has (by omega)).mono ?_
      rintro e w4 ⟨b1, v1, rfl, h4, hb4, hv4, hbel4⟩
      have d4 := hmr.grow hbel4
      have l4 := hmr.copied h4 hb4 hv4 hbel4
      have dl4 := hmr.apart_new hb4 hv4
      clear hmr h4 hb4 hv4 hbel4
      go_wp2_with fail
      refine (copy_any d4.has (by omega)).mono ?_
      rintro e w5 ⟨b2, v2, rfl, h5, hb5, hv5, hbel5⟩
      have d5 := d4.grow hbel5
      have l5 := l4.grow hbel5
      have a5 := d4.copied h5 hb5 hv5 hbel5
      have da5 := d4.apart_new hb5 hv5
      have la5 := l4.apart_new hb5 hv5
      clear d4 l4 h5 hb5 hv5 hbel5
      go_wp2_with fail
      refine (crash_any l5.has (by omega) x 0).mono ?_
      rintro e w6 ⟨rfl, h6, hw6⟩
      have d6 := d5.other l5 dl4 hw6
      have a6 := a5.other l5 la5.symm hw6
      have l6 := l5.step h6 hw6
      have la6 := (la5.symm.step a5.has hw6).symm
      clear d5 a5 l5 dl4 la5 h6 hw6
      go_wp2_with fail
      refine (crash_any a6.has (by omega) y 0).mono ?_
      rintro e w7 ⟨rfl, h7, hw7⟩
      have d7 := d6.other a6 da5 hw7
      have l7 := l6.other a6 la6 hw7
      have a7 := a6.step h7 hw7
      clear d6 l6 a6 da5 la6 h7 hw7
      go_wp2_with fail
      refine (read_yes false l7.has).mono ?_
      rintro e w8 ⟨rfl, rfl⟩
      rw [EX.out]
      go_wp2_with fail
      refine (read_yes false a7.has).mono ?_
      rintro e w9 ⟨rfl, rfl⟩
      rw [EY.out]
      have gg1 := G1.out
      have gg2 := G2.out
      go_wp2_with fail
      refine (read_yes false d7.has).mono ?_
      rintro e w10 ⟨rfl, rfl⟩
      rw [EF.out]
      go_wp2
      go_ret
      exact ⟨rfl, d7.below⟩

set_option maxRecDepth 100000 in
theorem lifted (os : Os) (started : os.Started) (H : Type) (enc : TypeId × Value → H) :
    ReturnsInHanded {} Try.checked os 8 .any (Rows.diskMoreSpec.pre6 enc Try.prog Try.f8 Rows.diskMoreRow.domain false) (Rows.diskMoreSpec.post enc Try.prog Try.f8 false true false false) := by
  refine returnsInHanded_of_change (C := Try.checked) own started (by kernel_rfl) Try.func8
    (ChangeSpec.witness6 (enc := enc) (C := Try.checked) false ⟨#[], #[.slice none 0 0, .int .i64 0, .int .i64 0], []⟩ 8 (by kernel_rfl) (by kernel_rfl) (by kernel_rfl) (by kernel_rfl)) ?_
  intro W base args ds gs before hval0 hW hcnd _
  have hval : ∀ (j : Nat) t v, Try.f8.params[j]? = some t → args[j]? = some v → Value.okWide Try.prog W .any base t v := hval0
  have hW' := hW
  obtain ⟨p, q, hA0, hV, rfl, hfz, hnd⟩ := hW
  have hA : DataW.TrodAll enc Try.prog W 0 (fun _ => true) true Try.f8.params.toList args.toList ds p := hA0
  rw [Try.params8] at hA hval
  obtain ⟨v0, vs0, d0, ds0, p0, q0, hargs, rfl, rfl, h0, r0⟩ := trodAll_cons hA
  obtain ⟨v1, vs1, d1, ds1, p1, q1, rfl, rfl, rfl, h1, r1⟩ := trodAll_cons r0
  obtain ⟨v2, vs2, d2, ds2, p2, q2, rfl, rfl, rfl, h2, r2⟩ := trodAll_cons r1
  obtain ⟨rfl, rfl, rfl⟩ := trodAll_nil r2
  obtain rfl : args = #[v0, v1, v2] := by cases args; simp_all
  obtain ⟨rfl, rfl⟩ := trodVars_none hV
  obtain ⟨a0, len0, cap0, rfl⟩ := okWide_slice Try.underlying46 (hval 0 46 v0 rfl rfl)
  have k0 := h0
  have lt0 : ∀ x ∈ p0, x.block < W.heap.size := by obtain ⟨m, hm⟩ := k0; exact DataW.trod_lt m _ _ _ hm
  obtain ⟨ts0, w0⟩ : ∃ ts, IsTexts W a0 len0 cap0 ts := by
    obtain ⟨fuel, hf⟩ := h0
    exact open_texts hf
  obtain ⟨a1, rfl, rfl, rfl, w1⟩ := open_int Try.underlying3 (hval 1 3 v1 rfl rfl) h1
  obtain ⟨a2, rfl, rfl, rfl, w2⟩ := open_int Try.underlying3 (hval 2 3 v2 rfl rfl) h2
  clear hA0 hval0
  refine (walk a0 len0 cap0 ts0 a1 a2 W w0).mono fun e W' ⟨he, bel⟩ => ?_
  subst he
  exact ⟨_, rfl, _, _, _, [], _, [], hW', trodAll_mk1 (shut_bool Try.underlying4 _), (trodAll_cons_mk (Below.trod laidOut (by kernel_rfl) (of_decide_eq_true (by kernel_rfl)) k0 bel lt0) (trodAll_cons_mk (shut_int Try.underlying3 w1) (trodAll_cons_mk (shut_int Try.underlying3 w2) trodAll_mk0))), rfl, bel.frame _, fun h => by cases h⟩

theorem over : Rows.diskMoreRow.holds Try.pinned (OpenSpec.ofChange Rows.diskMoreSpec) :=
  OpenClaim.holds_of_wide 8 Try.f8 rfl rfl rfl rfl rfl rfl rfl ⟨rfl, rfl, rfl, rfl, rfl⟩ rfl rfl rfl rfl rfl (by kernel_rfl) Try.func8 (by kernel_rfl)
    (of_decide_eq_true (by kernel_rfl)) (by unfold Func.isWrapper; first | (rw [if_pos (by decide +kernel)]; kernel_rfl) | (rw [if_neg (by decide +kernel)]; exact ⟨rfl, rfl⟩))
    (fun os started H enc _ => lifted os started H enc)

end Go.Proofs.Ytofnnoghnmhlnaa.diskMore

namespace Go.Proofs.Ytofnnoghnmhlnaa
/-- The statement. -/
theorem more_holds : Rows.DiskMoreSaid := diskMore.over
#print axioms more_holds
end Go.Proofs.Ytofnnoghnmhlnaa
