/-
  VaultFull: for all images, and however near the greatest epoch is, the law returns true: an image of the greatest epoch is the last one, and nothing is changed then; ahead of it one more is settled. No condition.
-/
import Derived.Test.YtcofiidibhmhgabVRef
namespace Go.Proofs.Ytcofiidibhmhgab
open Go.RowKit
set_option maxHeartbeats 800000 in
set_option maxRecDepth 100000 in
theorem waits_none {w : World} {b : Nat} {v : Value} {dn : List Ch} (h : Has w b v dn []) :
    Calls Try.prog 15 #[.pointer (some ⟨b, 0, none⟩)] w fun e w' => e = .returned (.int .i64 0) ∧ w' = w := by
  have c4 := h.dsk.c4
  rcases h.dsk.owns.2 with ⟨rfl, h0⟩ | ⟨g, cap, cur, rfl, _⟩
  · go_enter Try.func15, Try.ntmps15
    go_wp2
    go_ret
    exact ⟨rfl, rfl⟩
  · go_enter Try.func15, Try.ntmps15
    go_wp2
    go_ret
    exact ⟨rfl, rfl⟩
end Go.Proofs.Ytcofiidibhmhgab

namespace Go.Proofs.Ytcofiidibhmhgab.vaultFull
open Go.ChangeShapes Go.WideShapes Go.ChangeAt Go.RowKit Go.Deep
open Go.ChangeMaps (open_string shut_string)

theorem img_any (s : ByteArray) (e : Nat) (he : e < 18446744073709551616) (hs : s.size ≤ 1000) : (imgB e s).size ≤ 1024 := by
  rw [imgB_size]
  have := Sty.wide_len (n := e) he
  omega

theorem full_true (r : ByteArray) : txt true ([] ++ ([] ++ [⟨false, false, r⟩]) ++ []) = ⟨#[]⟩ := by simp [txt, Ch.on]
theorem full_false (r : ByteArray) : txt false ([] ++ ([] ++ [⟨false, false, r⟩]) ++ []) = r := by
  have e : (⟨#[]⟩ : ByteArray) ++ r = r := bytes_ext (by simp)
  simp [txt, Ch.on, e]

theorem fnd_full {e : Nat} {s : ByteArray} (h1 : 1 ≤ e) (h2 : e ≤ 1099511627776) (hs : s.size ≤ 1000) : Fnd ([] ++ ([] ++ [⟨false, false, recOf (imgB e s)⟩])) [] false e s [] := by
  refine ⟨imgs e s [], [], 0, ⟨#[]⟩, [], ?_, ?_, Told.img h1 h2 [], Told.none, by simp⟩
  · rw [full_false]
    have := all_row_nil (imgs e s []) (small_imgs (img_any s e (by omega) hs) fun t ht => by simp at ht)
    rw [show rowB (imgs e s []) = (recOf (imgB e s)).data.toList from by rw [recOf_list]; simp [imgs, rowB]] at this
    exact this
  · show AllOf (txt true _).data.toList []
    rw [full_true]
    exact none_nil

set_option maxHeartbeats 3200000 in
set_option maxRecDepth 100000 in
theorem walk (img nx : ByteArray) (le : Int) (w : World) (_hle : (Lit.int .i64 le).wf = true) :
    Calls Try.prog 4 #[.string img, .string nx, .int .i64 le] w fun e w' => e = .returned (.bool true) ∧ Below w.heap.size w w' := by
  clear _hle
  go_enter Try.func4, Try.ntmps4
  go_wp2_with fail
  refine (alive_any w).mono ?_
  rintro e w1 ⟨rfl, hb1⟩
  by_cases him : 900 < img.size
  · have him' : (900 : Int) < (img.size : Int) := by omega
    go_wp2
    go_ret
    exact ⟨rfl, hb1⟩
  have him' : ¬ (900 : Int) < (img.size : Int) := by omega
  by_cases hnx : 900 < nx.size
  · have hnx' : (900 : Int) < (nx.size : Int) := by omega
    go_wp2
    go_ret
    exact ⟨rfl, hb1⟩
  have hnx' : ¬ (900 : Int) < (nx.size : Int) := by omega
  by_cases hl0 : le < 0
  · go_wp2
    go_ret
    exact ⟨rfl, hb1⟩
  by_cases hl3 : 3 < le
  · go_wp2
    go_ret
    exact ⟨rfl, hb1⟩
  obtain ⟨E, hE⟩ : ∃ E : Nat, (1099511627776 : Int) - le = (E : Int) := ⟨(1099511627776 - le).toNat, by omega⟩
  have hE1 : 1 ≤ E := by omega
  have hE2 : E ≤ 1099511627776 := by omega
  have h0 := Mine.new hb1 hb1.size
  go_wp2_with fail
  refine (new_any w1).mono ?_
  rintro e w3 ⟨rfl, hw3⟩
  rw [← hw3] at h0
  clear hw3
  have hri := refImage_any E img (by omega) (by omega)
  obtain ⟨R, hR⟩ : ∃ R, R = recOf (imgB E img) := ⟨_, rfl⟩
  have hRz : R.size ≤ 2000 := by rw [hR]; have := recOf_size (imgB E img); have := img_any img E (by omega) (by omega); omega
  have hF := fnd_full hE1 hE2 (show img.size ≤ 1000 by omega)
  rw [← hR] at hri hF
  have HRI := Hid.mk hri
  have HF := Hid.mk hF
  clear hri hF hR
  go_wp2_with fail
  refine (HRI.out w3).mono ?_
  rintro e w4 ⟨rfl, hb4⟩
  have m4 := h0.grow hb4
  clear h0 hb4 hb1
  go_wp2_with fail
  refine (append_yes false R m4.has (by show 0 + R.size ≤ _; omega) (by decide)).mono ?_
  rintro e w5 ⟨rfl, v5, h5, hd5⟩
  have m5 := m4.step h5 hd5
  clear h5 hd5 m4
  go_wp2_with fail
  refine (sync_any m5.has).mono ?_
  rintro e w6 ⟨rfl, h6, hd6⟩
  have m6 := m5.step h6 hd6
  clear h6 hd6 m5
  go_wp2_with fail
  refine (mvOpen m6 HF.out).mono ?_
  rintro e w7 ⟨vb, lb, ob, tn, tm, va, vc, rfl, mv7, _, _⟩
  have hx7 : Below w7.heap.size w7 (w7.alloc (.cells #[.string img, .slice va 0 vc] 28)) := (Below.refl _ w7).alloc (Nat.le_refl _) _
  have mv8 := mv7.grow hx7
  obtain ⟨c0, c1, _, _⟩ := box2 (heap_alloc_new w7 (.cells #[.string img, .slice va 0 vc] 28))
  have hss := same_bytes img
  clear mv7 hx7 m6
  go_wp2_with fail
  refine (vEpoch_any mv8.a).mono ?_
  rintro e w9 ⟨rfl, hw9⟩
  rw [hw9]
  clear hw9 w9
  by_cases hle0 : le = 0
  · have hEE : E = 1099511627776 := by omega
    have hz : (le == 0) = true := by simp [hle0]
    clear hle0
    have hfull : VAt (w7.alloc (.cells #[.string img, .slice va 0 vc] 28)) vb lb ob 1099511627776 false := by
      have := mv8.a
      rw [hEE] at this
      exact this
    have HE := Hid.mk hEE
    clear hEE
    go_wp2_with fail
    refine (settle_full hfull nx).mono ?_
    rintro e w9 ⟨rfl, hw9⟩
    rw [hw9]
    clear hw9 w9
    have hr0 := read_yes false mv8.d.has
    have hr1 := read_yes true mv8.d.has
    rw [full_false] at hr0
    rw [full_true] at hr1
    have hsr := same_bytes R
    clear c0 c1
    go_wp2_with fail
    refine hr0.mono ?_
    rintro e w9 ⟨rfl, hw9⟩
    rw [hw9]
    clear hw9 w9
    go_wp2_with fail
    refine hr1.mono ?_
    rintro e w9 ⟨rfl, hw9⟩
    rw [hw9]
    clear hw9 w9
    go_wp2_with fail
    refine (waits_none mv8.d.has).mono ?_
    rintro e w9 ⟨rfl, hw9⟩
    rw [hw9]
    clear hw9 w9
    go_wp2_with fail
    refine (vAppend_stale mv8.a nx).mono ?_
    rintro e w9 ⟨rfl, hw9⟩
    rw [hw9]
    clear hw9 w9
    go_wp2
    go_ret
    exact ⟨rfl, mv8.d.below⟩
  · have hz : (le == 0) = false := by simpa using hle0
    have hlt : E < 1099511627776 := by omega
    go_wp2_with fail
    refine (settle_vs mv8 nx hlt (img_any nx (E + 1) (by omega) (by omega)) (by decide)).mono ?_
    rintro e w9 ⟨rfl, vs9, _⟩
    clear mv8 c0 c1
    obtain ⟨lb9, ob9, v9, dn9, mv9, hs9⟩ := vs9.mv
    have hF9 := vs9.here hs9
    have hr0 : txt false (dn9 ++ recs (!false) (([] : List ByteArray).map ldB)) = ⟨#[]⟩ := by
      have h1 := hs9 false
      simp only [List.map_nil, recs, List.append_nil]
      rw [h1]
      exact txt_other true _
    have HR0 := Hid.mk hr0
    have HF9 := Hid.mk hF9
    clear vs9 hs9 hr0 hF9
    go_wp2_with fail
    refine (mvOpen mv9.d HF9.out).mono ?_
    rintro e w10 ⟨vb10, lb10, ob10, tn10, tm10, va10, vc10, rfl, mv10, _, hb10⟩
    have mv11 := mv9.grow hb10
    have hx10 : Below w10.heap.size w10 (w10.alloc (.cells #[.string nx, .slice va10 0 vc10] 28)) := (Below.refl _ w10).alloc (Nat.le_refl _) _
    have mv12 := mv11.grow hx10
    obtain ⟨d0, d1, _, _⟩ := box2 (heap_alloc_new w10 (.cells #[.string nx, .slice va10 0 vc10] 28))
    have hsn := same_bytes nx
    clear mv9 hb10 mv11 hx10 mv10
    go_wp2_with fail
    refine (vEpoch_any mv12.a).mono ?_
    rintro e w11 ⟨rfl, hw11⟩
    rw [hw11]
    clear hw11 w11
    have hrd := read_yes false mv12.d.has
    rw [HR0.out] at hrd
    go_wp2_with fail
    refine hrd.mono ?_
    rintro e w11 ⟨rfl, hw11⟩
    rw [hw11]
    clear hw11 w11
    go_wp2
    go_ret
    exact ⟨rfl, mv12.d.below⟩

set_option maxRecDepth 100000 in
theorem lifted (os : Os) (started : os.Started) (H : Type) (enc : TypeId × Value → H) :
    ReturnsInHanded {} Try.checked os 4 .any (Rows.vaultFullSpec.pre6 enc Try.prog Try.f4 Rows.vaultFullRow.domain false) (Rows.vaultFullSpec.post enc Try.prog Try.f4 false true false false) := by
  refine returnsInHanded_of_change (C := Try.checked) own started (by kernel_rfl) Try.func4
    (ChangeSpec.witness6 (enc := enc) (C := Try.checked) false ⟨#[], #[.string .empty, .string .empty, .int .i64 0], []⟩ 8 (by kernel_rfl) (by kernel_rfl) (by kernel_rfl) (by kernel_rfl)) ?_
  intro W base args ds gs before hval0 hW hcnd _
  have hval : ∀ (j : Nat) t v, Try.f4.params[j]? = some t → args[j]? = some v → Value.okWide Try.prog W .any base t v := hval0
  have hW' := hW
  obtain ⟨p, q, hA0, hV, rfl, hfz, hnd⟩ := hW
  have hA : DataW.TrodAll enc Try.prog W 0 (fun _ => true) true Try.f4.params.toList args.toList ds p := hA0
  rw [Try.params4] at hA hval
  obtain ⟨v0, vs0, d0, ds0, p0, q0, hargs, rfl, rfl, h0, r0⟩ := trodAll_cons hA
  obtain ⟨v1, vs1, d1, ds1, p1, q1, rfl, rfl, rfl, h1, r1⟩ := trodAll_cons r0
  obtain ⟨v2, vs2, d2, ds2, p2, q2, rfl, rfl, rfl, h2, r2⟩ := trodAll_cons r1
  obtain ⟨rfl, rfl, rfl⟩ := trodAll_nil r2
  obtain rfl : args = #[v0, v1, v2] := by cases args; simp_all
  obtain ⟨rfl, rfl⟩ := trodVars_none hV
  obtain ⟨s0, rfl, rfl, rfl, w0⟩ := open_string Try.underlying9 (hval 0 9 v0 rfl rfl) h0
  obtain ⟨s1, rfl, rfl, rfl, w1⟩ := open_string Try.underlying9 (hval 1 9 v1 rfl rfl) h1
  obtain ⟨a2, rfl, rfl, rfl, w2⟩ := open_int Try.underlying3 (hval 2 3 v2 rfl rfl) h2
  clear hA0 hval0
  refine (walk s0 s1 a2 W w2).mono fun e W' ⟨he, bel⟩ => ?_
  subst he
  exact ⟨_, rfl, _, _, _, [], _, [], hW', trodAll_mk1 (shut_bool Try.underlying4 _), (trodAll_cons_mk (shut_string Try.underlying9 w0) (trodAll_cons_mk (shut_string Try.underlying9 w1) (trodAll_cons_mk (shut_int Try.underlying3 w2) trodAll_mk0))), rfl, bel.frame _, fun h => by cases h⟩

set_option maxRecDepth 100000 in
theorem over : Rows.vaultFullRow.holds Try.pinned (OpenSpec.ofChange Rows.vaultFullSpec) :=
  OpenClaim.holds_of_wide 4 Try.f4 rfl rfl rfl rfl rfl rfl rfl ⟨rfl, rfl, rfl, rfl, rfl⟩ rfl rfl rfl rfl rfl (by kernel_rfl) Try.func4 (by kernel_rfl)
    (of_decide_eq_true (by kernel_rfl)) (by unfold Func.isWrapper; first | (rw [if_pos (by decide +kernel)]; kernel_rfl) | (rw [if_neg (by decide +kernel)]; exact ⟨rfl, rfl⟩))
    (fun os started H enc _ => lifted os started H enc)

end Go.Proofs.Ytcofiidibhmhgab.vaultFull

namespace Go.Proofs.Ytcofiidibhmhgab
/-- The statement. -/
theorem vaultFull_holds : Rows.VaultFullSaid := vaultFull.over
#print axioms vaultFull_holds
end Go.Proofs.Ytcofiidibhmhgab
