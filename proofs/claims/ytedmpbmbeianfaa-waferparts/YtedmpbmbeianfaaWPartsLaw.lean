/-
  WaferParts: for every two lists of loads the law returns true: two rows, one behind the other, are the row of all their loads. No condition.
-/
import Derived.Test.YtedmpbmbeianfaaJoined
namespace Go.Proofs.Ytedmpbmbeianfaa.waferParts
open Go.ChangeShapes Go.WideShapes Go.ChangeAt Go.RowKit

theorem ret_same (xs ys : List ByteArray) : Ending.returned (.bool (((⟨(rowB xs).toArray⟩ : ByteArray) ++ (⟨(rowB ys).toArray⟩ : ByteArray)).toList == rowB (xs ++ ys))) = .returned (.bool true) := by
  rw [join_bytes, rowB_append]
  simp [go_sem]

set_option maxHeartbeats 800000 in
theorem walk (a : Option Addr) (la ca : Nat) (xs : List ByteArray) (b : Option Addr) (lb cb : Nat) (ys : List ByteArray) (w : World) (ha : IsTexts w a la ca xs) (hb : IsTexts w b lb cb ys) :
    Calls Try.prog 8 #[.slice a la ca, .slice b lb cb] w fun e w' => e = .returned (.bool true) ∧ Below w.heap.size w w' := by
  go_enter Try.func8, Try.ntmps8
  go_wp2_with fail
  refine (alive_any _).mono ?_
  rintro e w1 ⟨rfl, hb1⟩
  have ha1 := ha.carry hb1
  have hb0 := hb.carry hb1
  go_wp2_with fail
  refine (great_any a la ca xs _ ha1).mono ?_
  rintro e w2 ⟨rfl, rfl | ⟨rfl, hla, hsa⟩⟩
  · go_wp2
    go_ret
    exact ⟨rfl, hb1⟩
  go_wp2_with fail
  refine (great_any b lb cb ys _ hb0).mono ?_
  rintro e w3 ⟨rfl, rfl | ⟨rfl, hlb, hsb⟩⟩
  · go_wp2
    go_ret
    exact ⟨rfl, hb1⟩
  go_wp2_with fail
  refine (row_any a la ca xs _ ha1 (by omega) (by omega)).mono ?_
  rintro e w4 ⟨rfl, hb4⟩
  have hbb4 := hb1.trans (hb4.mono hb1.size)
  have ha2 := ha1.carry hb4
  have hb2 := hb0.carry hb4
  clear hb4 ha1 hb0 hb1
  go_wp2_with fail
  refine (row_any b lb cb ys _ hb2 (by omega) (by omega)).mono ?_
  rintro e w5 ⟨rfl, hb5⟩
  have hbb5 := hbb4.trans (hb5.mono hbb4.size)
  have ha3 := ha2.carry hb5
  have hb3 := hb2.carry hb5
  clear hb5 ha2 hb2 hbb4
  have hx1 : (rowB xs).length ≤ 3000 := by have h := rowB_le xs; rw [ha.1] at h; omega
  have hy1 : (rowB ys).length ≤ 3000 := by have h := rowB_le ys; rw [hb.1] at h; omega
  go_wp2_with (at_builtin; refine wpList_append_texts _ rfl (.tmp 18) (.tmp 19) rfl w5.heap.size _ 0 [] rfl ?o1 a la ca xs rfl ?i1 (by omega) (by simp) ?_)
  case o1 => exact World.ownsRow_made w5 #[] 0 (Nat.le_refl _) (Nat.zero_le _) rfl
  case i1 => exact ha3.carry ((Below.refl _ _).alloc (Nat.le_refl _) _)
  intro v1 w6 hown1 hg1
  have hb56 : Below w5.heap.size w5 w6 := ((Below.refl _ _).alloc (Nat.le_refl _) _).grown hg1 (by simp) (fun k hk => by simp [Value.ownBlock] at hk; omega)
  have hb4 := hb3.carry hb56
  clear hg1 ha3 hb3
  go_wp2_with (at_builtin; refine wpList_append_texts _ rfl (.tmp 20) (.tmp 21) rfl w5.heap.size v1 la (textCells xs) rfl (by simpa using hown1) b lb cb ys rfl hb4 (by omega) hb56.size ?_)
  intro v2 w7 hown2 hg2
  have hb57 : Below w5.heap.size w5 w7 := hb56.grown hg2 hb56.size (fun k hk => (hown1.lt k hk).1)
  have hbb7 := hbb5.trans (hb57.mono hbb5.size)
  rw [← textCells_append] at hown2
  obtain ⟨a2, c2, rfl, hit⟩ := texts_of_row hown2
  clear hb56 hb57 hg2 hown1 hown2 hb4 hbb5
  go_wp2_with fail
  refine (row_any a2 (la + lb) c2 (xs ++ ys) _ hit (by omega) (by rw [sumT_append]; omega)).mono ?_
  rintro e w8 ⟨rfl, hb8⟩
  have hbb8 := hbb7.trans (hb8.mono hbb7.size)
  clear hb8 hbb7 hit
  go_wp2
  go_ret
  exact ⟨ret_same xs ys, hbb8⟩

set_option maxRecDepth 100000 in
theorem lifted (os : Os) (started : os.Started) (H : Type) (enc : TypeId × Value → H) :
    ReturnsInHanded {} Try.checked os 8 .any (Rows.waferPartsSpec.pre6 enc Try.prog Try.f8 Rows.waferPartsRow.domain false) (Rows.waferPartsSpec.post enc Try.prog Try.f8 false true false false) := by
  refine returnsInHanded_of_change (C := Try.checked) own started (by kernel_rfl) Try.func8
    (ChangeSpec.witness6 (enc := enc) (C := Try.checked) false ⟨#[], #[.slice none 0 0, .slice none 0 0], []⟩ 8 (by kernel_rfl) (by kernel_rfl) (by kernel_rfl) (by kernel_rfl)) ?_
  intro W base args ds gs before hval0 hW hcnd _
  have hval : ∀ (j : Nat) t v, Try.f8.params[j]? = some t → args[j]? = some v → Value.okWide Try.prog W .any base t v := hval0
  have hW' := hW
  obtain ⟨p, q, hA0, hV, rfl, hfz, hnd⟩ := hW
  have hA : DataW.TrodAll enc Try.prog W 0 (fun _ => true) true Try.f8.params.toList args.toList ds p := hA0
  rw [Try.params8] at hA hval
  obtain ⟨v0, vs0, d0, ds0, p0, q0, hargs, rfl, rfl, h0, r0⟩ := trodAll_cons hA
  obtain ⟨v1, vs1, d1, ds1, p1, q1, rfl, rfl, rfl, h1, r1⟩ := trodAll_cons r0
  obtain ⟨rfl, rfl, rfl⟩ := trodAll_nil r1
  obtain rfl : args = #[v0, v1] := by cases args; simp_all
  obtain ⟨rfl, rfl⟩ := trodVars_none hV
  obtain ⟨a0, len0, cap0, rfl⟩ := okWide_slice Try.underlying30 (hval 0 30 v0 rfl rfl)
  have k0 := h0
  have lt0 : ∀ x ∈ p0, x.block < W.heap.size := by obtain ⟨m, hm⟩ := k0; exact DataW.trod_lt m _ _ _ hm
  obtain ⟨ts0, w0⟩ : ∃ ts, IsTexts W a0 len0 cap0 ts := by
    obtain ⟨fuel, hf⟩ := h0
    exact open_texts hf
  obtain ⟨a1, len1, cap1, rfl⟩ := okWide_slice Try.underlying30 (hval 1 30 v1 rfl rfl)
  have k1 := h1
  have lt1 : ∀ x ∈ p1, x.block < W.heap.size := by obtain ⟨m, hm⟩ := k1; exact DataW.trod_lt m _ _ _ hm
  obtain ⟨ts1, w1⟩ : ∃ ts, IsTexts W a1 len1 cap1 ts := by
    obtain ⟨fuel, hf⟩ := h1
    exact open_texts hf
  clear hA0 hval0
  refine (walk a0 len0 cap0 ts0 a1 len1 cap1 ts1 W w0 w1).mono fun e W' ⟨he, bel⟩ => ?_
  subst he
  exact ⟨_, rfl, _, _, _, [], _, [], hW', trodAll_mk1 (shut_bool Try.underlying4 _), (trodAll_cons_mk (Below.trod laidOut (by kernel_rfl) (of_decide_eq_true (by kernel_rfl)) k0 bel lt0) (trodAll_cons_mk (Below.trod laidOut (by kernel_rfl) (of_decide_eq_true (by kernel_rfl)) k1 bel lt1) trodAll_mk0)), rfl, bel.frame _, fun h => by cases h⟩

theorem over : Rows.waferPartsRow.holds Try.pinned (OpenSpec.ofChange Rows.waferPartsSpec) :=
  OpenClaim.holds_of_wide 8 Try.f8 rfl rfl rfl rfl rfl rfl rfl ⟨rfl, rfl, rfl, rfl, rfl⟩ rfl rfl rfl rfl rfl (by kernel_rfl) Try.func8 (by kernel_rfl)
    (of_decide_eq_true (by kernel_rfl)) (by unfold Func.isWrapper; first | (rw [if_pos (by decide +kernel)]; kernel_rfl) | (rw [if_neg (by decide +kernel)]; exact ⟨rfl, rfl⟩))
    (fun os started H enc _ => lifted os started H enc)

end Go.Proofs.Ytedmpbmbeianfaa.waferParts

namespace Go.Proofs.Ytedmpbmbeianfaa
/-- The statement. -/
theorem parts_holds : Rows.WaferPartsSaid := waferParts.over
#print axioms parts_holds
end Go.Proofs.Ytedmpbmbeianfaa
