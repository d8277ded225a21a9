/-
  VaultTwice: for all texts on both areas the law returns true: opened twice a vault finds what it found once, and opening changes nothing. No condition.
-/
import Derived.Test.YtcofiidibhmhgaaVTwo
namespace Go.Proofs.Ytcofiidibhmhgaa.vaultTwice
open Go.ChangeShapes Go.WideShapes Go.ChangeAt Go.RowKit Go.Deep
open Go.ChangeMaps (open_string shut_string)

set_option maxHeartbeats 3200000 in
set_option maxRecDepth 100000 in
theorem walk (a b : ByteArray) (w : World) :
    Calls Try.prog 8 #[.string a, .string b] w fun e w' => e = .returned (.bool true) ∧ Below w.heap.size w w' := by
  go_enter Try.func8, Try.ntmps8
  go_wp2_with fail
  refine (alive_any w).mono ?_
  rintro e w1 ⟨rfl, hb1⟩
  go_wp2_with fail
  refine (great_any _ 2 2 [a, b] _ (texts_two w1 a b)).mono ?_
  rintro e w2 ⟨hw2, hg⟩
  have hb2 : Below w.heap.size w w2 := by rw [hw2]; exact hb1.alloc hb1.size _
  clear hw2 hb1
  rcases hg with rfl | ⟨rfl, _, hsum⟩
  · go_wp2
    go_ret
    exact ⟨rfl, hb2⟩
  obtain ⟨ha, hbs⟩ := sum_two hsum
  clear hsum
  have h0 := Mine.new hb2 hb2.size
  go_wp2_with fail
  refine (new_any w2).mono ?_
  rintro e w3 ⟨rfl, hw3⟩
  rw [← hw3] at h0
  clear hw3
  go_wp2_with fail
  refine (append_yes false a h0.has (by show 0 + a.size ≤ _; omega) (by decide)).mono ?_
  rintro e w4 ⟨rfl, v4, h4, hd4⟩
  have m4 := h0.step h4 hd4
  clear h4 hd4 h0
  go_wp2_with fail
  refine (append_yes true b m4.has (by show 0 + b.size ≤ _; omega) (by simp)).mono ?_
  rintro e w5 ⟨rfl, v5, h5, hd5⟩
  have m5 : Mine w.heap.size w w5 w2.heap.size v5 [] (twoW a b) := m4.step h5 hd5
  clear h5 hd5 m4 ha hbs
  obtain ⟨y, ep, s, lds, hF⟩ := fnd_exists [] (twoW a b)
  obtain ⟨L, M, f, t, m, hL, hM, hT, hU, hlt⟩ := hF
  have hF : Fnd [] (twoW a b) y ep s lds := ⟨L, M, f, t, m, hL, hM, hT, hU, hlt⟩
  have hlen : lds.length ≤ 1000000 := by
    have h1 := hT.len
    have h2 := hL.whole
    have h3 := wholeN_len L
    have h4 := m5.has.fits.all y
    rw [← size_list] at h4
    omega
  have HL := Hid.mk hL
  clear hM hT hU hlt hL
  go_wp2_with fail
  refine (mvOpen m5 hF).mono ?_
  rintro e w6 ⟨vb6, lb6, ob6, tn6, tm6, va6, vc6, rfl, mv6, row6, hb6⟩
  have hx6 : Below w6.heap.size w6 (w6.alloc (.cells #[.string s, .slice va6 lds.length vc6] 31)) := (Below.refl _ w6).alloc (Nat.le_refl _) _
  have mv7 := mv6.grow hx6
  have row7 := (Keeps.below hx6).row row6
  have bx7 := heap_alloc_new w6 (.cells #[.string s, .slice va6 lds.length vc6] 31)
  clear m5 mv6 row6 hb6 hx6
  go_wp2_with fail
  refine (mvOpen mv7.d hF).mono ?_
  rintro e w8 ⟨vb8, lb8, ob8, tn8, tm8, va8, vc8, rfl, mv8, row8, hb8⟩
  have mv78 := mv7.grow hb8
  have row78 := (Keeps.below hb8).row row7
  have bx78 := (hb8.block w6.heap.size (by simp)).trans bx7
  have hx8 : Below w8.heap.size w8 (w8.alloc (.cells #[.string s, .slice va8 lds.length vc8] 31)) := (Below.refl _ w8).alloc (Nat.le_refl _) _
  have hlt8 : w6.heap.size < w8.heap.size := by have := hb8.size; simp at this; omega
  have mvA := mv78.grow hx8
  have mvB := mv8.grow hx8
  have rowA := (Keeps.below hx8).row row78
  have rowB := (Keeps.below hx8).row row8
  have bxA := (hx8.block w6.heap.size hlt8).trans bx78
  have bxB := heap_alloc_new w8 (.cells #[.string s, .slice va8 lds.length vc8] 31)
  clear mv7 row7 bx7 hb8 mv78 row78 bx78 hx8 mv8 row8 hF
  obtain ⟨w9, hw9⟩ : ∃ w9, w9 = w8.alloc (.cells #[.string s, .slice va8 lds.length vc8] 31) := ⟨_, rfl⟩
  have hz9 : w9.heap.size = w8.heap.size + 1 := by rw [hw9]; simp
  go_wp2_with fail
  rw [← hw9] at mvA mvB rowA rowB bxA bxB ⊢
  have HW := Hid.mk hw9
  clear hw9
  refine (vEpoch_any mvA.a).mono ?_
  rintro e w10 ⟨rfl, hw10⟩
  rw [hw10]
  clear hw10 w10
  go_wp2_with fail
  refine (vEpoch_any mvB.a).mono ?_
  rintro e w10 ⟨rfl, hw10⟩
  rw [hw10]
  clear hw10 w10
  go_wp2_with fail
  refine (vSize_any mvA.a mvA.l mvA.d.has L HL.out).mono ?_
  rintro e w10 ⟨rfl, hb10⟩
  have mvB10 := mvB.grow hb10
  go_wp2_with fail
  refine (vSize_any mvB10.a mvB10.l mvB10.d.has L HL.out).mono ?_
  rintro e w11 ⟨rfl, hb11⟩
  have hb9 : Below w9.heap.size w9 w11 := hb10.trans (hb11.mono hb10.size)
  obtain ⟨c0, c1, _, _⟩ := box2 ((hb9.block w6.heap.size (by omega)).trans bxA)
  obtain ⟨d0, d1, _, _⟩ := box2 ((hb9.block w8.heap.size (by omega)).trans bxB)
  obtain ⟨a1, c1', e1, t1⟩ := texts_of_row ((Keeps.below hb9).row rowA)
  obtain ⟨a2, c2', e2, t2⟩ := texts_of_row ((Keeps.below hb9).row rowB)
  cases e1
  cases e2
  have m11 := mvB.d.grow hb9
  have hss := same_bytes s
  clear mvA mvB mvB10 hb10 hb11 hb9 bxA bxB rowA rowB
  go_wp2_with fail
  refine (same_yes hlen t1 t2).mono ?_
  rintro e w12 ⟨rfl, hb12⟩
  have m12 := m11.grow hb12
  have hr0 := read_yes false m12.has
  have hr1 := read_yes true m12.has
  rw [twoW_false] at hr0
  rw [twoW_true] at hr1
  clear c0 c1 d0 d1 t1 t2 m11
  go_wp2_with fail
  refine hr0.mono ?_
  rintro e w13 ⟨rfl, hw13⟩
  rw [hw13]
  clear hw13 w13 hr0
  have hsa := same_bytes a
  have hsb := same_bytes b
  go_wp2_with fail
  refine hr1.mono ?_
  rintro e w13 ⟨rfl, hw13⟩
  rw [hw13]
  clear hw13 w13 hr1
  go_wp2
  go_ret
  exact ⟨rfl, m12.below⟩

set_option maxRecDepth 100000 in
theorem lifted (os : Os) (started : os.Started) (H : Type) (enc : TypeId × Value → H) :
    ReturnsInHanded {} Try.checked os 8 .any (Rows.vaultTwiceSpec.pre6 enc Try.prog Try.f8 Rows.vaultTwiceRow.domain false) (Rows.vaultTwiceSpec.post enc Try.prog Try.f8 false true false false) := by
  refine returnsInHanded_of_change (C := Try.checked) own started (by kernel_rfl) Try.func8
    (ChangeSpec.witness6 (enc := enc) (C := Try.checked) false ⟨#[], #[.string .empty, .string .empty], []⟩ 8 (by kernel_rfl) (by kernel_rfl) (by kernel_rfl) (by kernel_rfl)) ?_
  intro W base args ds gs before hval0 hW hcnd _
  have hval : ∀ (j : Nat) t v, Try.f8.params[j]? = some t → args[j]? = some v → Value.okWide Try.prog W .any base t v := hval0
  have hW' := hW
  obtain ⟨p, q, hA0, hV, rfl, hfz, hnd⟩ := hW
  have hA : DataW.TrodAll enc Try.prog W 0 (fun _ => true) true Try.f8.params.toList args.toList ds p := hA0
  rw [Try.params8] at hA hval
  obtain ⟨v0, vs0, d0, ds0, p0, q0, hargs, rfl, rfl, h0, r0⟩ := trodAll_cons hA
  obtain ⟨v1, vs1, d1, ds1, p1, q1, rfl, rfl, rfl, h1, r1⟩ := trodAll_cons r0
  obtain ⟨rfl, rfl, rfl⟩ := trodAll_nil r1
  obtain rfl : args = #[v0, v1] := by cases args; simp_all
  obtain ⟨rfl, rfl⟩ := trodVars_none hV
  obtain ⟨s0, rfl, rfl, rfl, w0⟩ := open_string Try.underlying9 (hval 0 9 v0 rfl rfl) h0
  obtain ⟨s1, rfl, rfl, rfl, w1⟩ := open_string Try.underlying9 (hval 1 9 v1 rfl rfl) h1
  clear hA0 hval0
  refine (walk s0 s1 W ).mono fun e W' ⟨he, bel⟩ => ?_
  subst he
  exact ⟨_, rfl, _, _, _, [], _, [], hW', trodAll_mk1 (shut_bool Try.underlying4 _), (trodAll_cons_mk (shut_string Try.underlying9 w0) (trodAll_cons_mk (shut_string Try.underlying9 w1) trodAll_mk0)), rfl, bel.frame _, fun h => by cases h⟩

set_option maxRecDepth 100000 in
theorem over : Rows.vaultTwiceRow.holds Try.pinned (OpenSpec.ofChange Rows.vaultTwiceSpec) :=
  OpenClaim.holds_of_wide 8 Try.f8 rfl rfl rfl rfl rfl rfl rfl ⟨rfl, rfl, rfl, rfl, rfl⟩ rfl rfl rfl rfl rfl (by kernel_rfl) Try.func8 (by kernel_rfl)
    (of_decide_eq_true (by kernel_rfl)) (by unfold Func.isWrapper; first | (rw [if_pos (by decide +kernel)]; kernel_rfl) | (rw [if_neg (by decide +kernel)]; exact ⟨rfl, rfl⟩))
    (fun os started H enc _ => lifted os started H enc)

end Go.Proofs.Ytcofiidibhmhgaa.vaultTwice

namespace Go.Proofs.Ytcofiidibhmhgaa
/-- The statement. -/
theorem vaultTwice_holds : Rows.VaultTwiceSaid := vaultTwice.over
#print axioms vaultTwice_holds
end Go.Proofs.Ytcofiidibhmhgaa
