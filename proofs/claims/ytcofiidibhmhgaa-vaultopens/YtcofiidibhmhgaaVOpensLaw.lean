/-
  VaultOpens: for all texts on both areas the law returns true: Open finds what the document says. No condition.
-/
import Derived.Test.YtcofiidibhmhgaaVFound
namespace Go.Proofs.Ytcofiidibhmhgaa.vaultOpens
open Go.ChangeShapes Go.WideShapes Go.ChangeAt Go.RowKit Go.Deep
open Go.ChangeMaps (open_string shut_string)

set_option maxHeartbeats 3200000 in
set_option maxRecDepth 100000 in
theorem walk (a b : ByteArray) (w : World) :
    Calls Try.prog 3 #[.string a, .string b] w fun e w' => e = .returned (.bool true) ∧ Below w.heap.size w w' := by
  go_enter Try.func3, Try.ntmps3
  go_wp2_with fail
  refine (alive_any w).mono ?_
  rintro e w1 ⟨rfl, hb1⟩
  go_wp2_with fail
  refine (great_any _ 2 2 [a, b] _ (texts_two w1 a b)).mono ?_
  rintro e w2 ⟨hw2, hg⟩
  have hb2 : Below w.heap.size w w2 := by rw [hw2]; exact hb1.alloc hb1.size _
  clear hw2 hb1
  rcases hg with rfl | ⟨rfl, _, hsum⟩
  · go_wp2
    go_ret
    exact ⟨rfl, hb2⟩
  obtain ⟨ha, hbs⟩ := sum_two hsum
  clear hsum
  have h0 := Mine.new hb2 hb2.size
  go_wp2_with fail
  refine (new_any w2).mono ?_
  rintro e w3 ⟨rfl, hw3⟩
  rw [← hw3] at h0
  clear hw3
  go_wp2_with fail
  refine (append_yes false a h0.has (by show 0 + a.size ≤ _; omega) (by decide)).mono ?_
  rintro e w4 ⟨rfl, v4, h4, hd4⟩
  have m4 := h0.step h4 hd4
  clear h4 hd4 h0
  go_wp2_with fail
  refine (append_yes true b m4.has (by show 0 + b.size ≤ _; omega) (by simp)).mono ?_
  rintro e w5 ⟨rfl, v5, h5, hd5⟩
  have m5 : Mine w.heap.size w w5 w2.heap.size v5 [] (twoW a b) := m4.step h5 hd5
  clear h5 hd5 m4
  obtain ⟨y, ep, s, lds, hF⟩ := fnd_exists [] (twoW a b)
  have hlen := hF.len m5.has.fits
  have HF := Hid.mk hF
  go_wp2_with fail
  refine (mvOpen m5 hF).mono ?_
  rintro e w6 ⟨vb6, lb6, ob6, tn6, tm6, va6, vc6, rfl, mv6, row6, hb6⟩
  obtain ⟨W, hW⟩ : ∃ W, W = w6.alloc (.cells #[.string s, .slice va6 lds.length vc6] 31) := ⟨_, rfl⟩
  have hx6 : Below w6.heap.size w6 W := by rw [hW]; exact (Below.refl _ w6).alloc (Nat.le_refl _) _
  have mv7 := mv6.grow hx6
  have row7 := (Keeps.below hx6).row row6
  have bx7 : W.heap[w6.heap.size]? = some (.cells #[.string s, .slice va6 lds.length vc6] 31 (0, 0)) := by rw [hW]; exact heap_alloc_new w6 _
  have hzW : w6.heap.size < W.heap.size := by rw [hW]; simp
  clear m5 mv6 row6 hb6 hx6 hF
  go_wp2_with fail
  rw [← hW]
  clear hW
  refine (refFound_any W a b (by omega) (by omega)).mono ?_
  rintro e w8 ⟨y8, e8, s8, va8, vc8, lds8, rfl, hF8, row8, hb8⟩
  obtain ⟨rfl, rfl, rfl, rfl⟩ := HF.out.one hF8
  have mv8 := mv7.grow hb8
  obtain ⟨c0, c1, _, _⟩ := box2 ((hb8.block w6.heap.size hzW).trans bx7)
  obtain ⟨a1, c1', e1, t1⟩ := texts_of_row ((Keeps.below hb8).row row7)
  obtain ⟨a2, c2', e2, t2⟩ := texts_of_row row8
  cases e1
  cases e2
  have hss := same_bytes s
  clear mv7 row7 bx7 hb8 row8 hF8
  go_wp2_with fail
  refine (vEpoch_any mv8.a).mono ?_
  rintro e w9 ⟨rfl, hw9⟩
  rw [hw9]
  clear hw9 w9
  go_wp2_with fail
  refine (same_yes hlen t1 t2).mono ?_
  rintro e w9 ⟨rfl, hb9⟩
  have mv9 := mv8.grow hb9
  clear mv8 hb9 c0 c1 t1 t2
  go_wp2_with fail
  refine (vAppend_stale mv9.a ⟨#[120]⟩).mono ?_
  rintro e w10 ⟨rfl, hw10⟩
  rw [hw10]
  clear hw10 w10
  go_wp2
  go_ret
  exact ⟨rfl, mv9.d.below⟩

set_option maxRecDepth 100000 in
theorem lifted (os : Os) (started : os.Started) (H : Type) (enc : TypeId × Value → H) :
    ReturnsInHanded {} Try.checked os 3 .any (Rows.vaultOpensSpec.pre6 enc Try.prog Try.f3 Rows.vaultOpensRow.domain false) (Rows.vaultOpensSpec.post enc Try.prog Try.f3 false true false false) := by
  refine returnsInHanded_of_change (C := Try.checked) own started (by kernel_rfl) Try.func3
    (ChangeSpec.witness6 (enc := enc) (C := Try.checked) false ⟨#[], #[.string .empty, .string .empty], []⟩ 8 (by kernel_rfl) (by kernel_rfl) (by kernel_rfl) (by kernel_rfl)) ?_
  intro W base args ds gs before hval0 hW hcnd _
  have hval : ∀ (j : Nat) t v, Try.f3.params[j]? = some t → args[j]? = some v → Value.okWide Try.prog W .any base t v := hval0
  have hW' := hW
  obtain ⟨p, q, hA0, hV, rfl, hfz, hnd⟩ := hW
  have hA : DataW.TrodAll enc Try.prog W 0 (fun _ => true) true Try.f3.params.toList args.toList ds p := hA0
  rw [Try.params3] at hA hval
  obtain ⟨v0, vs0, d0, ds0, p0, q0, hargs, rfl, rfl, h0, r0⟩ := trodAll_cons hA
  obtain ⟨v1, vs1, d1, ds1, p1, q1, rfl, rfl, rfl, h1, r1⟩ := trodAll_cons r0
  obtain ⟨rfl, rfl, rfl⟩ := trodAll_nil r1
  obtain rfl : args = #[v0, v1] := by cases args; simp_all
  obtain ⟨rfl, rfl⟩ := trodVars_none hV
  obtain ⟨s0, rfl, rfl, rfl, w0⟩ := open_string Try.underlying9 (hval 0 9 v0 rfl rfl) h0
  obtain ⟨s1, rfl, rfl, rfl, w1⟩ := open_string Try.underlying9 (hval 1 9 v1 rfl rfl) h1
  clear hA0 hval0
  refine (walk s0 s1 W ).mono fun e W' ⟨he, bel⟩ => ?_
  subst he
  exact ⟨_, rfl, _, _, _, [], _, [], hW', trodAll_mk1 (shut_bool Try.underlying4 _), (trodAll_cons_mk (shut_string Try.underlying9 w0) (trodAll_cons_mk (shut_string Try.underlying9 w1) trodAll_mk0)), rfl, bel.frame _, fun h => by cases h⟩

set_option maxRecDepth 100000 in
theorem over : Rows.vaultOpensRow.holds Try.pinned (OpenSpec.ofChange Rows.vaultOpensSpec) :=
  OpenClaim.holds_of_wide 3 Try.f3 rfl rfl rfl rfl rfl rfl rfl ⟨rfl, rfl, rfl, rfl, rfl⟩ rfl rfl rfl rfl rfl (by kernel_rfl) Try.func3 (by kernel_rfl)
    (of_decide_eq_true (by kernel_rfl)) (by unfold Func.isWrapper; first | (rw [if_pos (by decide +kernel)]; kernel_rfl) | (rw [if_neg (by decide +kernel)]; exact ⟨rfl, rfl⟩))
    (fun os started H enc _ => lifted os started H enc)

end Go.Proofs.Ytcofiidibhmhgaa.vaultOpens

namespace Go.Proofs.Ytcofiidibhmhgaa
/-- The statement. -/
theorem vaultOpens_holds : Rows.VaultOpensSaid := vaultOpens.over
#print axioms vaultOpens_holds
end Go.Proofs.Ytcofiidibhmhgaa
