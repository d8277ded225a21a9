/-
  The law's own 'alive', 'heavy', 'same' and 'great'; calls as they lie in memory.
-/
import Derived.Test.YtejmameebhbcbaaLMath
import Derived.Test.YtejmameebhbcbaaLLoads
namespace Go.Proofs.Ytejmameebhbcbaa
open Go.ChangeShapes Go.WideShapes Go.ChangeAt Go.RowKit Go.Deep

theorem known_a : txt false ([] ++ kept ([] ++ [⟨false, false, recOf ⟨#[97]⟩⟩] ++ [⟨false, false, recOf ⟨#[98]⟩⟩]) 1 0 ++ []) = recOf ⟨#[97]⟩ := by decide +kernel

set_option maxHeartbeats 1600000 in
theorem alive_any (w : World) : Calls Try.prog 8 #[] w fun e w' => e = .returned (.bool true) ∧ Below w.heap.size w w' := by
  have h0 := Mine.new (Below.refl w.heap.size w) (Nat.le_refl _)
  obtain ⟨wsa, hwsa⟩ : ∃ x, x = ([] : List Ch) ++ [⟨false, false, recOf ⟨#[97]⟩⟩] := ⟨_, rfl⟩
  obtain ⟨wsb, hwsb⟩ : ∃ x, x = wsa ++ [⟨false, false, recOf ⟨#[98]⟩⟩] := ⟨_, rfl⟩
  obtain ⟨dnc, hdnc⟩ : ∃ x, x = [] ++ kept wsb 1 0 := ⟨_, rfl⟩
  have hsa := stepL_ok false ⟨#[97]⟩ [] [] (by decide) (by decide)
  rw [← hwsa] at hsa
  have hsb := stepL_ok false ⟨#[98]⟩ [] wsa (by decide) (by rw [hwsa]; decide +kernel)
  rw [← hwsb] at hsb
  have hla : wsa.length ≤ 1000000 := by rw [hwsa]; simp
  have hlb : wsb.length ≤ 1000000 := by rw [hwsb, hwsa]; simp
  have htx : txt false (dnc ++ []) = recOf ⟨#[97]⟩ := by rw [hdnc, hwsb, hwsa]; exact known_a
  have hA : AllOf (txt false (dnc ++ [])).data.toList [⟨#[97]⟩] := by
    rw [htx, recOf_list]
    have := all_row_nil [⟨#[97]⟩] (fun t ht => by simp at ht; rw [ht]; decide)
    simpa [rowB] using this
  have hto : isTorn (txt false (dnc ++ [])) [⟨#[97]⟩] = false := by
    rw [htx]
    decide +kernel
  have hte : isTorn (txt false ([] ++ [])) [] = false := by decide
  have HSA := Hid.mk hsa
  have HSB := Hid.mk hsb
  have HA := Hid.mk hA
  have HTO := Hid.mk hto
  have HTE := Hid.mk hte
  have HDN := Hid.mk hdnc
  clear hsa hsb hA hto hte htx hdnc hwsb hwsa
  go_enter Try.func8, Try.ntmps8
  go_wp2_with fail
  refine (new_any w).mono ?_
  rintro e w1 ⟨rfl, hw1⟩
  rw [← hw1] at h0
  clear hw1
  go_wp2_with fail
  refine (walOpen_yes false h0.has [] none_empty).mono ?_
  rintro e w2 ⟨rfl, hl2, hb2⟩
  have m2 := h0.opened hl2 hb2
  rw [HTE.out] at m2
  clear hl2 hb2 h0
  go_wp2_with fail
  refine (logAppend_any ⟨#[97]⟩ m2.l m2.d.has (by decide) (by decide)).mono ?_
  rw [HSA.out]
  rintro e w3 ⟨rfl, v3, h3, hw3⟩
  have m3 := m2.step h3 hw3
  clear h3 hw3 m2
  go_wp2_with fail
  refine (logAppend_any ⟨#[98]⟩ m3.l m3.d.has (by decide) hla).mono ?_
  rw [HSB.out]
  rintro e w4 ⟨rfl, v4, h4, hw4⟩
  have m4 := m3.step h4 hw4
  clear h4 hw4 m3
  go_wp2_with fail
  refine (crash_any m4.d.has hlb 1 0).mono ?_
  rintro e w5 ⟨rfl, h5, hw5⟩
  have m5 := m4.d.step h5 hw5
  rw [← HDN.out] at m5
  clear h5 hw5 m4
  go_wp2_with fail
  refine (walOpen_yes false m5.has [⟨#[97]⟩] HA.out).mono ?_
  rintro e w6 ⟨rfl, hl6, hb6⟩
  have m6 := m5.opened hl6 hb6
  rw [HTO.out] at m6
  clear hl6 hb6 m5
  go_wp2_with fail
  refine (size_any m6.l m6.d.has [⟨#[97]⟩] HA.out).mono ?_
  rintro e w7 ⟨rfl, hb7⟩
  have m7 := m6.grow hb7
  clear hb7 m6
  have ew : wholeN [⟨#[97]⟩] = 7 := rfl
  rw [ew]
  clear ew
  go_wp2_with fail
  refine (torn_any m7.l).mono ?_
  rintro e w8 ⟨rfl, hw8⟩
  rw [hw8]
  clear hw8
  go_wp2
  go_ret
  exact ⟨rfl, m7.d.below⟩

end Go.Proofs.Ytejmameebhbcbaa
