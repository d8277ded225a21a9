/-
  The law's own 'alive'.
-/
import Derived.Test.YtmlebbfaafccnaaRNewI
namespace Go.Proofs.Ytmlebbfaafccnaa.Cel
open Go.RowKit Go.Proofs.Ytmlebbfaafccnaa.Cel.I

set_option maxHeartbeats 1600000 in
set_option maxRecDepth 100000 in
theorem alive_any (w : World) : Calls Try.prog 6 #[] w fun e w' => e = .returned (.bool true) ∧ Below w.heap.size w w' := by
  go_enter Try.func6, Try.ntmps6
  go_wp2_with fail
  refine (new_any 2 7 w).mono ?_
  rintro e w1 ⟨rfl, hr, hb, _⟩
  have e2 : List.replicate (made 2) ((7, 0) : Int × Int) = [(7, 0), (7, 0)] := by decide
  rw [e2] at hr
  have HR := Hid.mk hr
  have HB := Hid.mk hb
  clear hr hb e2
  go_wp2_with fail
  refine (get_yes HR.out 1 (by decide)).mono ?_
  rintro e w2 ⟨rfl, n, hn⟩
  have HR2 := Hid.mk (HR.out.drewN n)
  rw [hn]
  clear hn w2
  go_wp2_with fail
  refine (len_yes HR2.out).mono ?_
  rintro e w3 ⟨rfl, hw3⟩
  rw [hw3]
  clear hw3 w3
  go_wp2_with fail
  refine (set_yes HR2.out 1 (by decide) 5 3).mono ?_
  rintro e w4 ⟨rfl, hr4, ho4⟩
  go_wp2_with fail
  refine (version_yes hr4 1 (by decide)).mono ?_
  rintro e w5 ⟨rfl, hw5⟩
  rw [hw5]
  go_wp2
  go_ret
  exact ⟨rfl, (below_drewN HB.out _).trans (ho4.below (Nat.le_refl _))⟩

end Go.Proofs.Ytmlebbfaafccnaa.Cel
