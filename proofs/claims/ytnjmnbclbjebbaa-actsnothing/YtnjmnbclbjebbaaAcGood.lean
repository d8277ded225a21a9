/-
  good: a walk.
-/
import Derived.Test.YtnjmnbclbjebbaaAcLaw
namespace Go.Proofs.Ytnjmnbclbjebbaa.Ac
open Go.RowKit Go.Deep Go.Proofs.Ytnjmnbclbjebbaa.Cel Go.Proofs.Ytnjmnbclbjebbaa.Dft

set_option maxHeartbeats 4000000 in
set_option maxRecDepth 100000 in
theorem goodA (w : World) (x : A3) :
    Calls Try.prog 8 #[.agg #[.int .i64 x.1, .int .i64 x.2.1, .int .i64 x.2.2]] w fun e w' => e = .returned (.bool (good x)) ∧ Below w.heap.size w w' := by
  obtain ⟨k, a, y⟩ := x
  obtain ⟨g, hg⟩ : ∃ g, g = good (k, a, y) := ⟨_, rfl⟩
  rw [← hg]
  have HG := Hid.mk hg
  clear hg
  go_enter Try.func8, Try.ntmps8
  go_wp2
  all_goals
    go_ret
    refine ⟨?_, (Below.refl w.heap.size w).alloc (Nat.le_refl _) _⟩
    rw [HG.out]
    unfold good
    refine congrArg (fun b => Ending.returned (.bool b)) ?_
    rw [Bool.eq_iff_iff]
    simp only [Bool.or_eq_true, Bool.and_eq_true, decide_eq_true_eq, beq_iff_eq, true_iff, eq_self]
    omega

end Go.Proofs.Ytnjmnbclbjebbaa.Ac
