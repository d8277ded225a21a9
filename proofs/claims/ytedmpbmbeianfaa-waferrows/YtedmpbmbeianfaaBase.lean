/-
  Two facts on the program that each row's step asks for.
-/
import Derived.Test.YtedmpbmbeianfaaAlive2
import Derived.Test.YtedmpbmbeianfaaRefOpens
import Derived.ProofKit
import Derived.OpenShut
import Derived.Deep.Strs
namespace Go.Proofs.Ytedmpbmbeianfaa
open Go.RowKit
theorem own : ownKnob Try.prog.godebug = none := by kernel_rfl
theorem laidOut : laidOutB Try.prog = true := by kernel_rfl
end Go.Proofs.Ytedmpbmbeianfaa
