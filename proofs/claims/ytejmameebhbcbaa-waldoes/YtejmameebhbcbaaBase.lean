/-
  Two facts on the program that each row's step asks for.
-/
import Derived.Test.YtejmameebhbcbaaRefOpens
import Derived.ProofKit
import Derived.OpenShut
import Derived.Deep.Strs
namespace Go.Proofs.Ytejmameebhbcbaa
open Go.RowKit
theorem own : ownKnob Try.prog.godebug = none := by kernel_rfl
theorem laidOut : laidOutB Try.prog = true := by kernel_rfl
end Go.Proofs.Ytejmameebhbcbaa
