/-
  Two facts on the program that each row's step asks for.
-/
import Derived.Test.YtcofiidibhmhgaaRefOpens
import Derived.ProofKit
import Derived.OpenShut
import Derived.Deep.Strs
namespace Go.Proofs.Ytcofiidibhmhgaa
open Go.RowKit
set_option maxRecDepth 100000 in
theorem own : ownKnob Try.prog.godebug = none := by kernel_rfl
set_option maxRecDepth 100000 in
theorem laidOut : laidOutB Try.prog = true := by kernel_rfl
end Go.Proofs.Ytcofiidibhmhgaa
