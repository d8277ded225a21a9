/-
  The law's own 'great', and the document's 'Same'.
-/
import Derived.Test.YtcofiidibhmhgabVSettle
namespace Go.Proofs.Ytcofiidibhmhgab
open Go.RowKit














end Go.Proofs.Ytcofiidibhmhgab
