/-
  The document's ways by value, one of three.
-/
import Derived.Test.YtjiljencdhbchaaXRef
namespace Go.Proofs.Ytjiljencdhbchaa
open Go.RowKit

set_option maxRecDepth 100000 in
theorem ix0 (w : World) (v0 v1 v2 v3 v4 v5 v6 v7 v8 : Value) : (Instr.index 30 (.agg #[v0, v1, v2, v3, v4, v5, v6, v7, v8]) (.int .i64 0)).run Try.prog w = .ok (.agg #[v0, v1, v2]) w := by
  rfl
set_option maxRecDepth 100000 in
theorem ix1 (w : World) (v0 v1 v2 v3 v4 v5 v6 v7 v8 : Value) : (Instr.index 30 (.agg #[v0, v1, v2, v3, v4, v5, v6, v7, v8]) (.int .i64 1)).run Try.prog w = .ok (.agg #[v3, v4, v5]) w := by
  rfl
set_option maxRecDepth 100000 in
theorem ix2 (w : World) (v0 v1 v2 v3 v4 v5 v6 v7 v8 : Value) : (Instr.index 30 (.agg #[v0, v1, v2, v3, v4, v5, v6, v7, v8]) (.int .i64 2)).run Try.prog w = .ok (.agg #[v6, v7, v8]) w := by
  rfl

end Go.Proofs.Ytjiljencdhbchaa
