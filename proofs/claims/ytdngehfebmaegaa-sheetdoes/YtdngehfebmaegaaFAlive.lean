/-
  The law's own 'alive'.
-/
import Derived.Test.YtdngehfebmaegaaFPut
namespace Go.Proofs.Ytdngehfebmaegaa.Fil
open Go.RowKit Go.Deep

set_option maxRecDepth 100000 in
theorem field_is (w : World) (is : Bool) (s : ByteArray) : (Instr.field 23 (.agg #[.bool is, .string s]) 0).run Try.prog w = .ok (.bool is) w := by rfl



end Go.Proofs.Ytdngehfebmaegaa.Fil
