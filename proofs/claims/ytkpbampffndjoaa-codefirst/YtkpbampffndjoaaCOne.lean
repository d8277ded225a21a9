/-
  The document's One: can an instruction be, and stand there?
-/
import Derived.Test.YtkpbampffndjoaaCOneA
import Derived.Test.YtkpbampffndjoaaCOneB
import Derived.Test.YtkpbampffndjoaaCOneC
import Derived.Test.YtkpbampffndjoaaCOneD
namespace Go.Proofs.Ytkpbampffndjoaa
open Go.RowKit

set_option maxRecDepth 100000 in
theorem one_any {w : World} {a : Option Addr} {len cap : Nat} {ps : List Ins} (hp : IsIns w a len cap ps) (hwf : Wf ps) (hl48 : len ≤ 48) (S : Sh ps) {i : Nat} (hi : i < len) :
    Calls Try.prog 14 #[.slice a len cap, .int .i64 i] w fun e w' => e = .returned (.bool (oneB ps i)) ∧ Below w.heap.size w w' := by
  by_cases hf : fitsB ps[i]! = true
  · by_cases h3 : ps[i]!.op = 3
    · exact one_3 hp hwf hl48 S hi hf h3
    by_cases h0 : ps[i]!.op = 0
    · exact one_0 hp hwf hl48 S hi hf h0
    by_cases h4 : ps[i]!.op = 4
    · exact one_4 hp hwf hl48 S hi hf h4
    by_cases h12 : ps[i]!.op = 12
    · exact one_12 hp hwf hl48 S hi hf h12
    by_cases h14 : ps[i]!.op = 14
    · exact one_14 hp hwf hl48 S hi hf h14
    by_cases h19 : ps[i]!.op = 19
    · exact one_19 hp hwf hl48 S hi hf h19
    by_cases h21 : ps[i]!.op = 21
    · exact one_21 hp hwf hl48 S hi hf h21
    by_cases h5 : ps[i]!.op = 5
    · exact one_5 hp hwf hl48 S hi hf h5
    by_cases h20 : ps[i]!.op = 20
    · exact one_20 hp hwf hl48 S hi hf h20
    by_cases hg : ps[i]!.op > 4
    · exact one_high hp hwf hl48 S hi hf (by omega) hg
    · exact one_low hp hwf hl48 S hi hf (by omega) hg
  · exact one_nofit hp hwf hl48 S hi hf

end Go.Proofs.Ytkpbampffndjoaa
