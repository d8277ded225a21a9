/-
  The walk of the law's own 'does': every call.
-/
import Derived.Test.YtejmameebhbcbaaLDoesB
import Derived.Test.YtejmameebhbcbaaLDoesC
namespace Go.Proofs.Ytejmameebhbcbaa
open Go.RowKit

theorem does_any {w wr : World} {bb b lb m rl : Nat} {v vm : Value} {o tn : Bool} {dn ws : List Ch} (c : Cl) (h : Two w wr bb b lb m rl v vm o tn dn ws tn dn ws) (hlen : (dn ++ ws).length ≤ 1000) (hsz : c.s.size ≤ 8192) :
    Calls Try.prog 21 #[.pointer (some ⟨bb, 0, none⟩), .agg #[.int .i64 c.kind, .string c.s, .int .i64 c.keep, .int .i64 c.part]] wr fun e w' => e = .returned (.bool true) ∧ Alike w bb b m o ((dn ++ ws).length + 1) w' := by
  by_cases q6 : c.kind < 0
  · exact does_6 c h hlen hsz q6
  by_cases q5 : 4 < c.kind
  · exact does_5 c h hlen hsz q5
  have hq : c.kind = 0 ∨ c.kind = 1 ∨ c.kind = 2 ∨ c.kind = 3 ∨ c.kind = 4 := by omega
  rcases hq with e | e | e | e | e
  · exact does_0 c h hlen hsz e
  · exact does_1 c h hlen hsz e
  · exact does_2 c h hlen hsz e
  · exact does_3 c h hlen hsz e
  · exact does_4 c h hlen hsz e

end Go.Proofs.Ytejmameebhbcbaa
