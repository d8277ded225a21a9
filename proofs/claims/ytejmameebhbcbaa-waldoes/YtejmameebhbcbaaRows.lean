/-
  No cell of these rows narrows 'for every input' (looked for: loops, veiled, ifaces, maps, wideKeys, modest, calm, conditions, laid).
  DERIVED. THE GIVEN ROWS OF THIS SEAT. 5 by the template 'for every input the law returns true; each argument reads behind the call as it read before'; 0 by the template 'total and deterministic' (their statements: YtejmameebhbcbaaTotals.lean).
  GIVEN WITH THE SEED: the statements are not yours to turn. If you find one false, say at which input.
  Laid BY PROGRAM, IN A SANDBOX (cutbox-rows.mjs): the forced cells as the released guide's own fill.sh prints them over the translation a2066639d2523679… (all of the seat's roots in one cut). By AI agents, Wed Nov 11 2026. No macro, syntax, notation, axiom, sorry.
-/
import Derived.Test.YtejmameebhbcbaaChecked
import GoSem.Claim
import GoSem.ClaimJoined
import GoSem.ClaimMapViews
import Derived.JoinedTies
import Derived.KernelRfl
namespace Go.Proofs.Ytejmameebhbcbaa
/- THE CELL 'sum', in the pinned program and in every row, IS THE sha256 OF THE DUMP (.gsa) THAT YtejmameebhbcbaaProg.lean LOADS. Nothing in Lean hashes anything: it is a label: what it is worth is what the hold of that sum in a sandbox is worth. -/
noncomputable def Try.pinned : Pinned := { name := "ytejmameebhbcbaa", sum := "a2066639d25236798f04ed38d2c7ba6cbe214e4df788599339982c4662f111cc", checked := Try.checked }
namespace Rows
def none {H : Type} : Left H := { results := [], args := [] }

/-- 'countermandlaw04.WalDoes': WHATEVER THE INPUT: true; the input reads as it did. -/
def walDoesSpec : ChangeSpec := { name := "walDoes", fn := fun _ => fun
  | [d1, d2] => { results := [.lit (.bool true)], args := [d1, d2] }
  | _ => none }
def walDoesRow : OpenClaim := { program := "ytejmameebhbcbaa", sum := "a2066639d25236798f04ed38d2c7ba6cbe214e4df788599339982c4662f111cc", func := "countermand/countermandlaw04.WalDoes", spec := "walDoes", unfollowed := true, recurses := true, apart := false }
def WalDoesSaid : Prop := walDoesRow.holds Try.pinned (OpenSpec.ofChange walDoesSpec)

/-- ITS FALSE NEIGHBOUR: 'it returns false'. Refute it at one input. -/
def walDoesWrong : ChangeSpec := { name := "walDoes", fn := fun _ => fun
  | [d1, d2] => { results := [.lit (.bool false)], args := [d1, d2] }
  | _ => none }
def WalDoesWrongFalsely : Prop := walDoesRow.holds Try.pinned (OpenSpec.ofChange walDoesWrong)

/-- 'countermandlaw04.WalLasts': WHATEVER THE INPUT: true; the input reads as it did. -/
def walLastsSpec : ChangeSpec := { name := "walLasts", fn := fun _ => fun
  | [d1, d2, d3, d4] => { results := [.lit (.bool true)], args := [d1, d2, d3, d4] }
  | _ => none }
def walLastsRow : OpenClaim := { program := "ytejmameebhbcbaa", sum := "a2066639d25236798f04ed38d2c7ba6cbe214e4df788599339982c4662f111cc", func := "countermand/countermandlaw04.WalLasts", spec := "walLasts", unfollowed := true, recurses := true, apart := false }
def WalLastsSaid : Prop := walLastsRow.holds Try.pinned (OpenSpec.ofChange walLastsSpec)

/-- ITS FALSE NEIGHBOUR: 'it returns false'. Refute it at one input. -/
def walLastsWrong : ChangeSpec := { name := "walLasts", fn := fun _ => fun
  | [d1, d2, d3, d4] => { results := [.lit (.bool false)], args := [d1, d2, d3, d4] }
  | _ => none }
def WalLastsWrongFalsely : Prop := walLastsRow.holds Try.pinned (OpenSpec.ofChange walLastsWrong)

/-- 'countermandlaw04.WalStops': WHATEVER THE INPUT: true; the input reads as it did. -/
def walStopsSpec : ChangeSpec := { name := "walStops", fn := fun _ => fun
  | [d1, d2] => { results := [.lit (.bool true)], args := [d1, d2] }
  | _ => none }
def walStopsRow : OpenClaim := { program := "ytejmameebhbcbaa", sum := "a2066639d25236798f04ed38d2c7ba6cbe214e4df788599339982c4662f111cc", func := "countermand/countermandlaw04.WalStops", spec := "walStops", unfollowed := true, recurses := true, apart := false }
def WalStopsSaid : Prop := walStopsRow.holds Try.pinned (OpenSpec.ofChange walStopsSpec)

/-- ITS FALSE NEIGHBOUR: 'it returns false'. Refute it at one input. -/
def walStopsWrong : ChangeSpec := { name := "walStops", fn := fun _ => fun
  | [d1, d2] => { results := [.lit (.bool false)], args := [d1, d2] }
  | _ => none }
def WalStopsWrongFalsely : Prop := walStopsRow.holds Try.pinned (OpenSpec.ofChange walStopsWrong)

/-- 'countermandlaw04.WalOther': WHATEVER THE INPUT: true; the input reads as it did. -/
def walOtherSpec : ChangeSpec := { name := "walOther", fn := fun _ => fun
  | [d1, d2] => { results := [.lit (.bool true)], args := [d1, d2] }
  | _ => none }
def walOtherRow : OpenClaim := { program := "ytejmameebhbcbaa", sum := "a2066639d25236798f04ed38d2c7ba6cbe214e4df788599339982c4662f111cc", func := "countermand/countermandlaw04.WalOther", spec := "walOther", unfollowed := true, recurses := true, apart := false }
def WalOtherSaid : Prop := walOtherRow.holds Try.pinned (OpenSpec.ofChange walOtherSpec)

/-- ITS FALSE NEIGHBOUR: 'it returns false'. Refute it at one input. -/
def walOtherWrong : ChangeSpec := { name := "walOther", fn := fun _ => fun
  | [d1, d2] => { results := [.lit (.bool false)], args := [d1, d2] }
  | _ => none }
def WalOtherWrongFalsely : Prop := walOtherRow.holds Try.pinned (OpenSpec.ofChange walOtherWrong)

/-- 'countermandlaw04.WalClears': WHATEVER THE INPUT: true; the input reads as it did. -/
def walClearsSpec : ChangeSpec := { name := "walClears", fn := fun _ => fun
  | [d1, d2] => { results := [.lit (.bool true)], args := [d1, d2] }
  | _ => none }
def walClearsRow : OpenClaim := { program := "ytejmameebhbcbaa", sum := "a2066639d25236798f04ed38d2c7ba6cbe214e4df788599339982c4662f111cc", func := "countermand/countermandlaw04.WalClears", spec := "walClears", unfollowed := true, recurses := true, apart := false }
def WalClearsSaid : Prop := walClearsRow.holds Try.pinned (OpenSpec.ofChange walClearsSpec)

/-- ITS FALSE NEIGHBOUR: 'it returns false'. Refute it at one input. -/
def walClearsWrong : ChangeSpec := { name := "walClears", fn := fun _ => fun
  | [d1, d2] => { results := [.lit (.bool false)], args := [d1, d2] }
  | _ => none }
def WalClearsWrongFalsely : Prop := walClearsRow.holds Try.pinned (OpenSpec.ofChange walClearsWrong)

/- THE SECOND FORM. 'bulk': how many values and letters a reading holds, each counted each time it is reached (what is shared counts as often as it is met; a slice's spare places count too). A statement '..UptoSaid' is the law's where the arguments, and the package variables that the reading takes, are together of bulk at most 1048576: NARROWER than '..Said'. Prove '..Said' where nothing that the law and all that it calls make is longer than what came in: it says more and counts as full. Else prove '..UptoSaid'. A law counts once. -/
mutual
def uptoBulk {H : Type} : DataW H → Nat
  | .lit (.string bytes) => bytes.length + 1
  | .lit _ => 1
  | .nil => 1
  | .ptr d => uptoBulk d + 1
  | .slice elems spare => uptoBulkAll elems + uptoBulkAll spare + 1
  | .agg parts => uptoBulkAll parts + 1
  | .iface _ d => uptoBulk d + 1
  | .map entries => uptoBulkEntries entries + 1
  | .held _ => 1
def uptoBulkAll {H : Type} : List (DataW H) → Nat
  | [] => 0
  | d :: r => uptoBulk d + uptoBulkAll r
def uptoBulkEntries {H : Type} : List (Lit × DataW H) → Nat
  | [] => 0
  | x :: r => uptoBulkEntry x + uptoBulkEntries r
def uptoBulkEntry {H : Type} : Lit × DataW H → Nat
  | (.string bytes, d) => bytes.length + uptoBulk d + 1
  | (_, d) => uptoBulk d + 1
 end
def uptoSmall : (H : Type) → List (DataW H) → Bool := fun _ ds => decide (uptoBulkAll ds ≤ 1048576)
def OpenSpec.upto (s : _root_.Go.ChangeSpec) : _root_.Go.OpenSpec := { _root_.Go.OpenSpec.ofChange s with cond := some uptoSmall }

/-- 'countermandlaw04.WalDoes', WHERE WHAT IT READS IS OF BULK AT MOST 1048576: true; the input reads as it did. -/
def walDoesUptoRow : OpenClaim := { program := "ytejmameebhbcbaa", sum := "a2066639d25236798f04ed38d2c7ba6cbe214e4df788599339982c4662f111cc", func := "countermand/countermandlaw04.WalDoes", spec := "walDoes", unfollowed := true, recurses := true, apart := false, narrowed := true }
def WalDoesUptoSaid : Prop := walDoesUptoRow.holds Try.pinned (OpenSpec.upto walDoesSpec)

/-- 'countermandlaw04.WalLasts', WHERE WHAT IT READS IS OF BULK AT MOST 1048576: true; the input reads as it did. -/
def walLastsUptoRow : OpenClaim := { program := "ytejmameebhbcbaa", sum := "a2066639d25236798f04ed38d2c7ba6cbe214e4df788599339982c4662f111cc", func := "countermand/countermandlaw04.WalLasts", spec := "walLasts", unfollowed := true, recurses := true, apart := false, narrowed := true }
def WalLastsUptoSaid : Prop := walLastsUptoRow.holds Try.pinned (OpenSpec.upto walLastsSpec)

/-- 'countermandlaw04.WalStops', WHERE WHAT IT READS IS OF BULK AT MOST 1048576: true; the input reads as it did. -/
def walStopsUptoRow : OpenClaim := { program := "ytejmameebhbcbaa", sum := "a2066639d25236798f04ed38d2c7ba6cbe214e4df788599339982c4662f111cc", func := "countermand/countermandlaw04.WalStops", spec := "walStops", unfollowed := true, recurses := true, apart := false, narrowed := true }
def WalStopsUptoSaid : Prop := walStopsUptoRow.holds Try.pinned (OpenSpec.upto walStopsSpec)

/-- 'countermandlaw04.WalOther', WHERE WHAT IT READS IS OF BULK AT MOST 1048576: true; the input reads as it did. -/
def walOtherUptoRow : OpenClaim := { program := "ytejmameebhbcbaa", sum := "a2066639d25236798f04ed38d2c7ba6cbe214e4df788599339982c4662f111cc", func := "countermand/countermandlaw04.WalOther", spec := "walOther", unfollowed := true, recurses := true, apart := false, narrowed := true }
def WalOtherUptoSaid : Prop := walOtherUptoRow.holds Try.pinned (OpenSpec.upto walOtherSpec)

/-- 'countermandlaw04.WalClears', WHERE WHAT IT READS IS OF BULK AT MOST 1048576: true; the input reads as it did. -/
def walClearsUptoRow : OpenClaim := { program := "ytejmameebhbcbaa", sum := "a2066639d25236798f04ed38d2c7ba6cbe214e4df788599339982c4662f111cc", func := "countermand/countermandlaw04.WalClears", spec := "walClears", unfollowed := true, recurses := true, apart := false, narrowed := true }
def WalClearsUptoSaid : Prop := walClearsUptoRow.holds Try.pinned (OpenSpec.upto walClearsSpec)

end Rows
end Go.Proofs.Ytejmameebhbcbaa
