/-
  No cell of these rows narrows 'for every input' (looked for: loops, veiled, ifaces, maps, wideKeys, modest, calm, conditions, laid).
  DERIVED. THE GIVEN ROWS OF THIS SEAT. 6 by the template 'for every input the law returns true; each argument reads behind the call as it read before'; 0 by the template 'total and deterministic' (their statements: YtjenalblcdmpaaaTotals.lean).
  GIVEN WITH THE SEED: the statements are not yours to turn. If you find one false, say at which input.
  Laid BY PROGRAM, IN A SANDBOX (cutbox-rows.mjs): the forced cells as the released guide's own fill.sh prints them over the translation ac026ccd1e63b21d… (all of the seat's roots in one cut). By AI agents, Wed Nov 11 2026. No macro, syntax, notation, axiom, sorry.
-/
import Derived.Test.YtjenalblcdmpaaaChecked
import GoSem.Claim
import GoSem.ClaimJoined
import GoSem.ClaimMapViews
import Derived.JoinedTies
import Derived.KernelRfl
namespace Go.Proofs.Ytjenalblcdmpaaa
/- THE CELL 'sum', in the pinned program and in every row, IS THE sha256 OF THE DUMP (.gsa) THAT YtjenalblcdmpaaaProg.lean LOADS. Nothing in Lean hashes anything: it is a label: what it is worth is what the hold of that sum in a sandbox is worth. -/
noncomputable def Try.pinned : Pinned := { name := "ytjenalblcdmpaaa", sum := "ac026ccd1e63b21d372508aaa44c169c9a46cff183bd30177b8928ef23ae20ac", checked := Try.checked }
namespace Rows
def none {H : Type} : Left H := { results := [], args := [] }

/-- 'countermandlaw01.StylusWrites': WHATEVER THE INPUT: true; the input reads as it did. -/
def stylusWritesSpec : ChangeSpec := { name := "stylusWrites", fn := fun _ => fun
  | [d] => { results := [.lit (.bool true)], args := [d] }
  | _ => none }
def stylusWritesRow : OpenClaim := { program := "ytjenalblcdmpaaa", sum := "ac026ccd1e63b21d372508aaa44c169c9a46cff183bd30177b8928ef23ae20ac", func := "countermand/countermandlaw01.StylusWrites", spec := "stylusWrites", apart := false }
def StylusWritesSaid : Prop := stylusWritesRow.holds Try.pinned (OpenSpec.ofChange stylusWritesSpec)

/-- ITS FALSE NEIGHBOUR: 'it returns false'. Refute it at one input. -/
def stylusWritesWrong : ChangeSpec := { name := "stylusWrites", fn := fun _ => fun
  | [d] => { results := [.lit (.bool false)], args := [d] }
  | _ => none }
def StylusWritesWrongFalsely : Prop := stylusWritesRow.holds Try.pinned (OpenSpec.ofChange stylusWritesWrong)

/-- 'countermandlaw01.StylusReturns': WHATEVER THE INPUT: true; the input reads as it did. -/
def stylusReturnsSpec : ChangeSpec := { name := "stylusReturns", fn := fun _ => fun
  | [d] => { results := [.lit (.bool true)], args := [d] }
  | _ => none }
def stylusReturnsRow : OpenClaim := { program := "ytjenalblcdmpaaa", sum := "ac026ccd1e63b21d372508aaa44c169c9a46cff183bd30177b8928ef23ae20ac", func := "countermand/countermandlaw01.StylusReturns", spec := "stylusReturns", apart := false }
def StylusReturnsSaid : Prop := stylusReturnsRow.holds Try.pinned (OpenSpec.ofChange stylusReturnsSpec)

/-- ITS FALSE NEIGHBOUR: 'it returns false'. Refute it at one input. -/
def stylusReturnsWrong : ChangeSpec := { name := "stylusReturns", fn := fun _ => fun
  | [d] => { results := [.lit (.bool false)], args := [d] }
  | _ => none }
def StylusReturnsWrongFalsely : Prop := stylusReturnsRow.holds Try.pinned (OpenSpec.ofChange stylusReturnsWrong)

/-- 'countermandlaw01.StylusReads': WHATEVER THE INPUT: true; the input reads as it did. -/
def stylusReadsSpec : ChangeSpec := { name := "stylusReads", fn := fun _ => fun
  | [d1, d2] => { results := [.lit (.bool true)], args := [d1, d2] }
  | _ => none }
def stylusReadsRow : OpenClaim := { program := "ytjenalblcdmpaaa", sum := "ac026ccd1e63b21d372508aaa44c169c9a46cff183bd30177b8928ef23ae20ac", func := "countermand/countermandlaw01.StylusReads", spec := "stylusReads", apart := false }
def StylusReadsSaid : Prop := stylusReadsRow.holds Try.pinned (OpenSpec.ofChange stylusReadsSpec)

/-- ITS FALSE NEIGHBOUR: 'it returns false'. Refute it at one input. -/
def stylusReadsWrong : ChangeSpec := { name := "stylusReads", fn := fun _ => fun
  | [d1, d2] => { results := [.lit (.bool false)], args := [d1, d2] }
  | _ => none }
def StylusReadsWrongFalsely : Prop := stylusReadsRow.holds Try.pinned (OpenSpec.ofChange stylusReadsWrong)

/-- 'countermandlaw01.StylusNumbers': WHATEVER THE INPUT: true; the input reads as it did. -/
def stylusNumbersSpec : ChangeSpec := { name := "stylusNumbers", fn := fun _ => fun
  | [d1, d2, d3, d4] => { results := [.lit (.bool true)], args := [d1, d2, d3, d4] }
  | _ => none }
def stylusNumbersRow : OpenClaim := { program := "ytjenalblcdmpaaa", sum := "ac026ccd1e63b21d372508aaa44c169c9a46cff183bd30177b8928ef23ae20ac", func := "countermand/countermandlaw01.StylusNumbers", spec := "stylusNumbers", apart := false }
def StylusNumbersSaid : Prop := stylusNumbersRow.holds Try.pinned (OpenSpec.ofChange stylusNumbersSpec)

/-- ITS FALSE NEIGHBOUR: 'it returns false'. Refute it at one input. -/
def stylusNumbersWrong : ChangeSpec := { name := "stylusNumbers", fn := fun _ => fun
  | [d1, d2, d3, d4] => { results := [.lit (.bool false)], args := [d1, d2, d3, d4] }
  | _ => none }
def StylusNumbersWrongFalsely : Prop := stylusNumbersRow.holds Try.pinned (OpenSpec.ofChange stylusNumbersWrong)

/-- 'countermandlaw01.StylusParts': WHATEVER THE INPUT: true; the input reads as it did. -/
def stylusPartsSpec : ChangeSpec := { name := "stylusParts", fn := fun _ => fun
  | [d1, d2] => { results := [.lit (.bool true)], args := [d1, d2] }
  | _ => none }
def stylusPartsRow : OpenClaim := { program := "ytjenalblcdmpaaa", sum := "ac026ccd1e63b21d372508aaa44c169c9a46cff183bd30177b8928ef23ae20ac", func := "countermand/countermandlaw01.StylusParts", spec := "stylusParts", apart := false }
def StylusPartsSaid : Prop := stylusPartsRow.holds Try.pinned (OpenSpec.ofChange stylusPartsSpec)

/-- ITS FALSE NEIGHBOUR: 'it returns false'. Refute it at one input. -/
def stylusPartsWrong : ChangeSpec := { name := "stylusParts", fn := fun _ => fun
  | [d1, d2] => { results := [.lit (.bool false)], args := [d1, d2] }
  | _ => none }
def StylusPartsWrongFalsely : Prop := stylusPartsRow.holds Try.pinned (OpenSpec.ofChange stylusPartsWrong)

/-- 'countermandlaw01.StylusTexts': WHATEVER THE INPUT: true; the input reads as it did. -/
def stylusTextsSpec : ChangeSpec := { name := "stylusTexts", fn := fun _ => fun
  | [d1, d2] => { results := [.lit (.bool true)], args := [d1, d2] }
  | _ => none }
def stylusTextsRow : OpenClaim := { program := "ytjenalblcdmpaaa", sum := "ac026ccd1e63b21d372508aaa44c169c9a46cff183bd30177b8928ef23ae20ac", func := "countermand/countermandlaw01.StylusTexts", spec := "stylusTexts", apart := false }
def StylusTextsSaid : Prop := stylusTextsRow.holds Try.pinned (OpenSpec.ofChange stylusTextsSpec)

/-- ITS FALSE NEIGHBOUR: 'it returns false'. Refute it at one input. -/
def stylusTextsWrong : ChangeSpec := { name := "stylusTexts", fn := fun _ => fun
  | [d1, d2] => { results := [.lit (.bool false)], args := [d1, d2] }
  | _ => none }
def StylusTextsWrongFalsely : Prop := stylusTextsRow.holds Try.pinned (OpenSpec.ofChange stylusTextsWrong)

/- THE SECOND FORM. 'bulk': how many values and letters a reading holds, each counted each time it is reached (what is shared counts as often as it is met; a slice's spare places count too). A statement '..UptoSaid' is the law's where the arguments, and the package variables that the reading takes, are together of bulk at most 1048576: NARROWER than '..Said'. Prove '..Said' where nothing that the law and all that it calls make is longer than what came in: it says more and counts as full. Else prove '..UptoSaid'. A law counts once. -/
mutual
def uptoBulk {H : Type} : DataW H → Nat
  | .lit (.string bytes) => bytes.length + 1
  | .lit _ => 1
  | .nil => 1
  | .ptr d => uptoBulk d + 1
  | .slice elems spare => uptoBulkAll elems + uptoBulkAll spare + 1
  | .agg parts => uptoBulkAll parts + 1
  | .iface _ d => uptoBulk d + 1
  | .map entries => uptoBulkEntries entries + 1
  | .held _ => 1
def uptoBulkAll {H : Type} : List (DataW H) → Nat
  | [] => 0
  | d :: r => uptoBulk d + uptoBulkAll r
def uptoBulkEntries {H : Type} : List (Lit × DataW H) → Nat
  | [] => 0
  | x :: r => uptoBulkEntry x + uptoBulkEntries r
def uptoBulkEntry {H : Type} : Lit × DataW H → Nat
  | (.string bytes, d) => bytes.length + uptoBulk d + 1
  | (_, d) => uptoBulk d + 1
 end
def uptoSmall : (H : Type) → List (DataW H) → Bool := fun _ ds => decide (uptoBulkAll ds ≤ 1048576)
def OpenSpec.upto (s : _root_.Go.ChangeSpec) : _root_.Go.OpenSpec := { _root_.Go.OpenSpec.ofChange s with cond := some uptoSmall }

/-- 'countermandlaw01.StylusWrites', WHERE WHAT IT READS IS OF BULK AT MOST 1048576: true; the input reads as it did. -/
def stylusWritesUptoRow : OpenClaim := { program := "ytjenalblcdmpaaa", sum := "ac026ccd1e63b21d372508aaa44c169c9a46cff183bd30177b8928ef23ae20ac", func := "countermand/countermandlaw01.StylusWrites", spec := "stylusWrites", apart := false, narrowed := true }
def StylusWritesUptoSaid : Prop := stylusWritesUptoRow.holds Try.pinned (OpenSpec.upto stylusWritesSpec)

/-- 'countermandlaw01.StylusReturns', WHERE WHAT IT READS IS OF BULK AT MOST 1048576: true; the input reads as it did. -/
def stylusReturnsUptoRow : OpenClaim := { program := "ytjenalblcdmpaaa", sum := "ac026ccd1e63b21d372508aaa44c169c9a46cff183bd30177b8928ef23ae20ac", func := "countermand/countermandlaw01.StylusReturns", spec := "stylusReturns", apart := false, narrowed := true }
def StylusReturnsUptoSaid : Prop := stylusReturnsUptoRow.holds Try.pinned (OpenSpec.upto stylusReturnsSpec)

/-- 'countermandlaw01.StylusReads', WHERE WHAT IT READS IS OF BULK AT MOST 1048576: true; the input reads as it did. -/
def stylusReadsUptoRow : OpenClaim := { program := "ytjenalblcdmpaaa", sum := "ac026ccd1e63b21d372508aaa44c169c9a46cff183bd30177b8928ef23ae20ac", func := "countermand/countermandlaw01.StylusReads", spec := "stylusReads", apart := false, narrowed := true }
def StylusReadsUptoSaid : Prop := stylusReadsUptoRow.holds Try.pinned (OpenSpec.upto stylusReadsSpec)

/-- 'countermandlaw01.StylusNumbers', WHERE WHAT IT READS IS OF BULK AT MOST 1048576: true; the input reads as it did. -/
def stylusNumbersUptoRow : OpenClaim := { program := "ytjenalblcdmpaaa", sum := "ac026ccd1e63b21d372508aaa44c169c9a46cff183bd30177b8928ef23ae20ac", func := "countermand/countermandlaw01.StylusNumbers", spec := "stylusNumbers", apart := false, narrowed := true }
def StylusNumbersUptoSaid : Prop := stylusNumbersUptoRow.holds Try.pinned (OpenSpec.upto stylusNumbersSpec)

/-- 'countermandlaw01.StylusParts', WHERE WHAT IT READS IS OF BULK AT MOST 1048576: true; the input reads as it did. -/
def stylusPartsUptoRow : OpenClaim := { program := "ytjenalblcdmpaaa", sum := "ac026ccd1e63b21d372508aaa44c169c9a46cff183bd30177b8928ef23ae20ac", func := "countermand/countermandlaw01.StylusParts", spec := "stylusParts", apart := false, narrowed := true }
def StylusPartsUptoSaid : Prop := stylusPartsUptoRow.holds Try.pinned (OpenSpec.upto stylusPartsSpec)

/-- 'countermandlaw01.StylusTexts', WHERE WHAT IT READS IS OF BULK AT MOST 1048576: true; the input reads as it did. -/
def stylusTextsUptoRow : OpenClaim := { program := "ytjenalblcdmpaaa", sum := "ac026ccd1e63b21d372508aaa44c169c9a46cff183bd30177b8928ef23ae20ac", func := "countermand/countermandlaw01.StylusTexts", spec := "stylusTexts", apart := false, narrowed := true }
def StylusTextsUptoSaid : Prop := stylusTextsUptoRow.holds Try.pinned (OpenSpec.upto stylusTextsSpec)

end Rows
end Go.Proofs.Ytjenalblcdmpaaa
