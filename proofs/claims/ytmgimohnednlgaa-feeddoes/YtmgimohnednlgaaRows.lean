/-
  No cell of these rows narrows 'for every input' (looked for: loops, veiled, ifaces, maps, wideKeys, modest, calm, conditions, laid).
  DERIVED. THE GIVEN ROWS OF THIS SEAT. 3 by the template 'for every input the law returns true; each argument reads behind the call as it read before'; 0 by the template 'total and deterministic' (their statements: YtmgimohnednlgaaTotals.lean).
  GIVEN WITH THE SEED: the statements are not yours to turn. If you find one false, say at which input.
  Laid BY PROGRAM, IN A SANDBOX (cutbox-rows.mjs): the forced cells as the released guide's own fill.sh prints them over the translation a825ec91559b6e6e… (all of the seat's roots in one cut). By AI agents, Wed Nov 11 2026. No macro, syntax, notation, axiom, sorry.
-/
import Derived.Test.YtmgimohnednlgaaChecked
import GoSem.Claim
import GoSem.ClaimJoined
import GoSem.ClaimMapViews
import Derived.JoinedTies
import Derived.KernelRfl
namespace Go.Proofs.Ytmgimohnednlgaa
/- THE CELL 'sum', in the pinned program and in every row, IS THE sha256 OF THE DUMP (.gsa) THAT YtmgimohnednlgaaProg.lean LOADS. Nothing in Lean hashes anything: it is a label: what it is worth is what the hold of that sum in a sandbox is worth. -/
noncomputable def Try.pinned : Pinned := { name := "ytmgimohnednlgaa", sum := "a825ec91559b6e6e5661d9255e90f32c7056d2c92a31b627198f4e84f3b03a6d", checked := Try.checked }
namespace Rows
def none {H : Type} : Left H := { results := [], args := [] }

/-- 'countermandlaw11.FeedDoes': WHATEVER THE INPUT: true; the input reads as it did. -/
def feedDoesSpec : ChangeSpec := { name := "feedDoes", fn := fun _ => fun
  | [d1, d2] => { results := [.lit (.bool true)], args := [d1, d2] }
  | _ => none }
def feedDoesRow : OpenClaim := { program := "ytmgimohnednlgaa", sum := "a825ec91559b6e6e5661d9255e90f32c7056d2c92a31b627198f4e84f3b03a6d", func := "countermand/countermandlaw11.FeedDoes", spec := "feedDoes", apart := false }
def FeedDoesSaid : Prop := feedDoesRow.holds Try.pinned (OpenSpec.ofChange feedDoesSpec)

/-- ITS FALSE NEIGHBOUR: 'it returns false'. Refute it at one input. -/
def feedDoesWrong : ChangeSpec := { name := "feedDoes", fn := fun _ => fun
  | [d1, d2] => { results := [.lit (.bool false)], args := [d1, d2] }
  | _ => none }
def FeedDoesWrongFalsely : Prop := feedDoesRow.holds Try.pinned (OpenSpec.ofChange feedDoesWrong)

/-- 'countermandlaw11.FeedStays': WHATEVER THE INPUT: true; the input reads as it did. -/
def feedStaysSpec : ChangeSpec := { name := "feedStays", fn := fun _ => fun
  | [d1, d2] => { results := [.lit (.bool true)], args := [d1, d2] }
  | _ => none }
def feedStaysRow : OpenClaim := { program := "ytmgimohnednlgaa", sum := "a825ec91559b6e6e5661d9255e90f32c7056d2c92a31b627198f4e84f3b03a6d", func := "countermand/countermandlaw11.FeedStays", spec := "feedStays", apart := false }
def FeedStaysSaid : Prop := feedStaysRow.holds Try.pinned (OpenSpec.ofChange feedStaysSpec)

/-- ITS FALSE NEIGHBOUR: 'it returns false'. Refute it at one input. -/
def feedStaysWrong : ChangeSpec := { name := "feedStays", fn := fun _ => fun
  | [d1, d2] => { results := [.lit (.bool false)], args := [d1, d2] }
  | _ => none }
def FeedStaysWrongFalsely : Prop := feedStaysRow.holds Try.pinned (OpenSpec.ofChange feedStaysWrong)

/-- 'countermandlaw11.FeedParts': WHATEVER THE INPUT: true; the input reads as it did. -/
def feedPartsSpec : ChangeSpec := { name := "feedParts", fn := fun _ => fun
  | [d1, d2, d3] => { results := [.lit (.bool true)], args := [d1, d2, d3] }
  | _ => none }
def feedPartsRow : OpenClaim := { program := "ytmgimohnednlgaa", sum := "a825ec91559b6e6e5661d9255e90f32c7056d2c92a31b627198f4e84f3b03a6d", func := "countermand/countermandlaw11.FeedParts", spec := "feedParts", apart := false }
def FeedPartsSaid : Prop := feedPartsRow.holds Try.pinned (OpenSpec.ofChange feedPartsSpec)

/-- ITS FALSE NEIGHBOUR: 'it returns false'. Refute it at one input. -/
def feedPartsWrong : ChangeSpec := { name := "feedParts", fn := fun _ => fun
  | [d1, d2, d3] => { results := [.lit (.bool false)], args := [d1, d2, d3] }
  | _ => none }
def FeedPartsWrongFalsely : Prop := feedPartsRow.holds Try.pinned (OpenSpec.ofChange feedPartsWrong)

/- THE SECOND FORM. 'bulk': how many values and letters a reading holds, each counted each time it is reached (what is shared counts as often as it is met; a slice's spare places count too). A statement '..UptoSaid' is the law's where the arguments, and the package variables that the reading takes, are together of bulk at most 1048576: NARROWER than '..Said'. Prove '..Said' where nothing that the law and all that it calls make is longer than what came in: it says more and counts as full. Else prove '..UptoSaid'. A law counts once. -/
mutual
def uptoBulk {H : Type} : DataW H → Nat
  | .lit (.string bytes) => bytes.length + 1
  | .lit _ => 1
  | .nil => 1
  | .ptr d => uptoBulk d + 1
  | .slice elems spare => uptoBulkAll elems + uptoBulkAll spare + 1
  | .agg parts => uptoBulkAll parts + 1
  | .iface _ d => uptoBulk d + 1
  | .map entries => uptoBulkEntries entries + 1
  | .held _ => 1
def uptoBulkAll {H : Type} : List (DataW H) → Nat
  | [] => 0
  | d :: r => uptoBulk d + uptoBulkAll r
def uptoBulkEntries {H : Type} : List (Lit × DataW H) → Nat
  | [] => 0
  | x :: r => uptoBulkEntry x + uptoBulkEntries r
def uptoBulkEntry {H : Type} : Lit × DataW H → Nat
  | (.string bytes, d) => bytes.length + uptoBulk d + 1
  | (_, d) => uptoBulk d + 1
 end
def uptoSmall : (H : Type) → List (DataW H) → Bool := fun _ ds => decide (uptoBulkAll ds ≤ 1048576)
def OpenSpec.upto (s : _root_.Go.ChangeSpec) : _root_.Go.OpenSpec := { _root_.Go.OpenSpec.ofChange s with cond := some uptoSmall }

/-- 'countermandlaw11.FeedDoes', WHERE WHAT IT READS IS OF BULK AT MOST 1048576: true; the input reads as it did. -/
def feedDoesUptoRow : OpenClaim := { program := "ytmgimohnednlgaa", sum := "a825ec91559b6e6e5661d9255e90f32c7056d2c92a31b627198f4e84f3b03a6d", func := "countermand/countermandlaw11.FeedDoes", spec := "feedDoes", apart := false, narrowed := true }
def FeedDoesUptoSaid : Prop := feedDoesUptoRow.holds Try.pinned (OpenSpec.upto feedDoesSpec)

/-- 'countermandlaw11.FeedStays', WHERE WHAT IT READS IS OF BULK AT MOST 1048576: true; the input reads as it did. -/
def feedStaysUptoRow : OpenClaim := { program := "ytmgimohnednlgaa", sum := "a825ec91559b6e6e5661d9255e90f32c7056d2c92a31b627198f4e84f3b03a6d", func := "countermand/countermandlaw11.FeedStays", spec := "feedStays", apart := false, narrowed := true }
def FeedStaysUptoSaid : Prop := feedStaysUptoRow.holds Try.pinned (OpenSpec.upto feedStaysSpec)

/-- 'countermandlaw11.FeedParts', WHERE WHAT IT READS IS OF BULK AT MOST 1048576: true; the input reads as it did. -/
def feedPartsUptoRow : OpenClaim := { program := "ytmgimohnednlgaa", sum := "a825ec91559b6e6e5661d9255e90f32c7056d2c92a31b627198f4e84f3b03a6d", func := "countermand/countermandlaw11.FeedParts", spec := "feedParts", apart := false, narrowed := true }
def FeedPartsUptoSaid : Prop := feedPartsUptoRow.holds Try.pinned (OpenSpec.upto feedPartsSpec)

end Rows
end Go.Proofs.Ytmgimohnednlgaa
