/-
  No cell of these rows narrows 'for every input' (looked for: loops, veiled, ifaces, maps, wideKeys, modest, calm, conditions, laid).
  DERIVED. THE GIVEN ROWS OF THIS SEAT. 4 by the template 'for every input the law returns true; each argument reads behind the call as it read before'; 0 by the template 'total and deterministic' (their statements: YtdngehfebmaegaaTotals.lean).
  GIVEN WITH THE SEED: the statements are not yours to turn. If you find one false, say at which input.
  Laid BY PROGRAM, IN A SANDBOX (cutbox-rows.mjs): the forced cells as the released guide's own fill.sh prints them over the translation dbdaa09cb6afc7b4… (all of the seat's roots in one cut). By AI agents, Wed Nov 11 2026. No macro, syntax, notation, axiom, sorry.
-/
import Derived.Test.YtdngehfebmaegaaChecked
import GoSem.Claim
import GoSem.ClaimJoined
import GoSem.ClaimMapViews
import Derived.JoinedTies
import Derived.KernelRfl
namespace Go.Proofs.Ytdngehfebmaegaa
/- THE CELL 'sum', in the pinned program and in every row, IS THE sha256 OF THE DUMP (.gsa) THAT YtdngehfebmaegaaProg.lean LOADS. Nothing in Lean hashes anything: it is a label: what it is worth is what the hold of that sum in a sandbox is worth. -/
noncomputable def Try.pinned : Pinned := { name := "ytdngehfebmaegaa", sum := "dbdaa09cb6afc7b47389e70daaab59aec19fca71bc88fab0ac5d05ba9ed3f1bd", checked := Try.checked }
namespace Rows
def none {H : Type} : Left H := { results := [], args := [] }

/-- 'countermandlaw14.SheetDoes': WHATEVER THE INPUT: true; the input reads as it did. -/
def sheetDoesSpec : ChangeSpec := { name := "sheetDoes", fn := fun _ => fun
  | [d1, d2] => { results := [.lit (.bool true)], args := [d1, d2] }
  | _ => none }
def sheetDoesRow : OpenClaim := { program := "ytdngehfebmaegaa", sum := "dbdaa09cb6afc7b47389e70daaab59aec19fca71bc88fab0ac5d05ba9ed3f1bd", func := "countermand/countermandlaw14.SheetDoes", spec := "sheetDoes", inPlace := ["slices.overlaps[countermand/draft.entry[countermand/file.File]]"], unfollowed := true, recurses := true, apart := false }
def SheetDoesSaid : Prop := sheetDoesRow.holds Try.pinned (OpenSpec.ofChange sheetDoesSpec)

/-- ITS FALSE NEIGHBOUR: 'it returns false'. Refute it at one input. -/
def sheetDoesWrong : ChangeSpec := { name := "sheetDoes", fn := fun _ => fun
  | [d1, d2] => { results := [.lit (.bool false)], args := [d1, d2] }
  | _ => none }
def SheetDoesWrongFalsely : Prop := sheetDoesRow.holds Try.pinned (OpenSpec.ofChange sheetDoesWrong)

/-- 'countermandlaw14.SheetOver': WHATEVER THE INPUT: true; the input reads as it did. -/
def sheetOverSpec : ChangeSpec := { name := "sheetOver", fn := fun _ => fun
  | [d1, d2, d3] => { results := [.lit (.bool true)], args := [d1, d2, d3] }
  | _ => none }
def sheetOverRow : OpenClaim := { program := "ytdngehfebmaegaa", sum := "dbdaa09cb6afc7b47389e70daaab59aec19fca71bc88fab0ac5d05ba9ed3f1bd", func := "countermand/countermandlaw14.SheetOver", spec := "sheetOver", inPlace := ["slices.overlaps[countermand/draft.entry[countermand/file.File]]"], unfollowed := true, recurses := true, apart := false }
def SheetOverSaid : Prop := sheetOverRow.holds Try.pinned (OpenSpec.ofChange sheetOverSpec)

/-- ITS FALSE NEIGHBOUR: 'it returns false'. Refute it at one input. -/
def sheetOverWrong : ChangeSpec := { name := "sheetOver", fn := fun _ => fun
  | [d1, d2, d3] => { results := [.lit (.bool false)], args := [d1, d2, d3] }
  | _ => none }
def SheetOverWrongFalsely : Prop := sheetOverRow.holds Try.pinned (OpenSpec.ofChange sheetOverWrong)

/-- 'countermandlaw14.SheetCopies': WHATEVER THE INPUT: true; the input reads as it did. -/
def sheetCopiesSpec : ChangeSpec := { name := "sheetCopies", fn := fun _ => fun
  | [d1, d2, d3] => { results := [.lit (.bool true)], args := [d1, d2, d3] }
  | _ => none }
def sheetCopiesRow : OpenClaim := { program := "ytdngehfebmaegaa", sum := "dbdaa09cb6afc7b47389e70daaab59aec19fca71bc88fab0ac5d05ba9ed3f1bd", func := "countermand/countermandlaw14.SheetCopies", spec := "sheetCopies", inPlace := ["slices.overlaps[countermand/draft.entry[countermand/file.File]]"], unfollowed := true, recurses := true, apart := false }
def SheetCopiesSaid : Prop := sheetCopiesRow.holds Try.pinned (OpenSpec.ofChange sheetCopiesSpec)

/-- ITS FALSE NEIGHBOUR: 'it returns false'. Refute it at one input. -/
def sheetCopiesWrong : ChangeSpec := { name := "sheetCopies", fn := fun _ => fun
  | [d1, d2, d3] => { results := [.lit (.bool false)], args := [d1, d2, d3] }
  | _ => none }
def SheetCopiesWrongFalsely : Prop := sheetCopiesRow.holds Try.pinned (OpenSpec.ofChange sheetCopiesWrong)

/-- 'countermandlaw14.SheetRenames': WHATEVER THE INPUT: true; the input reads as it did. -/
def sheetRenamesSpec : ChangeSpec := { name := "sheetRenames", fn := fun _ => fun
  | [d1, d2, d3] => { results := [.lit (.bool true)], args := [d1, d2, d3] }
  | _ => none }
def sheetRenamesRow : OpenClaim := { program := "ytdngehfebmaegaa", sum := "dbdaa09cb6afc7b47389e70daaab59aec19fca71bc88fab0ac5d05ba9ed3f1bd", func := "countermand/countermandlaw14.SheetRenames", spec := "sheetRenames", inPlace := ["slices.overlaps[countermand/draft.entry[countermand/file.File]]"], unfollowed := true, recurses := true, apart := false }
def SheetRenamesSaid : Prop := sheetRenamesRow.holds Try.pinned (OpenSpec.ofChange sheetRenamesSpec)

/-- ITS FALSE NEIGHBOUR: 'it returns false'. Refute it at one input. -/
def sheetRenamesWrong : ChangeSpec := { name := "sheetRenames", fn := fun _ => fun
  | [d1, d2, d3] => { results := [.lit (.bool false)], args := [d1, d2, d3] }
  | _ => none }
def SheetRenamesWrongFalsely : Prop := sheetRenamesRow.holds Try.pinned (OpenSpec.ofChange sheetRenamesWrong)

/- THE SECOND FORM. 'bulk': how many values and letters a reading holds, each counted each time it is reached (what is shared counts as often as it is met; a slice's spare places count too). A statement '..UptoSaid' is the law's where the arguments, and the package variables that the reading takes, are together of bulk at most 1048576: NARROWER than '..Said'. Prove '..Said' where nothing that the law and all that it calls make is longer than what came in: it says more and counts as full. Else prove '..UptoSaid'. A law counts once. -/
mutual
def uptoBulk {H : Type} : DataW H → Nat
  | .lit (.string bytes) => bytes.length + 1
  | .lit _ => 1
  | .nil => 1
  | .ptr d => uptoBulk d + 1
  | .slice elems spare => uptoBulkAll elems + uptoBulkAll spare + 1
  | .agg parts => uptoBulkAll parts + 1
  | .iface _ d => uptoBulk d + 1
  | .map entries => uptoBulkEntries entries + 1
  | .held _ => 1
def uptoBulkAll {H : Type} : List (DataW H) → Nat
  | [] => 0
  | d :: r => uptoBulk d + uptoBulkAll r
def uptoBulkEntries {H : Type} : List (Lit × DataW H) → Nat
  | [] => 0
  | x :: r => uptoBulkEntry x + uptoBulkEntries r
def uptoBulkEntry {H : Type} : Lit × DataW H → Nat
  | (.string bytes, d) => bytes.length + uptoBulk d + 1
  | (_, d) => uptoBulk d + 1
 end
def uptoSmall : (H : Type) → List (DataW H) → Bool := fun _ ds => decide (uptoBulkAll ds ≤ 1048576)
def OpenSpec.upto (s : _root_.Go.ChangeSpec) : _root_.Go.OpenSpec := { _root_.Go.OpenSpec.ofChange s with cond := some uptoSmall }

/-- 'countermandlaw14.SheetDoes', WHERE WHAT IT READS IS OF BULK AT MOST 1048576: true; the input reads as it did. -/
def sheetDoesUptoRow : OpenClaim := { program := "ytdngehfebmaegaa", sum := "dbdaa09cb6afc7b47389e70daaab59aec19fca71bc88fab0ac5d05ba9ed3f1bd", func := "countermand/countermandlaw14.SheetDoes", spec := "sheetDoes", inPlace := ["slices.overlaps[countermand/draft.entry[countermand/file.File]]"], unfollowed := true, recurses := true, apart := false, narrowed := true }
def SheetDoesUptoSaid : Prop := sheetDoesUptoRow.holds Try.pinned (OpenSpec.upto sheetDoesSpec)

/-- 'countermandlaw14.SheetOver', WHERE WHAT IT READS IS OF BULK AT MOST 1048576: true; the input reads as it did. -/
def sheetOverUptoRow : OpenClaim := { program := "ytdngehfebmaegaa", sum := "dbdaa09cb6afc7b47389e70daaab59aec19fca71bc88fab0ac5d05ba9ed3f1bd", func := "countermand/countermandlaw14.SheetOver", spec := "sheetOver", inPlace := ["slices.overlaps[countermand/draft.entry[countermand/file.File]]"], unfollowed := true, recurses := true, apart := false, narrowed := true }
def SheetOverUptoSaid : Prop := sheetOverUptoRow.holds Try.pinned (OpenSpec.upto sheetOverSpec)

/-- 'countermandlaw14.SheetCopies', WHERE WHAT IT READS IS OF BULK AT MOST 1048576: true; the input reads as it did. -/
def sheetCopiesUptoRow : OpenClaim := { program := "ytdngehfebmaegaa", sum := "dbdaa09cb6afc7b47389e70daaab59aec19fca71bc88fab0ac5d05ba9ed3f1bd", func := "countermand/countermandlaw14.SheetCopies", spec := "sheetCopies", inPlace := ["slices.overlaps[countermand/draft.entry[countermand/file.File]]"], unfollowed := true, recurses := true, apart := false, narrowed := true }
def SheetCopiesUptoSaid : Prop := sheetCopiesUptoRow.holds Try.pinned (OpenSpec.upto sheetCopiesSpec)

/-- 'countermandlaw14.SheetRenames', WHERE WHAT IT READS IS OF BULK AT MOST 1048576: true; the input reads as it did. -/
def sheetRenamesUptoRow : OpenClaim := { program := "ytdngehfebmaegaa", sum := "dbdaa09cb6afc7b47389e70daaab59aec19fca71bc88fab0ac5d05ba9ed3f1bd", func := "countermand/countermandlaw14.SheetRenames", spec := "sheetRenames", inPlace := ["slices.overlaps[countermand/draft.entry[countermand/file.File]]"], unfollowed := true, recurses := true, apart := false, narrowed := true }
def SheetRenamesUptoSaid : Prop := sheetRenamesUptoRow.holds Try.pinned (OpenSpec.upto sheetRenamesSpec)

end Rows
end Go.Proofs.Ytdngehfebmaegaa
