/-
  No cell of these rows narrows 'for every input' (looked for: loops, veiled, ifaces, maps, wideKeys, modest, calm, conditions, laid).
  DERIVED. THE GIVEN ROWS OF THIS SEAT. 3 by the template 'for every input the law returns true; each argument reads behind the call as it read before'; 0 by the template 'total and deterministic' (their statements: YtocdnlnhjfigjaaTotals.lean).
  GIVEN WITH THE SEED: the statements are not yours to turn. If you find one false, say at which input.
  Laid BY PROGRAM, IN A SANDBOX (cutbox-rows.mjs): the forced cells as the released guide's own fill.sh prints them over the translation d193cdc27991c18e… (all of the seat's roots in one cut). By AI agents, Wed Nov 11 2026. No macro, syntax, notation, axiom, sorry.
-/
import Derived.Test.YtocdnlnhjfigjaaChecked
import GoSem.Claim
import GoSem.ClaimJoined
import GoSem.ClaimMapViews
import Derived.JoinedTies
import Derived.KernelRfl
namespace Go.Proofs.Ytocdnlnhjfigjaa
/- THE CELL 'sum', in the pinned program and in every row, IS THE sha256 OF THE DUMP (.gsa) THAT YtocdnlnhjfigjaaProg.lean LOADS. Nothing in Lean hashes anything: it is a label: what it is worth is what the hold of that sum in a sandbox is worth. -/
noncomputable def Try.pinned : Pinned := { name := "ytocdnlnhjfigjaa", sum := "d193cdc27991c18e39405d39ab4f363a8666615487ac46e052e5f62124bb0f17", checked := Try.checked }
namespace Rows
def none {H : Type} : Left H := { results := [], args := [] }

/-- 'countermandlaw13.DraftPuts': WHATEVER THE INPUT: true; the input reads as it did. -/
def draftPutsSpec : ChangeSpec := { name := "draftPuts", fn := fun _ => fun
  | [d1, d2] => { results := [.lit (.bool true)], args := [d1, d2] }
  | _ => none }
def draftPutsRow : OpenClaim := { program := "ytocdnlnhjfigjaa", sum := "d193cdc27991c18e39405d39ab4f363a8666615487ac46e052e5f62124bb0f17", func := "countermand/countermandlaw13.DraftPuts", spec := "draftPuts", inPlace := ["slices.overlaps[countermand/draft.entry[string]]", "slices.overlaps[countermand/draft.entry[int]]"], unfollowed := true, recurses := true, apart := false }
def DraftPutsSaid : Prop := draftPutsRow.holds Try.pinned (OpenSpec.ofChange draftPutsSpec)

/-- ITS FALSE NEIGHBOUR: 'it returns false'. Refute it at one input. -/
def draftPutsWrong : ChangeSpec := { name := "draftPuts", fn := fun _ => fun
  | [d1, d2] => { results := [.lit (.bool false)], args := [d1, d2] }
  | _ => none }
def DraftPutsWrongFalsely : Prop := draftPutsRow.holds Try.pinned (OpenSpec.ofChange draftPutsWrong)

/-- 'countermandlaw13.DraftCopies': WHATEVER THE INPUT: true; the input reads as it did. -/
def draftCopiesSpec : ChangeSpec := { name := "draftCopies", fn := fun _ => fun
  | [d1, d2, d3] => { results := [.lit (.bool true)], args := [d1, d2, d3] }
  | _ => none }
def draftCopiesRow : OpenClaim := { program := "ytocdnlnhjfigjaa", sum := "d193cdc27991c18e39405d39ab4f363a8666615487ac46e052e5f62124bb0f17", func := "countermand/countermandlaw13.DraftCopies", spec := "draftCopies", inPlace := ["slices.overlaps[countermand/draft.entry[string]]", "slices.overlaps[countermand/draft.entry[int]]"], unfollowed := true, recurses := true, apart := false }
def DraftCopiesSaid : Prop := draftCopiesRow.holds Try.pinned (OpenSpec.ofChange draftCopiesSpec)

/-- ITS FALSE NEIGHBOUR: 'it returns false'. Refute it at one input. -/
def draftCopiesWrong : ChangeSpec := { name := "draftCopies", fn := fun _ => fun
  | [d1, d2, d3] => { results := [.lit (.bool false)], args := [d1, d2, d3] }
  | _ => none }
def DraftCopiesWrongFalsely : Prop := draftCopiesRow.holds Try.pinned (OpenSpec.ofChange draftCopiesWrong)

/-- 'countermandlaw13.DraftOrder': WHATEVER THE INPUT: true; the input reads as it did. -/
def draftOrderSpec : ChangeSpec := { name := "draftOrder", fn := fun _ => fun
  | [d1, d2] => { results := [.lit (.bool true)], args := [d1, d2] }
  | _ => none }
def draftOrderRow : OpenClaim := { program := "ytocdnlnhjfigjaa", sum := "d193cdc27991c18e39405d39ab4f363a8666615487ac46e052e5f62124bb0f17", func := "countermand/countermandlaw13.DraftOrder", spec := "draftOrder", inPlace := ["slices.overlaps[countermand/draft.entry[string]]", "slices.overlaps[countermand/draft.entry[int]]"], unfollowed := true, recurses := true, apart := false }
def DraftOrderSaid : Prop := draftOrderRow.holds Try.pinned (OpenSpec.ofChange draftOrderSpec)

/-- ITS FALSE NEIGHBOUR: 'it returns false'. Refute it at one input. -/
def draftOrderWrong : ChangeSpec := { name := "draftOrder", fn := fun _ => fun
  | [d1, d2] => { results := [.lit (.bool false)], args := [d1, d2] }
  | _ => none }
def DraftOrderWrongFalsely : Prop := draftOrderRow.holds Try.pinned (OpenSpec.ofChange draftOrderWrong)

/- THE SECOND FORM. 'bulk': how many values and letters a reading holds, each counted each time it is reached (what is shared counts as often as it is met; a slice's spare places count too). A statement '..UptoSaid' is the law's where the arguments, and the package variables that the reading takes, are together of bulk at most 1048576: NARROWER than '..Said'. Prove '..Said' where nothing that the law and all that it calls make is longer than what came in: it says more and counts as full. Else prove '..UptoSaid'. A law counts once. -/
mutual
def uptoBulk {H : Type} : DataW H → Nat
  | .lit (.string bytes) => bytes.length + 1
  | .lit _ => 1
  | .nil => 1
  | .ptr d => uptoBulk d + 1
  | .slice elems spare => uptoBulkAll elems + uptoBulkAll spare + 1
  | .agg parts => uptoBulkAll parts + 1
  | .iface _ d => uptoBulk d + 1
  | .map entries => uptoBulkEntries entries + 1
  | .held _ => 1
def uptoBulkAll {H : Type} : List (DataW H) → Nat
  | [] => 0
  | d :: r => uptoBulk d + uptoBulkAll r
def uptoBulkEntries {H : Type} : List (Lit × DataW H) → Nat
  | [] => 0
  | x :: r => uptoBulkEntry x + uptoBulkEntries r
def uptoBulkEntry {H : Type} : Lit × DataW H → Nat
  | (.string bytes, d) => bytes.length + uptoBulk d + 1
  | (_, d) => uptoBulk d + 1
 end
def uptoSmall : (H : Type) → List (DataW H) → Bool := fun _ ds => decide (uptoBulkAll ds ≤ 1048576)
def OpenSpec.upto (s : _root_.Go.ChangeSpec) : _root_.Go.OpenSpec := { _root_.Go.OpenSpec.ofChange s with cond := some uptoSmall }

/-- 'countermandlaw13.DraftPuts', WHERE WHAT IT READS IS OF BULK AT MOST 1048576: true; the input reads as it did. -/
def draftPutsUptoRow : OpenClaim := { program := "ytocdnlnhjfigjaa", sum := "d193cdc27991c18e39405d39ab4f363a8666615487ac46e052e5f62124bb0f17", func := "countermand/countermandlaw13.DraftPuts", spec := "draftPuts", inPlace := ["slices.overlaps[countermand/draft.entry[string]]", "slices.overlaps[countermand/draft.entry[int]]"], unfollowed := true, recurses := true, apart := false, narrowed := true }
def DraftPutsUptoSaid : Prop := draftPutsUptoRow.holds Try.pinned (OpenSpec.upto draftPutsSpec)

/-- 'countermandlaw13.DraftCopies', WHERE WHAT IT READS IS OF BULK AT MOST 1048576: true; the input reads as it did. -/
def draftCopiesUptoRow : OpenClaim := { program := "ytocdnlnhjfigjaa", sum := "d193cdc27991c18e39405d39ab4f363a8666615487ac46e052e5f62124bb0f17", func := "countermand/countermandlaw13.DraftCopies", spec := "draftCopies", inPlace := ["slices.overlaps[countermand/draft.entry[string]]", "slices.overlaps[countermand/draft.entry[int]]"], unfollowed := true, recurses := true, apart := false, narrowed := true }
def DraftCopiesUptoSaid : Prop := draftCopiesUptoRow.holds Try.pinned (OpenSpec.upto draftCopiesSpec)

/-- 'countermandlaw13.DraftOrder', WHERE WHAT IT READS IS OF BULK AT MOST 1048576: true; the input reads as it did. -/
def draftOrderUptoRow : OpenClaim := { program := "ytocdnlnhjfigjaa", sum := "d193cdc27991c18e39405d39ab4f363a8666615487ac46e052e5f62124bb0f17", func := "countermand/countermandlaw13.DraftOrder", spec := "draftOrder", inPlace := ["slices.overlaps[countermand/draft.entry[string]]", "slices.overlaps[countermand/draft.entry[int]]"], unfollowed := true, recurses := true, apart := false, narrowed := true }
def DraftOrderUptoSaid : Prop := draftOrderUptoRow.holds Try.pinned (OpenSpec.upto draftOrderSpec)

end Rows
end Go.Proofs.Ytocdnlnhjfigjaa
