/-
  No cell of these rows narrows 'for every input' (looked for: loops, veiled, ifaces, maps, wideKeys, modest, calm, conditions, laid).
  DERIVED. THE GIVEN ROWS OF THIS SEAT. 4 by the template 'for every input the law returns true; each argument reads behind the call as it read before'; 0 by the template 'total and deterministic' (their statements: YtabjjjbopbjbeaaTotals.lean).
  GIVEN WITH THE SEED: the statements are not yours to turn. If you find one false, say at which input.
  Laid BY PROGRAM, IN A SANDBOX (cutbox-rows.mjs): the forced cells as the released guide's own fill.sh prints them over the translation 98b217c24029a24d… (all of the seat's roots in one cut). By AI agents, Wed Nov 11 2026. No macro, syntax, notation, axiom, sorry.
-/
import Derived.Test.YtabjjjbopbjbeaaChecked
import GoSem.Claim
import GoSem.ClaimJoined
import GoSem.ClaimMapViews
import Derived.JoinedTies
import Derived.KernelRfl
namespace Go.Proofs.Ytabjjjbopbjbeaa
/- THE CELL 'sum', in the pinned program and in every row, IS THE sha256 OF THE DUMP (.gsa) THAT YtabjjjbopbjbeaaProg.lean LOADS. Nothing in Lean hashes anything: it is a label: what it is worth is what the hold of that sum in a sandbox is worth. -/
noncomputable def Try.pinned : Pinned := { name := "ytabjjjbopbjbeaa", sum := "98b217c24029a24de32715231119b8bfc08e6ef73c91e6aced824b684cab2357", checked := Try.checked }
namespace Rows
def none {H : Type} : Left H := { results := [], args := [] }

/-- 'countermandlaw10.TomeSets': WHATEVER THE INPUT: true; the input reads as it did. -/
def tomeSetsSpec : ChangeSpec := { name := "tomeSets", fn := fun _ => fun
  | [d1, d2] => { results := [.lit (.bool true)], args := [d1, d2] }
  | _ => none }
def tomeSetsRow : OpenClaim := { program := "ytabjjjbopbjbeaa", sum := "98b217c24029a24de32715231119b8bfc08e6ef73c91e6aced824b684cab2357", func := "countermand/countermandlaw10.TomeSets", spec := "tomeSets", unfollowed := true, recurses := true, apart := false }
def TomeSetsSaid : Prop := tomeSetsRow.holds Try.pinned (OpenSpec.ofChange tomeSetsSpec)

/-- ITS FALSE NEIGHBOUR: 'it returns false'. Refute it at one input. -/
def tomeSetsWrong : ChangeSpec := { name := "tomeSets", fn := fun _ => fun
  | [d1, d2] => { results := [.lit (.bool false)], args := [d1, d2] }
  | _ => none }
def TomeSetsWrongFalsely : Prop := tomeSetsRow.holds Try.pinned (OpenSpec.ofChange tomeSetsWrong)

/-- 'countermandlaw10.TomeReads': WHATEVER THE INPUT: true; the input reads as it did. -/
def tomeReadsSpec : ChangeSpec := { name := "tomeReads", fn := fun _ => fun
  | [d] => { results := [.lit (.bool true)], args := [d] }
  | _ => none }
def tomeReadsRow : OpenClaim := { program := "ytabjjjbopbjbeaa", sum := "98b217c24029a24de32715231119b8bfc08e6ef73c91e6aced824b684cab2357", func := "countermand/countermandlaw10.TomeReads", spec := "tomeReads", unfollowed := true, recurses := true, apart := false }
def TomeReadsSaid : Prop := tomeReadsRow.holds Try.pinned (OpenSpec.ofChange tomeReadsSpec)

/-- ITS FALSE NEIGHBOUR: 'it returns false'. Refute it at one input. -/
def tomeReadsWrong : ChangeSpec := { name := "tomeReads", fn := fun _ => fun
  | [d] => { results := [.lit (.bool false)], args := [d] }
  | _ => none }
def TomeReadsWrongFalsely : Prop := tomeReadsRow.holds Try.pinned (OpenSpec.ofChange tomeReadsWrong)

/-- 'countermandlaw10.TomeReturns': WHATEVER THE INPUT: true; the input reads as it did. -/
def tomeReturnsSpec : ChangeSpec := { name := "tomeReturns", fn := fun _ => fun
  | [d1, d2] => { results := [.lit (.bool true)], args := [d1, d2] }
  | _ => none }
def tomeReturnsRow : OpenClaim := { program := "ytabjjjbopbjbeaa", sum := "98b217c24029a24de32715231119b8bfc08e6ef73c91e6aced824b684cab2357", func := "countermand/countermandlaw10.TomeReturns", spec := "tomeReturns", unfollowed := true, recurses := true, apart := false }
def TomeReturnsSaid : Prop := tomeReturnsRow.holds Try.pinned (OpenSpec.ofChange tomeReturnsSpec)

/-- ITS FALSE NEIGHBOUR: 'it returns false'. Refute it at one input. -/
def tomeReturnsWrong : ChangeSpec := { name := "tomeReturns", fn := fun _ => fun
  | [d1, d2] => { results := [.lit (.bool false)], args := [d1, d2] }
  | _ => none }
def TomeReturnsWrongFalsely : Prop := tomeReturnsRow.holds Try.pinned (OpenSpec.ofChange tomeReturnsWrong)

/-- 'countermandlaw10.TomeApart': WHATEVER THE INPUT: true; the input reads as it did. -/
def tomeApartSpec : ChangeSpec := { name := "tomeApart", fn := fun _ => fun
  | [d1, d2] => { results := [.lit (.bool true)], args := [d1, d2] }
  | _ => none }
def tomeApartRow : OpenClaim := { program := "ytabjjjbopbjbeaa", sum := "98b217c24029a24de32715231119b8bfc08e6ef73c91e6aced824b684cab2357", func := "countermand/countermandlaw10.TomeApart", spec := "tomeApart", unfollowed := true, recurses := true, apart := false }
def TomeApartSaid : Prop := tomeApartRow.holds Try.pinned (OpenSpec.ofChange tomeApartSpec)

/-- ITS FALSE NEIGHBOUR: 'it returns false'. Refute it at one input. -/
def tomeApartWrong : ChangeSpec := { name := "tomeApart", fn := fun _ => fun
  | [d1, d2] => { results := [.lit (.bool false)], args := [d1, d2] }
  | _ => none }
def TomeApartWrongFalsely : Prop := tomeApartRow.holds Try.pinned (OpenSpec.ofChange tomeApartWrong)

/- THE SECOND FORM. 'bulk': how many values and letters a reading holds, each counted each time it is reached (what is shared counts as often as it is met; a slice's spare places count too). A statement '..UptoSaid' is the law's where the arguments, and the package variables that the reading takes, are together of bulk at most 1048576: NARROWER than '..Said'. Prove '..Said' where nothing that the law and all that it calls make is longer than what came in: it says more and counts as full. Else prove '..UptoSaid'. A law counts once. -/
mutual
def uptoBulk {H : Type} : DataW H → Nat
  | .lit (.string bytes) => bytes.length + 1
  | .lit _ => 1
  | .nil => 1
  | .ptr d => uptoBulk d + 1
  | .slice elems spare => uptoBulkAll elems + uptoBulkAll spare + 1
  | .agg parts => uptoBulkAll parts + 1
  | .iface _ d => uptoBulk d + 1
  | .map entries => uptoBulkEntries entries + 1
  | .held _ => 1
def uptoBulkAll {H : Type} : List (DataW H) → Nat
  | [] => 0
  | d :: r => uptoBulk d + uptoBulkAll r
def uptoBulkEntries {H : Type} : List (Lit × DataW H) → Nat
  | [] => 0
  | x :: r => uptoBulkEntry x + uptoBulkEntries r
def uptoBulkEntry {H : Type} : Lit × DataW H → Nat
  | (.string bytes, d) => bytes.length + uptoBulk d + 1
  | (_, d) => uptoBulk d + 1
 end
def uptoSmall : (H : Type) → List (DataW H) → Bool := fun _ ds => decide (uptoBulkAll ds ≤ 1048576)
def OpenSpec.upto (s : _root_.Go.ChangeSpec) : _root_.Go.OpenSpec := { _root_.Go.OpenSpec.ofChange s with cond := some uptoSmall }

/-- 'countermandlaw10.TomeSets', WHERE WHAT IT READS IS OF BULK AT MOST 1048576: true; the input reads as it did. -/
def tomeSetsUptoRow : OpenClaim := { program := "ytabjjjbopbjbeaa", sum := "98b217c24029a24de32715231119b8bfc08e6ef73c91e6aced824b684cab2357", func := "countermand/countermandlaw10.TomeSets", spec := "tomeSets", unfollowed := true, recurses := true, apart := false, narrowed := true }
def TomeSetsUptoSaid : Prop := tomeSetsUptoRow.holds Try.pinned (OpenSpec.upto tomeSetsSpec)

/-- 'countermandlaw10.TomeReads', WHERE WHAT IT READS IS OF BULK AT MOST 1048576: true; the input reads as it did. -/
def tomeReadsUptoRow : OpenClaim := { program := "ytabjjjbopbjbeaa", sum := "98b217c24029a24de32715231119b8bfc08e6ef73c91e6aced824b684cab2357", func := "countermand/countermandlaw10.TomeReads", spec := "tomeReads", unfollowed := true, recurses := true, apart := false, narrowed := true }
def TomeReadsUptoSaid : Prop := tomeReadsUptoRow.holds Try.pinned (OpenSpec.upto tomeReadsSpec)

/-- 'countermandlaw10.TomeReturns', WHERE WHAT IT READS IS OF BULK AT MOST 1048576: true; the input reads as it did. -/
def tomeReturnsUptoRow : OpenClaim := { program := "ytabjjjbopbjbeaa", sum := "98b217c24029a24de32715231119b8bfc08e6ef73c91e6aced824b684cab2357", func := "countermand/countermandlaw10.TomeReturns", spec := "tomeReturns", unfollowed := true, recurses := true, apart := false, narrowed := true }
def TomeReturnsUptoSaid : Prop := tomeReturnsUptoRow.holds Try.pinned (OpenSpec.upto tomeReturnsSpec)

/-- 'countermandlaw10.TomeApart', WHERE WHAT IT READS IS OF BULK AT MOST 1048576: true; the input reads as it did. -/
def tomeApartUptoRow : OpenClaim := { program := "ytabjjjbopbjbeaa", sum := "98b217c24029a24de32715231119b8bfc08e6ef73c91e6aced824b684cab2357", func := "countermand/countermandlaw10.TomeApart", spec := "tomeApart", unfollowed := true, recurses := true, apart := false, narrowed := true }
def TomeApartUptoSaid : Prop := tomeApartUptoRow.holds Try.pinned (OpenSpec.upto tomeApartSpec)

end Rows
end Go.Proofs.Ytabjjjbopbjbeaa
