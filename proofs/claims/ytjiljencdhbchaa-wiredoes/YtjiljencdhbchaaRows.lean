/-
  No cell of these rows narrows 'for every input' (looked for: loops, veiled, ifaces, maps, wideKeys, modest, calm, conditions, laid).
  DERIVED. THE GIVEN ROWS OF THIS SEAT. 5 by the template 'for every input the law returns true; each argument reads behind the call as it read before'; 0 by the template 'total and deterministic' (their statements: YtjiljencdhbchaaTotals.lean).
  GIVEN WITH THE SEED: the statements are not yours to turn. If you find one false, say at which input.
  Laid BY PROGRAM, IN A SANDBOX (cutbox-rows.mjs): the forced cells as the released guide's own fill.sh prints them over the translation 1d2a3a423096a193… (all of the seat's roots in one cut). By AI agents, Wed Nov 11 2026. No macro, syntax, notation, axiom, sorry.
-/
import Derived.Test.YtjiljencdhbchaaChecked
import GoSem.Claim
import GoSem.ClaimJoined
import GoSem.ClaimMapViews
import Derived.JoinedTies
import Derived.KernelRfl
namespace Go.Proofs.Ytjiljencdhbchaa
/- THE CELL 'sum', in the pinned program and in every row, IS THE sha256 OF THE DUMP (.gsa) THAT YtjiljencdhbchaaProg.lean LOADS. Nothing in Lean hashes anything: it is a label: what it is worth is what the hold of that sum in a sandbox is worth. -/
noncomputable def Try.pinned : Pinned := { name := "ytjiljencdhbchaa", sum := "1d2a3a423096a19384a2d8c8110f3ac03e214a39392f59ff69953e64cc96bc64", checked := Try.checked }
namespace Rows
def none {H : Type} : Left H := { results := [], args := [] }

/-- 'countermandlaw06.WireDoes': WHATEVER THE INPUT: true; the input reads as it did. -/
def wireDoesSpec : ChangeSpec := { name := "wireDoes", fn := fun _ => fun
  | [d] => { results := [.lit (.bool true)], args := [d] }
  | _ => none }
def wireDoesRow : OpenClaim := { program := "ytjiljencdhbchaa", sum := "1d2a3a423096a19384a2d8c8110f3ac03e214a39392f59ff69953e64cc96bc64", func := "countermand/countermandlaw06.WireDoes", spec := "wireDoes", apart := false }
def WireDoesSaid : Prop := wireDoesRow.holds Try.pinned (OpenSpec.ofChange wireDoesSpec)

/-- ITS FALSE NEIGHBOUR: 'it returns false'. Refute it at one input. -/
def wireDoesWrong : ChangeSpec := { name := "wireDoes", fn := fun _ => fun
  | [d] => { results := [.lit (.bool false)], args := [d] }
  | _ => none }
def WireDoesWrongFalsely : Prop := wireDoesRow.holds Try.pinned (OpenSpec.ofChange wireDoesWrong)

/-- 'countermandlaw06.WireOrder': WHATEVER THE INPUT: true; the input reads as it did. -/
def wireOrderSpec : ChangeSpec := { name := "wireOrder", fn := fun _ => fun
  | [d1, d2] => { results := [.lit (.bool true)], args := [d1, d2] }
  | _ => none }
def wireOrderRow : OpenClaim := { program := "ytjiljencdhbchaa", sum := "1d2a3a423096a19384a2d8c8110f3ac03e214a39392f59ff69953e64cc96bc64", func := "countermand/countermandlaw06.WireOrder", spec := "wireOrder", apart := false }
def WireOrderSaid : Prop := wireOrderRow.holds Try.pinned (OpenSpec.ofChange wireOrderSpec)

/-- ITS FALSE NEIGHBOUR: 'it returns false'. Refute it at one input. -/
def wireOrderWrong : ChangeSpec := { name := "wireOrder", fn := fun _ => fun
  | [d1, d2] => { results := [.lit (.bool false)], args := [d1, d2] }
  | _ => none }
def WireOrderWrongFalsely : Prop := wireOrderRow.holds Try.pinned (OpenSpec.ofChange wireOrderWrong)

/-- 'countermandlaw06.WireEmpties': WHATEVER THE INPUT: true; the input reads as it did. -/
def wireEmptiesSpec : ChangeSpec := { name := "wireEmpties", fn := fun _ => fun
  | [d1, d2, d3] => { results := [.lit (.bool true)], args := [d1, d2, d3] }
  | _ => none }
def wireEmptiesRow : OpenClaim := { program := "ytjiljencdhbchaa", sum := "1d2a3a423096a19384a2d8c8110f3ac03e214a39392f59ff69953e64cc96bc64", func := "countermand/countermandlaw06.WireEmpties", spec := "wireEmpties", apart := false }
def WireEmptiesSaid : Prop := wireEmptiesRow.holds Try.pinned (OpenSpec.ofChange wireEmptiesSpec)

/-- ITS FALSE NEIGHBOUR: 'it returns false'. Refute it at one input. -/
def wireEmptiesWrong : ChangeSpec := { name := "wireEmpties", fn := fun _ => fun
  | [d1, d2, d3] => { results := [.lit (.bool false)], args := [d1, d2, d3] }
  | _ => none }
def WireEmptiesWrongFalsely : Prop := wireEmptiesRow.holds Try.pinned (OpenSpec.ofChange wireEmptiesWrong)

/-- 'countermandlaw06.WireApart': WHATEVER THE INPUT: true; the input reads as it did. -/
def wireApartSpec : ChangeSpec := { name := "wireApart", fn := fun _ => fun
  | [d1, d2] => { results := [.lit (.bool true)], args := [d1, d2] }
  | _ => none }
def wireApartRow : OpenClaim := { program := "ytjiljencdhbchaa", sum := "1d2a3a423096a19384a2d8c8110f3ac03e214a39392f59ff69953e64cc96bc64", func := "countermand/countermandlaw06.WireApart", spec := "wireApart", apart := false }
def WireApartSaid : Prop := wireApartRow.holds Try.pinned (OpenSpec.ofChange wireApartSpec)

/-- ITS FALSE NEIGHBOUR: 'it returns false'. Refute it at one input. -/
def wireApartWrong : ChangeSpec := { name := "wireApart", fn := fun _ => fun
  | [d1, d2] => { results := [.lit (.bool false)], args := [d1, d2] }
  | _ => none }
def WireApartWrongFalsely : Prop := wireApartRow.holds Try.pinned (OpenSpec.ofChange wireApartWrong)

/-- 'countermandlaw06.WireRoom': WHATEVER THE INPUT: true; the input reads as it did. -/
def wireRoomSpec : ChangeSpec := { name := "wireRoom", fn := fun _ => fun
  | [d1, d2, d3] => { results := [.lit (.bool true)], args := [d1, d2, d3] }
  | _ => none }
def wireRoomRow : OpenClaim := { program := "ytjiljencdhbchaa", sum := "1d2a3a423096a19384a2d8c8110f3ac03e214a39392f59ff69953e64cc96bc64", func := "countermand/countermandlaw06.WireRoom", spec := "wireRoom", apart := false }
def WireRoomSaid : Prop := wireRoomRow.holds Try.pinned (OpenSpec.ofChange wireRoomSpec)

/-- ITS FALSE NEIGHBOUR: 'it returns false'. Refute it at one input. -/
def wireRoomWrong : ChangeSpec := { name := "wireRoom", fn := fun _ => fun
  | [d1, d2, d3] => { results := [.lit (.bool false)], args := [d1, d2, d3] }
  | _ => none }
def WireRoomWrongFalsely : Prop := wireRoomRow.holds Try.pinned (OpenSpec.ofChange wireRoomWrong)

/- THE SECOND FORM. 'bulk': how many values and letters a reading holds, each counted each time it is reached (what is shared counts as often as it is met; a slice's spare places count too). A statement '..UptoSaid' is the law's where the arguments, and the package variables that the reading takes, are together of bulk at most 1048576: NARROWER than '..Said'. Prove '..Said' where nothing that the law and all that it calls make is longer than what came in: it says more and counts as full. Else prove '..UptoSaid'. A law counts once. -/
mutual
def uptoBulk {H : Type} : DataW H → Nat
  | .lit (.string bytes) => bytes.length + 1
  | .lit _ => 1
  | .nil => 1
  | .ptr d => uptoBulk d + 1
  | .slice elems spare => uptoBulkAll elems + uptoBulkAll spare + 1
  | .agg parts => uptoBulkAll parts + 1
  | .iface _ d => uptoBulk d + 1
  | .map entries => uptoBulkEntries entries + 1
  | .held _ => 1
def uptoBulkAll {H : Type} : List (DataW H) → Nat
  | [] => 0
  | d :: r => uptoBulk d + uptoBulkAll r
def uptoBulkEntries {H : Type} : List (Lit × DataW H) → Nat
  | [] => 0
  | x :: r => uptoBulkEntry x + uptoBulkEntries r
def uptoBulkEntry {H : Type} : Lit × DataW H → Nat
  | (.string bytes, d) => bytes.length + uptoBulk d + 1
  | (_, d) => uptoBulk d + 1
 end
def uptoSmall : (H : Type) → List (DataW H) → Bool := fun _ ds => decide (uptoBulkAll ds ≤ 1048576)
def OpenSpec.upto (s : _root_.Go.ChangeSpec) : _root_.Go.OpenSpec := { _root_.Go.OpenSpec.ofChange s with cond := some uptoSmall }

/-- 'countermandlaw06.WireDoes', WHERE WHAT IT READS IS OF BULK AT MOST 1048576: true; the input reads as it did. -/
def wireDoesUptoRow : OpenClaim := { program := "ytjiljencdhbchaa", sum := "1d2a3a423096a19384a2d8c8110f3ac03e214a39392f59ff69953e64cc96bc64", func := "countermand/countermandlaw06.WireDoes", spec := "wireDoes", apart := false, narrowed := true }
def WireDoesUptoSaid : Prop := wireDoesUptoRow.holds Try.pinned (OpenSpec.upto wireDoesSpec)

/-- 'countermandlaw06.WireOrder', WHERE WHAT IT READS IS OF BULK AT MOST 1048576: true; the input reads as it did. -/
def wireOrderUptoRow : OpenClaim := { program := "ytjiljencdhbchaa", sum := "1d2a3a423096a19384a2d8c8110f3ac03e214a39392f59ff69953e64cc96bc64", func := "countermand/countermandlaw06.WireOrder", spec := "wireOrder", apart := false, narrowed := true }
def WireOrderUptoSaid : Prop := wireOrderUptoRow.holds Try.pinned (OpenSpec.upto wireOrderSpec)

/-- 'countermandlaw06.WireEmpties', WHERE WHAT IT READS IS OF BULK AT MOST 1048576: true; the input reads as it did. -/
def wireEmptiesUptoRow : OpenClaim := { program := "ytjiljencdhbchaa", sum := "1d2a3a423096a19384a2d8c8110f3ac03e214a39392f59ff69953e64cc96bc64", func := "countermand/countermandlaw06.WireEmpties", spec := "wireEmpties", apart := false, narrowed := true }
def WireEmptiesUptoSaid : Prop := wireEmptiesUptoRow.holds Try.pinned (OpenSpec.upto wireEmptiesSpec)

/-- 'countermandlaw06.WireApart', WHERE WHAT IT READS IS OF BULK AT MOST 1048576: true; the input reads as it did. -/
def wireApartUptoRow : OpenClaim := { program := "ytjiljencdhbchaa", sum := "1d2a3a423096a19384a2d8c8110f3ac03e214a39392f59ff69953e64cc96bc64", func := "countermand/countermandlaw06.WireApart", spec := "wireApart", apart := false, narrowed := true }
def WireApartUptoSaid : Prop := wireApartUptoRow.holds Try.pinned (OpenSpec.upto wireApartSpec)

/-- 'countermandlaw06.WireRoom', WHERE WHAT IT READS IS OF BULK AT MOST 1048576: true; the input reads as it did. -/
def wireRoomUptoRow : OpenClaim := { program := "ytjiljencdhbchaa", sum := "1d2a3a423096a19384a2d8c8110f3ac03e214a39392f59ff69953e64cc96bc64", func := "countermand/countermandlaw06.WireRoom", spec := "wireRoom", apart := false, narrowed := true }
def WireRoomUptoSaid : Prop := wireRoomUptoRow.holds Try.pinned (OpenSpec.upto wireRoomSpec)

end Rows
end Go.Proofs.Ytjiljencdhbchaa
