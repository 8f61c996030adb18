/-
  No cell of these rows narrows 'for every input' (looked for: loops, veiled, ifaces, maps, wideKeys, modest, calm, conditions, laid).
  DERIVED. THE GIVEN ROWS OF THIS SEAT. 7 by the template 'for every input the law returns true; each argument reads behind the call as it read before'; 0 by the template 'total and deterministic' (their statements: YtdlhgbhaeedbdaaTotals.lean).
  GIVEN WITH THE SEED: the statements are not yours to turn. If you find one false, say at which input.
  Laid BY PROGRAM, IN A SANDBOX (cutbox-rows.mjs): the forced cells as the released guide's own fill.sh prints them over the translation dba5869b3048cc5d… (all of the seat's roots in one cut). By AI agents, Wed Nov 11 2026. No macro, syntax, notation, axiom, sorry.
-/
import Derived.Test.YtdlhgbhaeedbdaaChecked
import GoSem.Claim
import GoSem.ClaimJoined
import GoSem.ClaimMapViews
import Derived.JoinedTies
import Derived.KernelRfl
namespace Go.Proofs.Ytdlhgbhaeedbdaa
/- THE CELL 'sum', in the pinned program and in every row, IS THE sha256 OF THE DUMP (.gsa) THAT YtdlhgbhaeedbdaaProg.lean LOADS. Nothing in Lean hashes anything: it is a label: what it is worth is what the hold of that sum in a sandbox is worth. -/
noncomputable def Try.pinned : Pinned := { name := "ytdlhgbhaeedbdaa", sum := "dba5869b3048cc5d10f4be340c05a9562998cb6c8be7b7f7a601b326894d3560", checked := Try.checked }
namespace Rows
def none {H : Type} : Left H := { results := [], args := [] }

/-- 'racklaw.Devices': WHATEVER THE INPUT: true; the input reads as it did. -/
def devicesSpec : ChangeSpec := { name := "devices", fn := fun _ => fun
  | [d] => { results := [.lit (.bool true)], args := [d] }
  | _ => none }
def devicesRow : OpenClaim := { program := "ytdlhgbhaeedbdaa", sum := "dba5869b3048cc5d10f4be340c05a9562998cb6c8be7b7f7a601b326894d3560", func := "rack/racklaw.Devices", spec := "devices", apart := false }
def DevicesSaid : Prop := devicesRow.holds Try.pinned (OpenSpec.ofChange devicesSpec)

/-- ITS FALSE NEIGHBOUR: 'it returns false'. Refute it at one input. -/
def devicesWrong : ChangeSpec := { name := "devices", fn := fun _ => fun
  | [d] => { results := [.lit (.bool false)], args := [d] }
  | _ => none }
def DevicesWrongFalsely : Prop := devicesRow.holds Try.pinned (OpenSpec.ofChange devicesWrong)

/-- 'rackkeep.Places': WHATEVER THE INPUT: true; the input reads as it did. -/
def placesSpec : ChangeSpec := { name := "places", fn := fun _ => fun
  | [d] => { results := [.lit (.bool true)], args := [d] }
  | _ => none }
def placesRow : OpenClaim := { program := "ytdlhgbhaeedbdaa", sum := "dba5869b3048cc5d10f4be340c05a9562998cb6c8be7b7f7a601b326894d3560", func := "rack/rackkeep.Places", spec := "places", apart := false }
def PlacesSaid : Prop := placesRow.holds Try.pinned (OpenSpec.ofChange placesSpec)

/-- ITS FALSE NEIGHBOUR: 'it returns false'. Refute it at one input. -/
def placesWrong : ChangeSpec := { name := "places", fn := fun _ => fun
  | [d] => { results := [.lit (.bool false)], args := [d] }
  | _ => none }
def PlacesWrongFalsely : Prop := placesRow.holds Try.pinned (OpenSpec.ofChange placesWrong)

/-- 'rackkeep.Ordered': WHATEVER THE INPUT: true; the input reads as it did. -/
def orderedSpec : ChangeSpec := { name := "ordered", fn := fun _ => fun
  | [d1, d2] => { results := [.lit (.bool true)], args := [d1, d2] }
  | _ => none }
def orderedRow : OpenClaim := { program := "ytdlhgbhaeedbdaa", sum := "dba5869b3048cc5d10f4be340c05a9562998cb6c8be7b7f7a601b326894d3560", func := "rack/rackkeep.Ordered", spec := "ordered", apart := false }
def OrderedSaid : Prop := orderedRow.holds Try.pinned (OpenSpec.ofChange orderedSpec)

/-- ITS FALSE NEIGHBOUR: 'it returns false'. Refute it at one input. -/
def orderedWrong : ChangeSpec := { name := "ordered", fn := fun _ => fun
  | [d1, d2] => { results := [.lit (.bool false)], args := [d1, d2] }
  | _ => none }
def OrderedWrongFalsely : Prop := orderedRow.holds Try.pinned (OpenSpec.ofChange orderedWrong)

/-- 'rackkeep.Arrives': WHATEVER THE INPUT: true; the input reads as it did. -/
def arrivesSpec : ChangeSpec := { name := "arrives", fn := fun _ => fun
  | [d1, d2] => { results := [.lit (.bool true)], args := [d1, d2] }
  | _ => none }
def arrivesRow : OpenClaim := { program := "ytdlhgbhaeedbdaa", sum := "dba5869b3048cc5d10f4be340c05a9562998cb6c8be7b7f7a601b326894d3560", func := "rack/rackkeep.Arrives", spec := "arrives", apart := false }
def ArrivesSaid : Prop := arrivesRow.holds Try.pinned (OpenSpec.ofChange arrivesSpec)

/-- ITS FALSE NEIGHBOUR: 'it returns false'. Refute it at one input. -/
def arrivesWrong : ChangeSpec := { name := "arrives", fn := fun _ => fun
  | [d1, d2] => { results := [.lit (.bool false)], args := [d1, d2] }
  | _ => none }
def ArrivesWrongFalsely : Prop := arrivesRow.holds Try.pinned (OpenSpec.ofChange arrivesWrong)

/-- 'rackkeep.Backwards': WHATEVER THE INPUT: true; the input reads as it did. -/
def backwardsSpec : ChangeSpec := { name := "backwards", fn := fun _ => fun
  | [d1, d2, d3] => { results := [.lit (.bool true)], args := [d1, d2, d3] }
  | _ => none }
def backwardsRow : OpenClaim := { program := "ytdlhgbhaeedbdaa", sum := "dba5869b3048cc5d10f4be340c05a9562998cb6c8be7b7f7a601b326894d3560", func := "rack/rackkeep.Backwards", spec := "backwards", apart := false }
def BackwardsSaid : Prop := backwardsRow.holds Try.pinned (OpenSpec.ofChange backwardsSpec)

/-- ITS FALSE NEIGHBOUR: 'it returns false'. Refute it at one input. -/
def backwardsWrong : ChangeSpec := { name := "backwards", fn := fun _ => fun
  | [d1, d2, d3] => { results := [.lit (.bool false)], args := [d1, d2, d3] }
  | _ => none }
def BackwardsWrongFalsely : Prop := backwardsRow.holds Try.pinned (OpenSpec.ofChange backwardsWrong)

/-- 'rackkeep.Sparing': WHATEVER THE INPUT: true; the input reads as it did. -/
def sparingSpec : ChangeSpec := { name := "sparing", fn := fun _ => fun
  | [d1, d2] => { results := [.lit (.bool true)], args := [d1, d2] }
  | _ => none }
def sparingRow : OpenClaim := { program := "ytdlhgbhaeedbdaa", sum := "dba5869b3048cc5d10f4be340c05a9562998cb6c8be7b7f7a601b326894d3560", func := "rack/rackkeep.Sparing", spec := "sparing", recurses := true, apart := false }
def SparingSaid : Prop := sparingRow.holds Try.pinned (OpenSpec.ofChange sparingSpec)

/-- ITS FALSE NEIGHBOUR: 'it returns false'. Refute it at one input. -/
def sparingWrong : ChangeSpec := { name := "sparing", fn := fun _ => fun
  | [d1, d2] => { results := [.lit (.bool false)], args := [d1, d2] }
  | _ => none }
def SparingWrongFalsely : Prop := sparingRow.holds Try.pinned (OpenSpec.ofChange sparingWrong)

/-- 'rackkeep.Whole': WHATEVER THE INPUT: true; the input reads as it did. -/
def wholeSpec : ChangeSpec := { name := "whole", fn := fun _ => fun
  | [d1, d2] => { results := [.lit (.bool true)], args := [d1, d2] }
  | _ => none }
def wholeRow : OpenClaim := { program := "ytdlhgbhaeedbdaa", sum := "dba5869b3048cc5d10f4be340c05a9562998cb6c8be7b7f7a601b326894d3560", func := "rack/rackkeep.Whole", spec := "whole", apart := false }
def WholeSaid : Prop := wholeRow.holds Try.pinned (OpenSpec.ofChange wholeSpec)

/-- ITS FALSE NEIGHBOUR: 'it returns false'. Refute it at one input. -/
def wholeWrong : ChangeSpec := { name := "whole", fn := fun _ => fun
  | [d1, d2] => { results := [.lit (.bool false)], args := [d1, d2] }
  | _ => none }
def WholeWrongFalsely : Prop := wholeRow.holds Try.pinned (OpenSpec.ofChange wholeWrong)

/- THE SECOND FORM. 'bulk': how many values and letters a reading holds, each counted each time it is reached (what is shared counts as often as it is met; a slice's spare places count too). A statement '..UptoSaid' is the law's where the arguments, and the package variables that the reading takes, are together of bulk at most 1048576: NARROWER than '..Said'. Prove '..Said' where nothing that the law and all that it calls make is longer than what came in: it says more and counts as full. Else prove '..UptoSaid'. A law counts once. -/
mutual
def uptoBulk {H : Type} : DataW H → Nat
  | .lit (.string bytes) => bytes.length + 1
  | .lit _ => 1
  | .nil => 1
  | .ptr d => uptoBulk d + 1
  | .slice elems spare => uptoBulkAll elems + uptoBulkAll spare + 1
  | .agg parts => uptoBulkAll parts + 1
  | .iface _ d => uptoBulk d + 1
  | .map entries => uptoBulkEntries entries + 1
  | .held _ => 1
def uptoBulkAll {H : Type} : List (DataW H) → Nat
  | [] => 0
  | d :: r => uptoBulk d + uptoBulkAll r
def uptoBulkEntries {H : Type} : List (Lit × DataW H) → Nat
  | [] => 0
  | x :: r => uptoBulkEntry x + uptoBulkEntries r
def uptoBulkEntry {H : Type} : Lit × DataW H → Nat
  | (.string bytes, d) => bytes.length + uptoBulk d + 1
  | (_, d) => uptoBulk d + 1
 end
def uptoSmall : (H : Type) → List (DataW H) → Bool := fun _ ds => decide (uptoBulkAll ds ≤ 1048576)
def OpenSpec.upto (s : _root_.Go.ChangeSpec) : _root_.Go.OpenSpec := { _root_.Go.OpenSpec.ofChange s with cond := some uptoSmall }

/-- 'racklaw.Devices', WHERE WHAT IT READS IS OF BULK AT MOST 1048576: true; the input reads as it did. -/
def devicesUptoRow : OpenClaim := { program := "ytdlhgbhaeedbdaa", sum := "dba5869b3048cc5d10f4be340c05a9562998cb6c8be7b7f7a601b326894d3560", func := "rack/racklaw.Devices", spec := "devices", apart := false, narrowed := true }
def DevicesUptoSaid : Prop := devicesUptoRow.holds Try.pinned (OpenSpec.upto devicesSpec)

/-- 'rackkeep.Places', WHERE WHAT IT READS IS OF BULK AT MOST 1048576: true; the input reads as it did. -/
def placesUptoRow : OpenClaim := { program := "ytdlhgbhaeedbdaa", sum := "dba5869b3048cc5d10f4be340c05a9562998cb6c8be7b7f7a601b326894d3560", func := "rack/rackkeep.Places", spec := "places", apart := false, narrowed := true }
def PlacesUptoSaid : Prop := placesUptoRow.holds Try.pinned (OpenSpec.upto placesSpec)

/-- 'rackkeep.Ordered', WHERE WHAT IT READS IS OF BULK AT MOST 1048576: true; the input reads as it did. -/
def orderedUptoRow : OpenClaim := { program := "ytdlhgbhaeedbdaa", sum := "dba5869b3048cc5d10f4be340c05a9562998cb6c8be7b7f7a601b326894d3560", func := "rack/rackkeep.Ordered", spec := "ordered", apart := false, narrowed := true }
def OrderedUptoSaid : Prop := orderedUptoRow.holds Try.pinned (OpenSpec.upto orderedSpec)

/-- 'rackkeep.Arrives', WHERE WHAT IT READS IS OF BULK AT MOST 1048576: true; the input reads as it did. -/
def arrivesUptoRow : OpenClaim := { program := "ytdlhgbhaeedbdaa", sum := "dba5869b3048cc5d10f4be340c05a9562998cb6c8be7b7f7a601b326894d3560", func := "rack/rackkeep.Arrives", spec := "arrives", apart := false, narrowed := true }
def ArrivesUptoSaid : Prop := arrivesUptoRow.holds Try.pinned (OpenSpec.upto arrivesSpec)

/-- 'rackkeep.Backwards', WHERE WHAT IT READS IS OF BULK AT MOST 1048576: true; the input reads as it did. -/
def backwardsUptoRow : OpenClaim := { program := "ytdlhgbhaeedbdaa", sum := "dba5869b3048cc5d10f4be340c05a9562998cb6c8be7b7f7a601b326894d3560", func := "rack/rackkeep.Backwards", spec := "backwards", apart := false, narrowed := true }
def BackwardsUptoSaid : Prop := backwardsUptoRow.holds Try.pinned (OpenSpec.upto backwardsSpec)

/-- 'rackkeep.Sparing', WHERE WHAT IT READS IS OF BULK AT MOST 1048576: true; the input reads as it did. -/
def sparingUptoRow : OpenClaim := { program := "ytdlhgbhaeedbdaa", sum := "dba5869b3048cc5d10f4be340c05a9562998cb6c8be7b7f7a601b326894d3560", func := "rack/rackkeep.Sparing", spec := "sparing", recurses := true, apart := false, narrowed := true }
def SparingUptoSaid : Prop := sparingUptoRow.holds Try.pinned (OpenSpec.upto sparingSpec)

/-- 'rackkeep.Whole', WHERE WHAT IT READS IS OF BULK AT MOST 1048576: true; the input reads as it did. -/
def wholeUptoRow : OpenClaim := { program := "ytdlhgbhaeedbdaa", sum := "dba5869b3048cc5d10f4be340c05a9562998cb6c8be7b7f7a601b326894d3560", func := "rack/rackkeep.Whole", spec := "whole", apart := false, narrowed := true }
def WholeUptoSaid : Prop := wholeUptoRow.holds Try.pinned (OpenSpec.upto wholeSpec)

end Rows
end Go.Proofs.Ytdlhgbhaeedbdaa
