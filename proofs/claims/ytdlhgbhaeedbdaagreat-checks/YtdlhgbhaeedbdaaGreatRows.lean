/-
  No cell of these rows narrows 'for every input' (looked for: loops, veiled, ifaces, maps, wideKeys, modest, calm, conditions, laid).
  DERIVED. THE GIVEN ROWS OF THIS SEAT. 5 by the template 'for every input the law returns true; each argument reads behind the call as it read before'; 0 by the template 'total and deterministic' (their statements: YtdlhgbhaeedbdaaGreatTotals.lean).
  GIVEN WITH THE SEED: the statements are not yours to turn. If you find one false, say at which input.
  Laid BY PROGRAM, IN A SANDBOX (cutbox-rows.mjs): the forced cells as the released guide's own fill.sh prints them over the translation 60236a2bdbcea0a2… (all of the seat's roots in one cut). By AI agents, Wed Nov 11 2026. No macro, syntax, notation, axiom, sorry.
-/
import Derived.Test.YtdlhgbhaeedbdaaGreatChecked
import GoSem.Claim
import GoSem.ClaimJoined
import GoSem.ClaimMapViews
import Derived.JoinedTies
import Derived.KernelRfl
namespace Go.Proofs.YtdlhgbhaeedbdaaGreat
/- THE CELL 'sum', in the pinned program and in every row, IS THE sha256 OF THE DUMP (.gsa) THAT YtdlhgbhaeedbdaaGreatProg.lean LOADS. Nothing in Lean hashes anything: it is a label: what it is worth is what the hold of that sum in a sandbox is worth. -/
noncomputable def Tryz.pinned : Pinned := { name := "ytdlhgbhaeedbdaagreat", sum := "60236a2bdbcea0a2e050347cd7e4765dec5d9015c76640ef88cbaeaba7bed853", checked := Tryz.checked }
namespace Rows
def none {H : Type} : Left H := { results := [], args := [] }

/-- 'racklaw.Checks': WHATEVER THE INPUT: true; the input reads as it did. -/
def checksSpec : ChangeSpec := { name := "checks", fn := fun _ => fun
  | [d] => { results := [.lit (.bool true)], args := [d] }
  | _ => none }
def checksRow : OpenClaim := { program := "ytdlhgbhaeedbdaagreat", sum := "60236a2bdbcea0a2e050347cd7e4765dec5d9015c76640ef88cbaeaba7bed853", func := "rack/racklaw.Checks", spec := "checks", apart := false }
def ChecksSaid : Prop := checksRow.holds Tryz.pinned (OpenSpec.ofChange checksSpec)

/-- ITS FALSE NEIGHBOUR: 'it returns false'. Refute it at one input. -/
def checksWrong : ChangeSpec := { name := "checks", fn := fun _ => fun
  | [d] => { results := [.lit (.bool false)], args := [d] }
  | _ => none }
def ChecksWrongFalsely : Prop := checksRow.holds Tryz.pinned (OpenSpec.ofChange checksWrong)

/-- 'racklaw.Prints': WHATEVER THE INPUT: true; the input reads as it did. -/
def printsSpec : ChangeSpec := { name := "prints", fn := fun _ => fun
  | [d] => { results := [.lit (.bool true)], args := [d] }
  | _ => none }
def printsRow : OpenClaim := { program := "ytdlhgbhaeedbdaagreat", sum := "60236a2bdbcea0a2e050347cd7e4765dec5d9015c76640ef88cbaeaba7bed853", func := "rack/racklaw.Prints", spec := "prints", apart := false }
def PrintsSaid : Prop := printsRow.holds Tryz.pinned (OpenSpec.ofChange printsSpec)

/-- ITS FALSE NEIGHBOUR: 'it returns false'. Refute it at one input. -/
def printsWrong : ChangeSpec := { name := "prints", fn := fun _ => fun
  | [d] => { results := [.lit (.bool false)], args := [d] }
  | _ => none }
def PrintsWrongFalsely : Prop := printsRow.holds Tryz.pinned (OpenSpec.ofChange printsWrong)

/-- 'racklaw.Plans': WHATEVER THE INPUT: true; the input reads as it did. -/
def plansSpec : ChangeSpec := { name := "plans", fn := fun _ => fun
  | [d] => { results := [.lit (.bool true)], args := [d] }
  | _ => none }
def plansRow : OpenClaim := { program := "ytdlhgbhaeedbdaagreat", sum := "60236a2bdbcea0a2e050347cd7e4765dec5d9015c76640ef88cbaeaba7bed853", func := "rack/racklaw.Plans", spec := "plans", apart := false }
def PlansSaid : Prop := plansRow.holds Tryz.pinned (OpenSpec.ofChange plansSpec)

/-- ITS FALSE NEIGHBOUR: 'it returns false'. Refute it at one input. -/
def plansWrong : ChangeSpec := { name := "plans", fn := fun _ => fun
  | [d] => { results := [.lit (.bool false)], args := [d] }
  | _ => none }
def PlansWrongFalsely : Prop := plansRow.holds Tryz.pinned (OpenSpec.ofChange plansWrong)

/-- 'racklaw.Walks': WHATEVER THE INPUT: true; the input reads as it did. -/
def walksSpec : ChangeSpec := { name := "walks", fn := fun _ => fun
  | [d] => { results := [.lit (.bool true)], args := [d] }
  | _ => none }
def walksRow : OpenClaim := { program := "ytdlhgbhaeedbdaagreat", sum := "60236a2bdbcea0a2e050347cd7e4765dec5d9015c76640ef88cbaeaba7bed853", func := "rack/racklaw.Walks", spec := "walks", apart := false }
def WalksSaid : Prop := walksRow.holds Tryz.pinned (OpenSpec.ofChange walksSpec)

/-- ITS FALSE NEIGHBOUR: 'it returns false'. Refute it at one input. -/
def walksWrong : ChangeSpec := { name := "walks", fn := fun _ => fun
  | [d] => { results := [.lit (.bool false)], args := [d] }
  | _ => none }
def WalksWrongFalsely : Prop := walksRow.holds Tryz.pinned (OpenSpec.ofChange walksWrong)

/-- 'racklaw.Racks': WHATEVER THE INPUT: true; the input reads as it did. -/
def racksSpec : ChangeSpec := { name := "racks", fn := fun _ => fun
  | [d] => { results := [.lit (.bool true)], args := [d] }
  | _ => none }
def racksRow : OpenClaim := { program := "ytdlhgbhaeedbdaagreat", sum := "60236a2bdbcea0a2e050347cd7e4765dec5d9015c76640ef88cbaeaba7bed853", func := "rack/racklaw.Racks", spec := "racks", apart := false }
def RacksSaid : Prop := racksRow.holds Tryz.pinned (OpenSpec.ofChange racksSpec)

/-- ITS FALSE NEIGHBOUR: 'it returns false'. Refute it at one input. -/
def racksWrong : ChangeSpec := { name := "racks", fn := fun _ => fun
  | [d] => { results := [.lit (.bool false)], args := [d] }
  | _ => none }
def RacksWrongFalsely : Prop := racksRow.holds Tryz.pinned (OpenSpec.ofChange racksWrong)

/- THE SECOND FORM. 'bulk': how many values and letters a reading holds, each counted each time it is reached (what is shared counts as often as it is met; a slice's spare places count too). A statement '..UptoSaid' is the law's where the arguments, and the package variables that the reading takes, are together of bulk at most 1048576: NARROWER than '..Said'. Prove '..Said' where nothing that the law and all that it calls make is longer than what came in: it says more and counts as full. Else prove '..UptoSaid'. A law counts once. -/
mutual
def uptoBulk {H : Type} : DataW H → Nat
  | .lit (.string bytes) => bytes.length + 1
  | .lit _ => 1
  | .nil => 1
  | .ptr d => uptoBulk d + 1
  | .slice elems spare => uptoBulkAll elems + uptoBulkAll spare + 1
  | .agg parts => uptoBulkAll parts + 1
  | .iface _ d => uptoBulk d + 1
  | .map entries => uptoBulkEntries entries + 1
  | .held _ => 1
def uptoBulkAll {H : Type} : List (DataW H) → Nat
  | [] => 0
  | d :: r => uptoBulk d + uptoBulkAll r
def uptoBulkEntries {H : Type} : List (Lit × DataW H) → Nat
  | [] => 0
  | x :: r => uptoBulkEntry x + uptoBulkEntries r
def uptoBulkEntry {H : Type} : Lit × DataW H → Nat
  | (.string bytes, d) => bytes.length + uptoBulk d + 1
  | (_, d) => uptoBulk d + 1
 end
def uptoSmall : (H : Type) → List (DataW H) → Bool := fun _ ds => decide (uptoBulkAll ds ≤ 1048576)
def OpenSpec.upto (s : _root_.Go.ChangeSpec) : _root_.Go.OpenSpec := { _root_.Go.OpenSpec.ofChange s with cond := some uptoSmall }

/-- 'racklaw.Checks', WHERE WHAT IT READS IS OF BULK AT MOST 1048576: true; the input reads as it did. -/
def checksUptoRow : OpenClaim := { program := "ytdlhgbhaeedbdaagreat", sum := "60236a2bdbcea0a2e050347cd7e4765dec5d9015c76640ef88cbaeaba7bed853", func := "rack/racklaw.Checks", spec := "checks", apart := false, narrowed := true }
def ChecksUptoSaid : Prop := checksUptoRow.holds Tryz.pinned (OpenSpec.upto checksSpec)

/-- 'racklaw.Prints', WHERE WHAT IT READS IS OF BULK AT MOST 1048576: true; the input reads as it did. -/
def printsUptoRow : OpenClaim := { program := "ytdlhgbhaeedbdaagreat", sum := "60236a2bdbcea0a2e050347cd7e4765dec5d9015c76640ef88cbaeaba7bed853", func := "rack/racklaw.Prints", spec := "prints", apart := false, narrowed := true }
def PrintsUptoSaid : Prop := printsUptoRow.holds Tryz.pinned (OpenSpec.upto printsSpec)

/-- 'racklaw.Plans', WHERE WHAT IT READS IS OF BULK AT MOST 1048576: true; the input reads as it did. -/
def plansUptoRow : OpenClaim := { program := "ytdlhgbhaeedbdaagreat", sum := "60236a2bdbcea0a2e050347cd7e4765dec5d9015c76640ef88cbaeaba7bed853", func := "rack/racklaw.Plans", spec := "plans", apart := false, narrowed := true }
def PlansUptoSaid : Prop := plansUptoRow.holds Tryz.pinned (OpenSpec.upto plansSpec)

/-- 'racklaw.Walks', WHERE WHAT IT READS IS OF BULK AT MOST 1048576: true; the input reads as it did. -/
def walksUptoRow : OpenClaim := { program := "ytdlhgbhaeedbdaagreat", sum := "60236a2bdbcea0a2e050347cd7e4765dec5d9015c76640ef88cbaeaba7bed853", func := "rack/racklaw.Walks", spec := "walks", apart := false, narrowed := true }
def WalksUptoSaid : Prop := walksUptoRow.holds Tryz.pinned (OpenSpec.upto walksSpec)

/-- 'racklaw.Racks', WHERE WHAT IT READS IS OF BULK AT MOST 1048576: true; the input reads as it did. -/
def racksUptoRow : OpenClaim := { program := "ytdlhgbhaeedbdaagreat", sum := "60236a2bdbcea0a2e050347cd7e4765dec5d9015c76640ef88cbaeaba7bed853", func := "rack/racklaw.Racks", spec := "racks", apart := false, narrowed := true }
def RacksUptoSaid : Prop := racksUptoRow.holds Tryz.pinned (OpenSpec.upto racksSpec)

end Rows
end Go.Proofs.YtdlhgbhaeedbdaaGreat
