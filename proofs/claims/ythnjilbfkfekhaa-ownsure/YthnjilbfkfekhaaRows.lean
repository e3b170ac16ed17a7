/-
  No cell of these rows narrows 'for every input' (looked for: loops, veiled, ifaces, maps, wideKeys, modest, calm, conditions, laid).
  DERIVED. THE GIVEN ROWS OF THIS SEAT. 7 by the template 'for every input the law returns true; each argument reads behind the call as it read before'; 0 by the template 'total and deterministic' (their statements: YthnjilbfkfekhaaTotals.lean).
  GIVEN WITH THE SEED: the statements are not yours to turn. If you find one false, say at which input.
  Laid BY PROGRAM, IN A SANDBOX (cutbox-rows.mjs): the forced cells as the released guide's own fill.sh prints them over the translation d7b82434f0ea0e3c… (all of the seat's roots in one cut). By AI agents, Wed Nov 11 2026. No macro, syntax, notation, axiom, sorry.
-/
import Derived.Test.YthnjilbfkfekhaaChecked
import GoSem.Claim
import GoSem.ClaimJoined
import GoSem.ClaimMapViews
import Derived.JoinedTies
import Derived.KernelRfl
namespace Go.Proofs.Ythnjilbfkfekhaa
/- THE CELL 'sum', in the pinned program and in every row, IS THE sha256 OF THE DUMP (.gsa) THAT YthnjilbfkfekhaaProg.lean LOADS. Nothing in Lean hashes anything: it is a label: what it is worth is what the hold of that sum in a sandbox is worth. -/
noncomputable def Try.pinned : Pinned := { name := "ythnjilbfkfekhaa", sum := "d7b82434f0ea0e3c9d8e4c489009de42aa46b0eac954be077e7bf9a6923e9260", checked := Try.checked }
namespace Rows
def none {H : Type} : Left H := { results := [], args := [] }

/-- 'baliselaw12.OwnNext': WHATEVER THE INPUT: true; the input reads as it did. -/
def ownNextSpec : ChangeSpec := { name := "ownNext", fn := fun _ => fun
  | [d1, d2] => { results := [.lit (.bool true)], args := [d1, d2] }
  | _ => none }
def ownNextRow : OpenClaim := { program := "ythnjilbfkfekhaa", sum := "d7b82434f0ea0e3c9d8e4c489009de42aa46b0eac954be077e7bf9a6923e9260", func := "balise/baliselaw12.OwnNext", spec := "ownNext", unfollowed := true, recurses := true, apart := false }
def OwnNextSaid : Prop := ownNextRow.holds Try.pinned (OpenSpec.ofChange ownNextSpec)

/-- ITS FALSE NEIGHBOUR: 'it returns false'. Refute it at one input. -/
def ownNextWrong : ChangeSpec := { name := "ownNext", fn := fun _ => fun
  | [d1, d2] => { results := [.lit (.bool false)], args := [d1, d2] }
  | _ => none }
def OwnNextWrongFalsely : Prop := ownNextRow.holds Try.pinned (OpenSpec.ofChange ownNextWrong)

/-- 'baliselaw12.OwnRuns': WHATEVER THE INPUT: true; the input reads as it did. -/
def ownRunsSpec : ChangeSpec := { name := "ownRuns", fn := fun _ => fun
  | [d1, d2, d3] => { results := [.lit (.bool true)], args := [d1, d2, d3] }
  | _ => none }
def ownRunsRow : OpenClaim := { program := "ythnjilbfkfekhaa", sum := "d7b82434f0ea0e3c9d8e4c489009de42aa46b0eac954be077e7bf9a6923e9260", func := "balise/baliselaw12.OwnRuns", spec := "ownRuns", unfollowed := true, recurses := true, apart := false }
def OwnRunsSaid : Prop := ownRunsRow.holds Try.pinned (OpenSpec.ofChange ownRunsSpec)

/-- ITS FALSE NEIGHBOUR: 'it returns false'. Refute it at one input. -/
def ownRunsWrong : ChangeSpec := { name := "ownRuns", fn := fun _ => fun
  | [d1, d2, d3] => { results := [.lit (.bool false)], args := [d1, d2, d3] }
  | _ => none }
def OwnRunsWrongFalsely : Prop := ownRunsRow.holds Try.pinned (OpenSpec.ofChange ownRunsWrong)

/-- 'baliselaw12.OwnSure': WHATEVER THE INPUT: true; the input reads as it did. -/
def ownSureSpec : ChangeSpec := { name := "ownSure", fn := fun _ => fun
  | [d1, d2] => { results := [.lit (.bool true)], args := [d1, d2] }
  | _ => none }
def ownSureRow : OpenClaim := { program := "ythnjilbfkfekhaa", sum := "d7b82434f0ea0e3c9d8e4c489009de42aa46b0eac954be077e7bf9a6923e9260", func := "balise/baliselaw12.OwnSure", spec := "ownSure", unfollowed := true, recurses := true, apart := false }
def OwnSureSaid : Prop := ownSureRow.holds Try.pinned (OpenSpec.ofChange ownSureSpec)

/-- ITS FALSE NEIGHBOUR: 'it returns false'. Refute it at one input. -/
def ownSureWrong : ChangeSpec := { name := "ownSure", fn := fun _ => fun
  | [d1, d2] => { results := [.lit (.bool false)], args := [d1, d2] }
  | _ => none }
def OwnSureWrongFalsely : Prop := ownSureRow.holds Try.pinned (OpenSpec.ofChange ownSureWrong)

/-- 'baliselaw12.OwnDeclares': WHATEVER THE INPUT: true; the input reads as it did. -/
def ownDeclaresSpec : ChangeSpec := { name := "ownDeclares", fn := fun _ => fun
  | [d1, d2, d3, d4, d5] => { results := [.lit (.bool true)], args := [d1, d2, d3, d4, d5] }
  | _ => none }
def ownDeclaresRow : OpenClaim := { program := "ythnjilbfkfekhaa", sum := "d7b82434f0ea0e3c9d8e4c489009de42aa46b0eac954be077e7bf9a6923e9260", func := "balise/baliselaw12.OwnDeclares", spec := "ownDeclares", unfollowed := true, recurses := true, apart := false }
def OwnDeclaresSaid : Prop := ownDeclaresRow.holds Try.pinned (OpenSpec.ofChange ownDeclaresSpec)

/-- ITS FALSE NEIGHBOUR: 'it returns false'. Refute it at one input. -/
def ownDeclaresWrong : ChangeSpec := { name := "ownDeclares", fn := fun _ => fun
  | [d1, d2, d3, d4, d5] => { results := [.lit (.bool false)], args := [d1, d2, d3, d4, d5] }
  | _ => none }
def OwnDeclaresWrongFalsely : Prop := ownDeclaresRow.holds Try.pinned (OpenSpec.ofChange ownDeclaresWrong)

/-- 'baliselaw12.OwnStarts': WHATEVER THE INPUT: true; the input reads as it did. -/
def ownStartsSpec : ChangeSpec := { name := "ownStarts", fn := fun _ => fun
  | [d1, d2, d3] => { results := [.lit (.bool true)], args := [d1, d2, d3] }
  | _ => none }
def ownStartsRow : OpenClaim := { program := "ythnjilbfkfekhaa", sum := "d7b82434f0ea0e3c9d8e4c489009de42aa46b0eac954be077e7bf9a6923e9260", func := "balise/baliselaw12.OwnStarts", spec := "ownStarts", unfollowed := true, recurses := true, apart := false }
def OwnStartsSaid : Prop := ownStartsRow.holds Try.pinned (OpenSpec.ofChange ownStartsSpec)

/-- ITS FALSE NEIGHBOUR: 'it returns false'. Refute it at one input. -/
def ownStartsWrong : ChangeSpec := { name := "ownStarts", fn := fun _ => fun
  | [d1, d2, d3] => { results := [.lit (.bool false)], args := [d1, d2, d3] }
  | _ => none }
def OwnStartsWrongFalsely : Prop := ownStartsRow.holds Try.pinned (OpenSpec.ofChange ownStartsWrong)

/-- 'baliselaw12.OwnFinds': WHATEVER THE INPUT: true; the input reads as it did. -/
def ownFindsSpec : ChangeSpec := { name := "ownFinds", fn := fun _ => fun
  | [d1, d2] => { results := [.lit (.bool true)], args := [d1, d2] }
  | _ => none }
def ownFindsRow : OpenClaim := { program := "ythnjilbfkfekhaa", sum := "d7b82434f0ea0e3c9d8e4c489009de42aa46b0eac954be077e7bf9a6923e9260", func := "balise/baliselaw12.OwnFinds", spec := "ownFinds", unfollowed := true, recurses := true, apart := false }
def OwnFindsSaid : Prop := ownFindsRow.holds Try.pinned (OpenSpec.ofChange ownFindsSpec)

/-- ITS FALSE NEIGHBOUR: 'it returns false'. Refute it at one input. -/
def ownFindsWrong : ChangeSpec := { name := "ownFinds", fn := fun _ => fun
  | [d1, d2] => { results := [.lit (.bool false)], args := [d1, d2] }
  | _ => none }
def OwnFindsWrongFalsely : Prop := ownFindsRow.holds Try.pinned (OpenSpec.ofChange ownFindsWrong)

/-- 'baliselaw12.OwnClear': WHATEVER THE INPUT: true; the input reads as it did. -/
def ownClearSpec : ChangeSpec := { name := "ownClear", fn := fun _ => fun
  | [d1, d2] => { results := [.lit (.bool true)], args := [d1, d2] }
  | _ => none }
def ownClearRow : OpenClaim := { program := "ythnjilbfkfekhaa", sum := "d7b82434f0ea0e3c9d8e4c489009de42aa46b0eac954be077e7bf9a6923e9260", func := "balise/baliselaw12.OwnClear", spec := "ownClear", unfollowed := true, recurses := true, apart := false }
def OwnClearSaid : Prop := ownClearRow.holds Try.pinned (OpenSpec.ofChange ownClearSpec)

/-- ITS FALSE NEIGHBOUR: 'it returns false'. Refute it at one input. -/
def ownClearWrong : ChangeSpec := { name := "ownClear", fn := fun _ => fun
  | [d1, d2] => { results := [.lit (.bool false)], args := [d1, d2] }
  | _ => none }
def OwnClearWrongFalsely : Prop := ownClearRow.holds Try.pinned (OpenSpec.ofChange ownClearWrong)

/- THE SECOND FORM. 'bulk': how many values and letters a reading holds, each counted each time it is reached (what is shared counts as often as it is met; a slice's spare places count too). A statement '..UptoSaid' is the law's where the arguments, and the package variables that the reading takes, are together of bulk at most 1048576: NARROWER than '..Said'. Prove '..Said' where nothing that the law and all that it calls make is longer than what came in: it says more and counts as full. Else prove '..UptoSaid'. A law counts once. -/
mutual
def uptoBulk {H : Type} : DataW H → Nat
  | .lit (.string bytes) => bytes.length + 1
  | .lit _ => 1
  | .nil => 1
  | .ptr d => uptoBulk d + 1
  | .slice elems spare => uptoBulkAll elems + uptoBulkAll spare + 1
  | .agg parts => uptoBulkAll parts + 1
  | .iface _ d => uptoBulk d + 1
  | .map entries => uptoBulkEntries entries + 1
  | .held _ => 1
def uptoBulkAll {H : Type} : List (DataW H) → Nat
  | [] => 0
  | d :: r => uptoBulk d + uptoBulkAll r
def uptoBulkEntries {H : Type} : List (Lit × DataW H) → Nat
  | [] => 0
  | x :: r => uptoBulkEntry x + uptoBulkEntries r
def uptoBulkEntry {H : Type} : Lit × DataW H → Nat
  | (.string bytes, d) => bytes.length + uptoBulk d + 1
  | (_, d) => uptoBulk d + 1
 end
def uptoSmall : (H : Type) → List (DataW H) → Bool := fun _ ds => decide (uptoBulkAll ds ≤ 1048576)
def OpenSpec.upto (s : _root_.Go.ChangeSpec) : _root_.Go.OpenSpec := { _root_.Go.OpenSpec.ofChange s with cond := some uptoSmall }

/-- 'baliselaw12.OwnNext', WHERE WHAT IT READS IS OF BULK AT MOST 1048576: true; the input reads as it did. -/
def ownNextUptoRow : OpenClaim := { program := "ythnjilbfkfekhaa", sum := "d7b82434f0ea0e3c9d8e4c489009de42aa46b0eac954be077e7bf9a6923e9260", func := "balise/baliselaw12.OwnNext", spec := "ownNext", unfollowed := true, recurses := true, apart := false, narrowed := true }
def OwnNextUptoSaid : Prop := ownNextUptoRow.holds Try.pinned (OpenSpec.upto ownNextSpec)

/-- 'baliselaw12.OwnRuns', WHERE WHAT IT READS IS OF BULK AT MOST 1048576: true; the input reads as it did. -/
def ownRunsUptoRow : OpenClaim := { program := "ythnjilbfkfekhaa", sum := "d7b82434f0ea0e3c9d8e4c489009de42aa46b0eac954be077e7bf9a6923e9260", func := "balise/baliselaw12.OwnRuns", spec := "ownRuns", unfollowed := true, recurses := true, apart := false, narrowed := true }
def OwnRunsUptoSaid : Prop := ownRunsUptoRow.holds Try.pinned (OpenSpec.upto ownRunsSpec)

/-- 'baliselaw12.OwnSure', WHERE WHAT IT READS IS OF BULK AT MOST 1048576: true; the input reads as it did. -/
def ownSureUptoRow : OpenClaim := { program := "ythnjilbfkfekhaa", sum := "d7b82434f0ea0e3c9d8e4c489009de42aa46b0eac954be077e7bf9a6923e9260", func := "balise/baliselaw12.OwnSure", spec := "ownSure", unfollowed := true, recurses := true, apart := false, narrowed := true }
def OwnSureUptoSaid : Prop := ownSureUptoRow.holds Try.pinned (OpenSpec.upto ownSureSpec)

/-- 'baliselaw12.OwnDeclares', WHERE WHAT IT READS IS OF BULK AT MOST 1048576: true; the input reads as it did. -/
def ownDeclaresUptoRow : OpenClaim := { program := "ythnjilbfkfekhaa", sum := "d7b82434f0ea0e3c9d8e4c489009de42aa46b0eac954be077e7bf9a6923e9260", func := "balise/baliselaw12.OwnDeclares", spec := "ownDeclares", unfollowed := true, recurses := true, apart := false, narrowed := true }
def OwnDeclaresUptoSaid : Prop := ownDeclaresUptoRow.holds Try.pinned (OpenSpec.upto ownDeclaresSpec)

/-- 'baliselaw12.OwnStarts', WHERE WHAT IT READS IS OF BULK AT MOST 1048576: true; the input reads as it did. -/
def ownStartsUptoRow : OpenClaim := { program := "ythnjilbfkfekhaa", sum := "d7b82434f0ea0e3c9d8e4c489009de42aa46b0eac954be077e7bf9a6923e9260", func := "balise/baliselaw12.OwnStarts", spec := "ownStarts", unfollowed := true, recurses := true, apart := false, narrowed := true }
def OwnStartsUptoSaid : Prop := ownStartsUptoRow.holds Try.pinned (OpenSpec.upto ownStartsSpec)

/-- 'baliselaw12.OwnFinds', WHERE WHAT IT READS IS OF BULK AT MOST 1048576: true; the input reads as it did. -/
def ownFindsUptoRow : OpenClaim := { program := "ythnjilbfkfekhaa", sum := "d7b82434f0ea0e3c9d8e4c489009de42aa46b0eac954be077e7bf9a6923e9260", func := "balise/baliselaw12.OwnFinds", spec := "ownFinds", unfollowed := true, recurses := true, apart := false, narrowed := true }
def OwnFindsUptoSaid : Prop := ownFindsUptoRow.holds Try.pinned (OpenSpec.upto ownFindsSpec)

/-- 'baliselaw12.OwnClear', WHERE WHAT IT READS IS OF BULK AT MOST 1048576: true; the input reads as it did. -/
def ownClearUptoRow : OpenClaim := { program := "ythnjilbfkfekhaa", sum := "d7b82434f0ea0e3c9d8e4c489009de42aa46b0eac954be077e7bf9a6923e9260", func := "balise/baliselaw12.OwnClear", spec := "ownClear", unfollowed := true, recurses := true, apart := false, narrowed := true }
def OwnClearUptoSaid : Prop := ownClearUptoRow.holds Try.pinned (OpenSpec.upto ownClearSpec)

end Rows
end Go.Proofs.Ythnjilbfkfekhaa
