/-
  No cell of these rows narrows 'for every input' (looked for: loops, veiled, ifaces, maps, wideKeys, modest, calm, conditions, laid).
  DERIVED. THE GIVEN ROWS OF THIS SEAT. 5 by the template 'for every input the law returns true; each argument reads behind the call as it read before'; 0 by the template 'total and deterministic' (their statements: YtcigljjnopfohaaTotals.lean).
  GIVEN WITH THE SEED: the statements are not yours to turn. If you find one false, say at which input.
  Laid BY PROGRAM, IN A SANDBOX (cutbox-rows.mjs): the forced cells as the released guide's own fill.sh prints them over the translation 92dd0bf9e2d588dd… (all of the seat's roots in one cut). By AI agents, Wed Nov 11 2026. No macro, syntax, notation, axiom, sorry.
-/
import Derived.Test.YtcigljjnopfohaaChecked
import GoSem.Claim
import GoSem.ClaimJoined
import GoSem.ClaimMapViews
import Derived.JoinedTies
import Derived.KernelRfl
namespace Go.Proofs.Ytcigljjnopfohaa
/- THE CELL 'sum', in the pinned program and in every row, IS THE sha256 OF THE DUMP (.gsa) THAT YtcigljjnopfohaaProg.lean LOADS. Nothing in Lean hashes anything: it is a label: what it is worth is what the hold of that sum in a sandbox is worth. -/
noncomputable def Try.pinned : Pinned := { name := "ytcigljjnopfohaa", sum := "92dd0bf9e2d588dd609cd98d4a9e331d21278ffdb6e6817bbda069289ed0693c", checked := Try.checked }
namespace Rows
def none {H : Type} : Left H := { results := [], args := [] }

/-- 'ctrielaw06.BranchExact': WHATEVER THE INPUT: true; the input reads as it did. -/
def branchExactSpec : ChangeSpec := { name := "branchExact", fn := fun _ => fun
  | [d1, d2, d3, d4, d5] => { results := [.lit (.bool true)], args := [d1, d2, d3, d4, d5] }
  | _ => none }
def branchExactRow : OpenClaim := { program := "ytcigljjnopfohaa", sum := "92dd0bf9e2d588dd609cd98d4a9e331d21278ffdb6e6817bbda069289ed0693c", func := "ctrie/ctrielaw06.BranchExact", spec := "branchExact", unfollowed := true, recurses := true, apart := false }
def BranchExactSaid : Prop := branchExactRow.holds Try.pinned (OpenSpec.ofChange branchExactSpec)

/-- ITS FALSE NEIGHBOUR: 'it returns false'. Refute it at one input. -/
def branchExactWrong : ChangeSpec := { name := "branchExact", fn := fun _ => fun
  | [d1, d2, d3, d4, d5] => { results := [.lit (.bool false)], args := [d1, d2, d3, d4, d5] }
  | _ => none }
def BranchExactWrongFalsely : Prop := branchExactRow.holds Try.pinned (OpenSpec.ofChange branchExactWrong)

/-- 'ctrielaw06.BranchMaps': WHATEVER THE INPUT: true; the input reads as it did. -/
def branchMapsSpec : ChangeSpec := { name := "branchMaps", fn := fun _ => fun
  | [d1, d2, d3, d4] => { results := [.lit (.bool true)], args := [d1, d2, d3, d4] }
  | _ => none }
def branchMapsRow : OpenClaim := { program := "ytcigljjnopfohaa", sum := "92dd0bf9e2d588dd609cd98d4a9e331d21278ffdb6e6817bbda069289ed0693c", func := "ctrie/ctrielaw06.BranchMaps", spec := "branchMaps", unfollowed := true, recurses := true, apart := false }
def BranchMapsSaid : Prop := branchMapsRow.holds Try.pinned (OpenSpec.ofChange branchMapsSpec)

/-- ITS FALSE NEIGHBOUR: 'it returns false'. Refute it at one input. -/
def branchMapsWrong : ChangeSpec := { name := "branchMaps", fn := fun _ => fun
  | [d1, d2, d3, d4] => { results := [.lit (.bool false)], args := [d1, d2, d3, d4] }
  | _ => none }
def BranchMapsWrongFalsely : Prop := branchMapsRow.holds Try.pinned (OpenSpec.ofChange branchMapsWrong)

/-- 'ctrielaw06.BranchUndo': WHATEVER THE INPUT: true; the input reads as it did. -/
def branchUndoSpec : ChangeSpec := { name := "branchUndo", fn := fun _ => fun
  | [d1, d2, d3] => { results := [.lit (.bool true)], args := [d1, d2, d3] }
  | _ => none }
def branchUndoRow : OpenClaim := { program := "ytcigljjnopfohaa", sum := "92dd0bf9e2d588dd609cd98d4a9e331d21278ffdb6e6817bbda069289ed0693c", func := "ctrie/ctrielaw06.BranchUndo", spec := "branchUndo", unfollowed := true, recurses := true, apart := false }
def BranchUndoSaid : Prop := branchUndoRow.holds Try.pinned (OpenSpec.ofChange branchUndoSpec)

/-- ITS FALSE NEIGHBOUR: 'it returns false'. Refute it at one input. -/
def branchUndoWrong : ChangeSpec := { name := "branchUndo", fn := fun _ => fun
  | [d1, d2, d3] => { results := [.lit (.bool false)], args := [d1, d2, d3] }
  | _ => none }
def BranchUndoWrongFalsely : Prop := branchUndoRow.holds Try.pinned (OpenSpec.ofChange branchUndoWrong)

/-- 'ctrielaw06.BranchCommute': WHATEVER THE INPUT: true; the input reads as it did. -/
def branchCommuteSpec : ChangeSpec := { name := "branchCommute", fn := fun _ => fun
  | [d1, d2, d3, d4, d5] => { results := [.lit (.bool true)], args := [d1, d2, d3, d4, d5] }
  | _ => none }
def branchCommuteRow : OpenClaim := { program := "ytcigljjnopfohaa", sum := "92dd0bf9e2d588dd609cd98d4a9e331d21278ffdb6e6817bbda069289ed0693c", func := "ctrie/ctrielaw06.BranchCommute", spec := "branchCommute", unfollowed := true, recurses := true, apart := false }
def BranchCommuteSaid : Prop := branchCommuteRow.holds Try.pinned (OpenSpec.ofChange branchCommuteSpec)

/-- ITS FALSE NEIGHBOUR: 'it returns false'. Refute it at one input. -/
def branchCommuteWrong : ChangeSpec := { name := "branchCommute", fn := fun _ => fun
  | [d1, d2, d3, d4, d5] => { results := [.lit (.bool false)], args := [d1, d2, d3, d4, d5] }
  | _ => none }
def BranchCommuteWrongFalsely : Prop := branchCommuteRow.holds Try.pinned (OpenSpec.ofChange branchCommuteWrong)

/-- 'ctrielaw06.BranchValid': WHATEVER THE INPUT: true; the input reads as it did. -/
def branchValidSpec : ChangeSpec := { name := "branchValid", fn := fun _ => fun
  | [d1, d2, d3] => { results := [.lit (.bool true)], args := [d1, d2, d3] }
  | _ => none }
def branchValidRow : OpenClaim := { program := "ytcigljjnopfohaa", sum := "92dd0bf9e2d588dd609cd98d4a9e331d21278ffdb6e6817bbda069289ed0693c", func := "ctrie/ctrielaw06.BranchValid", spec := "branchValid", unfollowed := true, recurses := true, apart := false }
def BranchValidSaid : Prop := branchValidRow.holds Try.pinned (OpenSpec.ofChange branchValidSpec)

/-- ITS FALSE NEIGHBOUR: 'it returns false'. Refute it at one input. -/
def branchValidWrong : ChangeSpec := { name := "branchValid", fn := fun _ => fun
  | [d1, d2, d3] => { results := [.lit (.bool false)], args := [d1, d2, d3] }
  | _ => none }
def BranchValidWrongFalsely : Prop := branchValidRow.holds Try.pinned (OpenSpec.ofChange branchValidWrong)

/- THE SECOND FORM. 'bulk': how many values and letters a reading holds, each counted each time it is reached (what is shared counts as often as it is met; a slice's spare places count too). A statement '..UptoSaid' is the law's where the arguments, and the package variables that the reading takes, are together of bulk at most 1048576: NARROWER than '..Said'. Prove '..Said' where nothing that the law and all that it calls make is longer than what came in: it says more and counts as full. Else prove '..UptoSaid'. A law counts once. -/
mutual
def uptoBulk {H : Type} : DataW H → Nat
  | .lit (.string bytes) => bytes.length + 1
  | .lit _ => 1
  | .nil => 1
  | .ptr d => uptoBulk d + 1
  | .slice elems spare => uptoBulkAll elems + uptoBulkAll spare + 1
  | .agg parts => uptoBulkAll parts + 1
  | .iface _ d => uptoBulk d + 1
  | .map entries => uptoBulkEntries entries + 1
  | .held _ => 1
def uptoBulkAll {H : Type} : List (DataW H) → Nat
  | [] => 0
  | d :: r => uptoBulk d + uptoBulkAll r
def uptoBulkEntries {H : Type} : List (Lit × DataW H) → Nat
  | [] => 0
  | x :: r => uptoBulkEntry x + uptoBulkEntries r
def uptoBulkEntry {H : Type} : Lit × DataW H → Nat
  | (.string bytes, d) => bytes.length + uptoBulk d + 1
  | (_, d) => uptoBulk d + 1
 end
def uptoSmall : (H : Type) → List (DataW H) → Bool := fun _ ds => decide (uptoBulkAll ds ≤ 1048576)
def OpenSpec.upto (s : _root_.Go.ChangeSpec) : _root_.Go.OpenSpec := { _root_.Go.OpenSpec.ofChange s with cond := some uptoSmall }

/-- 'ctrielaw06.BranchExact', WHERE WHAT IT READS IS OF BULK AT MOST 1048576: true; the input reads as it did. -/
def branchExactUptoRow : OpenClaim := { program := "ytcigljjnopfohaa", sum := "92dd0bf9e2d588dd609cd98d4a9e331d21278ffdb6e6817bbda069289ed0693c", func := "ctrie/ctrielaw06.BranchExact", spec := "branchExact", unfollowed := true, recurses := true, apart := false, narrowed := true }
def BranchExactUptoSaid : Prop := branchExactUptoRow.holds Try.pinned (OpenSpec.upto branchExactSpec)

/-- 'ctrielaw06.BranchMaps', WHERE WHAT IT READS IS OF BULK AT MOST 1048576: true; the input reads as it did. -/
def branchMapsUptoRow : OpenClaim := { program := "ytcigljjnopfohaa", sum := "92dd0bf9e2d588dd609cd98d4a9e331d21278ffdb6e6817bbda069289ed0693c", func := "ctrie/ctrielaw06.BranchMaps", spec := "branchMaps", unfollowed := true, recurses := true, apart := false, narrowed := true }
def BranchMapsUptoSaid : Prop := branchMapsUptoRow.holds Try.pinned (OpenSpec.upto branchMapsSpec)

/-- 'ctrielaw06.BranchUndo', WHERE WHAT IT READS IS OF BULK AT MOST 1048576: true; the input reads as it did. -/
def branchUndoUptoRow : OpenClaim := { program := "ytcigljjnopfohaa", sum := "92dd0bf9e2d588dd609cd98d4a9e331d21278ffdb6e6817bbda069289ed0693c", func := "ctrie/ctrielaw06.BranchUndo", spec := "branchUndo", unfollowed := true, recurses := true, apart := false, narrowed := true }
def BranchUndoUptoSaid : Prop := branchUndoUptoRow.holds Try.pinned (OpenSpec.upto branchUndoSpec)

/-- 'ctrielaw06.BranchCommute', WHERE WHAT IT READS IS OF BULK AT MOST 1048576: true; the input reads as it did. -/
def branchCommuteUptoRow : OpenClaim := { program := "ytcigljjnopfohaa", sum := "92dd0bf9e2d588dd609cd98d4a9e331d21278ffdb6e6817bbda069289ed0693c", func := "ctrie/ctrielaw06.BranchCommute", spec := "branchCommute", unfollowed := true, recurses := true, apart := false, narrowed := true }
def BranchCommuteUptoSaid : Prop := branchCommuteUptoRow.holds Try.pinned (OpenSpec.upto branchCommuteSpec)

/-- 'ctrielaw06.BranchValid', WHERE WHAT IT READS IS OF BULK AT MOST 1048576: true; the input reads as it did. -/
def branchValidUptoRow : OpenClaim := { program := "ytcigljjnopfohaa", sum := "92dd0bf9e2d588dd609cd98d4a9e331d21278ffdb6e6817bbda069289ed0693c", func := "ctrie/ctrielaw06.BranchValid", spec := "branchValid", unfollowed := true, recurses := true, apart := false, narrowed := true }
def BranchValidUptoSaid : Prop := branchValidUptoRow.holds Try.pinned (OpenSpec.upto branchValidSpec)

end Rows
end Go.Proofs.Ytcigljjnopfohaa
