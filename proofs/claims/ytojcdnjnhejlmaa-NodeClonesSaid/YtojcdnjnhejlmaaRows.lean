/-
  No cell of these rows narrows 'for every input' (looked for: loops, veiled, ifaces, maps, wideKeys, modest, calm, conditions, laid).
  DERIVED. THE GIVEN ROWS OF THIS SEAT. 4 by the template 'for every input the law returns true; each argument reads behind the call as it read before'; 0 by the template 'total and deterministic' (their statements: YtojcdnjnhejlmaaTotals.lean).
  GIVEN WITH THE SEED: the statements are not yours to turn. If you find one false, say at which input.
  Laid BY PROGRAM, IN A SANDBOX (cutbox-rows.mjs): the forced cells as the released guide's own fill.sh prints them over the translation de7fd0de1cbf55ba… (all of the seat's roots in one cut). By AI agents, Wed Nov 11 2026. No macro, syntax, notation, axiom, sorry.
-/
import Derived.Test.YtojcdnjnhejlmaaChecked
import GoSem.Claim
import GoSem.ClaimJoined
import GoSem.ClaimMapViews
import Derived.JoinedTies
import Derived.KernelRfl
namespace Go.Proofs.Ytojcdnjnhejlmaa
/- THE CELL 'sum', in the pinned program and in every row, IS THE sha256 OF THE DUMP (.gsa) THAT YtojcdnjnhejlmaaProg.lean LOADS. Nothing in Lean hashes anything: it is a label: what it is worth is what the hold of that sum in a sandbox is worth. -/
noncomputable def Try.pinned : Pinned := { name := "ytojcdnjnhejlmaa", sum := "de7fd0de1cbf55bad2f6890e12788326229c486d29fe469bc1bf60fe3ca4cd46", checked := Try.checked }
namespace Rows
def none {H : Type} : Left H := { results := [], args := [] }

/-- 'ctrielaw04.NodeValid': WHATEVER THE INPUT: true; the input reads as it did. -/
def nodeValidSpec : ChangeSpec := { name := "nodeValid", fn := fun _ => fun
  | [d1, d2, d3, d4, d5] => { results := [.lit (.bool true)], args := [d1, d2, d3, d4, d5] }
  | _ => none }
def nodeValidRow : OpenClaim := { program := "ytojcdnjnhejlmaa", sum := "de7fd0de1cbf55bad2f6890e12788326229c486d29fe469bc1bf60fe3ca4cd46", func := "ctrie/ctrielaw04.NodeValid", spec := "nodeValid", unfollowed := true, recurses := true, apart := false }
def NodeValidSaid : Prop := nodeValidRow.holds Try.pinned (OpenSpec.ofChange nodeValidSpec)

/-- ITS FALSE NEIGHBOUR: 'it returns false'. Refute it at one input. -/
def nodeValidWrong : ChangeSpec := { name := "nodeValid", fn := fun _ => fun
  | [d1, d2, d3, d4, d5] => { results := [.lit (.bool false)], args := [d1, d2, d3, d4, d5] }
  | _ => none }
def NodeValidWrongFalsely : Prop := nodeValidRow.holds Try.pinned (OpenSpec.ofChange nodeValidWrong)

/-- 'ctrielaw04.NodeMakes': WHATEVER THE INPUT: true; the input reads as it did. -/
def nodeMakesSpec : ChangeSpec := { name := "nodeMakes", fn := fun _ => fun
  | [d1, d2, d3, d4, d5, d6, d7, d8] => { results := [.lit (.bool true)], args := [d1, d2, d3, d4, d5, d6, d7, d8] }
  | _ => none }
def nodeMakesRow : OpenClaim := { program := "ytojcdnjnhejlmaa", sum := "de7fd0de1cbf55bad2f6890e12788326229c486d29fe469bc1bf60fe3ca4cd46", func := "ctrie/ctrielaw04.NodeMakes", spec := "nodeMakes", unfollowed := true, recurses := true, apart := false }
def NodeMakesSaid : Prop := nodeMakesRow.holds Try.pinned (OpenSpec.ofChange nodeMakesSpec)

/-- ITS FALSE NEIGHBOUR: 'it returns false'. Refute it at one input. -/
def nodeMakesWrong : ChangeSpec := { name := "nodeMakes", fn := fun _ => fun
  | [d1, d2, d3, d4, d5, d6, d7, d8] => { results := [.lit (.bool false)], args := [d1, d2, d3, d4, d5, d6, d7, d8] }
  | _ => none }
def NodeMakesWrongFalsely : Prop := nodeMakesRow.holds Try.pinned (OpenSpec.ofChange nodeMakesWrong)

/-- 'ctrielaw04.NodeClones': WHATEVER THE INPUT: true; the input reads as it did. -/
def nodeClonesSpec : ChangeSpec := { name := "nodeClones", fn := fun _ => fun
  | [d1, d2] => { results := [.lit (.bool true)], args := [d1, d2] }
  | _ => none }
def nodeClonesRow : OpenClaim := { program := "ytojcdnjnhejlmaa", sum := "de7fd0de1cbf55bad2f6890e12788326229c486d29fe469bc1bf60fe3ca4cd46", func := "ctrie/ctrielaw04.NodeClones", spec := "nodeClones", unfollowed := true, recurses := true, apart := false }
def NodeClonesSaid : Prop := nodeClonesRow.holds Try.pinned (OpenSpec.ofChange nodeClonesSpec)

/-- ITS FALSE NEIGHBOUR: 'it returns false'. Refute it at one input. -/
def nodeClonesWrong : ChangeSpec := { name := "nodeClones", fn := fun _ => fun
  | [d1, d2] => { results := [.lit (.bool false)], args := [d1, d2] }
  | _ => none }
def NodeClonesWrongFalsely : Prop := nodeClonesRow.holds Try.pinned (OpenSpec.ofChange nodeClonesWrong)

/-- 'ctrielaw04.NodeKinds': WHATEVER THE INPUT: true; the input reads as it did. -/
def nodeKindsSpec : ChangeSpec := { name := "nodeKinds", fn := fun _ => fun
  | [d1, d2, d3, d4] => { results := [.lit (.bool true)], args := [d1, d2, d3, d4] }
  | _ => none }
def nodeKindsRow : OpenClaim := { program := "ytojcdnjnhejlmaa", sum := "de7fd0de1cbf55bad2f6890e12788326229c486d29fe469bc1bf60fe3ca4cd46", func := "ctrie/ctrielaw04.NodeKinds", spec := "nodeKinds", unfollowed := true, recurses := true, apart := false }
def NodeKindsSaid : Prop := nodeKindsRow.holds Try.pinned (OpenSpec.ofChange nodeKindsSpec)

/-- ITS FALSE NEIGHBOUR: 'it returns false'. Refute it at one input. -/
def nodeKindsWrong : ChangeSpec := { name := "nodeKinds", fn := fun _ => fun
  | [d1, d2, d3, d4] => { results := [.lit (.bool false)], args := [d1, d2, d3, d4] }
  | _ => none }
def NodeKindsWrongFalsely : Prop := nodeKindsRow.holds Try.pinned (OpenSpec.ofChange nodeKindsWrong)

/- THE SECOND FORM. 'bulk': how many values and letters a reading holds, each counted each time it is reached (what is shared counts as often as it is met; a slice's spare places count too). A statement '..UptoSaid' is the law's where the arguments, and the package variables that the reading takes, are together of bulk at most 1048576: NARROWER than '..Said'. Prove '..Said' where nothing that the law and all that it calls make is longer than what came in: it says more and counts as full. Else prove '..UptoSaid'. A law counts once. -/
mutual
def uptoBulk {H : Type} : DataW H → Nat
  | .lit (.string bytes) => bytes.length + 1
  | .lit _ => 1
  | .nil => 1
  | .ptr d => uptoBulk d + 1
  | .slice elems spare => uptoBulkAll elems + uptoBulkAll spare + 1
  | .agg parts => uptoBulkAll parts + 1
  | .iface _ d => uptoBulk d + 1
  | .map entries => uptoBulkEntries entries + 1
  | .held _ => 1
def uptoBulkAll {H : Type} : List (DataW H) → Nat
  | [] => 0
  | d :: r => uptoBulk d + uptoBulkAll r
def uptoBulkEntries {H : Type} : List (Lit × DataW H) → Nat
  | [] => 0
  | x :: r => uptoBulkEntry x + uptoBulkEntries r
def uptoBulkEntry {H : Type} : Lit × DataW H → Nat
  | (.string bytes, d) => bytes.length + uptoBulk d + 1
  | (_, d) => uptoBulk d + 1
 end
def uptoSmall : (H : Type) → List (DataW H) → Bool := fun _ ds => decide (uptoBulkAll ds ≤ 1048576)
def OpenSpec.upto (s : _root_.Go.ChangeSpec) : _root_.Go.OpenSpec := { _root_.Go.OpenSpec.ofChange s with cond := some uptoSmall }

/-- 'ctrielaw04.NodeValid', WHERE WHAT IT READS IS OF BULK AT MOST 1048576: true; the input reads as it did. -/
def nodeValidUptoRow : OpenClaim := { program := "ytojcdnjnhejlmaa", sum := "de7fd0de1cbf55bad2f6890e12788326229c486d29fe469bc1bf60fe3ca4cd46", func := "ctrie/ctrielaw04.NodeValid", spec := "nodeValid", unfollowed := true, recurses := true, apart := false, narrowed := true }
def NodeValidUptoSaid : Prop := nodeValidUptoRow.holds Try.pinned (OpenSpec.upto nodeValidSpec)

/-- 'ctrielaw04.NodeMakes', WHERE WHAT IT READS IS OF BULK AT MOST 1048576: true; the input reads as it did. -/
def nodeMakesUptoRow : OpenClaim := { program := "ytojcdnjnhejlmaa", sum := "de7fd0de1cbf55bad2f6890e12788326229c486d29fe469bc1bf60fe3ca4cd46", func := "ctrie/ctrielaw04.NodeMakes", spec := "nodeMakes", unfollowed := true, recurses := true, apart := false, narrowed := true }
def NodeMakesUptoSaid : Prop := nodeMakesUptoRow.holds Try.pinned (OpenSpec.upto nodeMakesSpec)

/-- 'ctrielaw04.NodeClones', WHERE WHAT IT READS IS OF BULK AT MOST 1048576: true; the input reads as it did. -/
def nodeClonesUptoRow : OpenClaim := { program := "ytojcdnjnhejlmaa", sum := "de7fd0de1cbf55bad2f6890e12788326229c486d29fe469bc1bf60fe3ca4cd46", func := "ctrie/ctrielaw04.NodeClones", spec := "nodeClones", unfollowed := true, recurses := true, apart := false, narrowed := true }
def NodeClonesUptoSaid : Prop := nodeClonesUptoRow.holds Try.pinned (OpenSpec.upto nodeClonesSpec)

/-- 'ctrielaw04.NodeKinds', WHERE WHAT IT READS IS OF BULK AT MOST 1048576: true; the input reads as it did. -/
def nodeKindsUptoRow : OpenClaim := { program := "ytojcdnjnhejlmaa", sum := "de7fd0de1cbf55bad2f6890e12788326229c486d29fe469bc1bf60fe3ca4cd46", func := "ctrie/ctrielaw04.NodeKinds", spec := "nodeKinds", unfollowed := true, recurses := true, apart := false, narrowed := true }
def NodeKindsUptoSaid : Prop := nodeKindsUptoRow.holds Try.pinned (OpenSpec.upto nodeKindsSpec)

end Rows
end Go.Proofs.Ytojcdnjnhejlmaa
