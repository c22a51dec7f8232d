/-
  No cell of these rows narrows 'for every input' (looked for: loops, veiled, ifaces, maps, wideKeys, modest, calm, conditions, laid).
  DERIVED. THE GIVEN ROWS OF THIS SEAT. 4 by the template 'for every input the law returns true; each argument reads behind the call as it read before'; 0 by the template 'total and deterministic' (their statements: YtpopoihggomfiaaTotals.lean).
  GIVEN WITH THE SEED: the statements are not yours to turn. If you find one false, say at which input.
  Laid BY PROGRAM, IN A SANDBOX (cutbox-rows.mjs): the forced cells as the released guide's own fill.sh prints them over the translation 9ec42390fe01ecaf… (all of the seat's roots in one cut). By AI agents, Wed Nov 11 2026. No macro, syntax, notation, axiom, sorry.
-/
import Derived.Test.YtpopoihggomfiaaChecked
import GoSem.Claim
import GoSem.ClaimJoined
import GoSem.ClaimMapViews
import Derived.JoinedTies
import Derived.KernelRfl
namespace Go.Proofs.Ytpopoihggomfiaa
/- THE CELL 'sum', in the pinned program and in every row, IS THE sha256 OF THE DUMP (.gsa) THAT YtpopoihggomfiaaProg.lean LOADS. Nothing in Lean hashes anything: it is a label: what it is worth is what the hold of that sum in a sandbox is worth. -/
noncomputable def Try.pinned : Pinned := { name := "ytpopoihggomfiaa", sum := "9ec42390fe01ecaf876b493d6211f0232fb8365f418a2645214a5b63fb340685", checked := Try.checked }
namespace Rows
def none {H : Type} : Left H := { results := [], args := [] }

/-- 'ctrielaw07.TombExact': WHATEVER THE INPUT: true; the input reads as it did. -/
def tombExactSpec : ChangeSpec := { name := "tombExact", fn := fun _ => fun
  | [d1, d2, d3, d4, d5, d6] => { results := [.lit (.bool true)], args := [d1, d2, d3, d4, d5, d6] }
  | _ => none }
def tombExactRow : OpenClaim := { program := "ytpopoihggomfiaa", sum := "9ec42390fe01ecaf876b493d6211f0232fb8365f418a2645214a5b63fb340685", func := "ctrie/ctrielaw07.TombExact", spec := "tombExact", inPlace := ["internal/bytealg.abigen_runtime_cmpstring"], unfollowed := true, recurses := true, apart := false }
def TombExactSaid : Prop := tombExactRow.holds Try.pinned (OpenSpec.ofChange tombExactSpec)

/-- ITS FALSE NEIGHBOUR: 'it returns false'. Refute it at one input. -/
def tombExactWrong : ChangeSpec := { name := "tombExact", fn := fun _ => fun
  | [d1, d2, d3, d4, d5, d6] => { results := [.lit (.bool false)], args := [d1, d2, d3, d4, d5, d6] }
  | _ => none }
def TombExactWrongFalsely : Prop := tombExactRow.holds Try.pinned (OpenSpec.ofChange tombExactWrong)

/-- 'ctrielaw07.TombUndo': WHATEVER THE INPUT: true; the input reads as it did. -/
def tombUndoSpec : ChangeSpec := { name := "tombUndo", fn := fun _ => fun
  | [d1, d2, d3, d4, d5, d6] => { results := [.lit (.bool true)], args := [d1, d2, d3, d4, d5, d6] }
  | _ => none }
def tombUndoRow : OpenClaim := { program := "ytpopoihggomfiaa", sum := "9ec42390fe01ecaf876b493d6211f0232fb8365f418a2645214a5b63fb340685", func := "ctrie/ctrielaw07.TombUndo", spec := "tombUndo", inPlace := ["internal/bytealg.abigen_runtime_cmpstring"], unfollowed := true, recurses := true, apart := false }
def TombUndoSaid : Prop := tombUndoRow.holds Try.pinned (OpenSpec.ofChange tombUndoSpec)

/-- ITS FALSE NEIGHBOUR: 'it returns false'. Refute it at one input. -/
def tombUndoWrong : ChangeSpec := { name := "tombUndo", fn := fun _ => fun
  | [d1, d2, d3, d4, d5, d6] => { results := [.lit (.bool false)], args := [d1, d2, d3, d4, d5, d6] }
  | _ => none }
def TombUndoWrongFalsely : Prop := tombUndoRow.holds Try.pinned (OpenSpec.ofChange tombUndoWrong)

/-- 'ctrielaw07.TombLists': WHATEVER THE INPUT: true; the input reads as it did. -/
def tombListsSpec : ChangeSpec := { name := "tombLists", fn := fun _ => fun
  | [d1, d2, d3] => { results := [.lit (.bool true)], args := [d1, d2, d3] }
  | _ => none }
def tombListsRow : OpenClaim := { program := "ytpopoihggomfiaa", sum := "9ec42390fe01ecaf876b493d6211f0232fb8365f418a2645214a5b63fb340685", func := "ctrie/ctrielaw07.TombLists", spec := "tombLists", inPlace := ["internal/bytealg.abigen_runtime_cmpstring"], unfollowed := true, recurses := true, apart := false }
def TombListsSaid : Prop := tombListsRow.holds Try.pinned (OpenSpec.ofChange tombListsSpec)

/-- ITS FALSE NEIGHBOUR: 'it returns false'. Refute it at one input. -/
def tombListsWrong : ChangeSpec := { name := "tombLists", fn := fun _ => fun
  | [d1, d2, d3] => { results := [.lit (.bool false)], args := [d1, d2, d3] }
  | _ => none }
def TombListsWrongFalsely : Prop := tombListsRow.holds Try.pinned (OpenSpec.ofChange tombListsWrong)

/-- 'ctrielaw07.TombDown': WHATEVER THE INPUT: true; the input reads as it did. -/
def tombDownSpec : ChangeSpec := { name := "tombDown", fn := fun _ => fun
  | [d1, d2] => { results := [.lit (.bool true)], args := [d1, d2] }
  | _ => none }
def tombDownRow : OpenClaim := { program := "ytpopoihggomfiaa", sum := "9ec42390fe01ecaf876b493d6211f0232fb8365f418a2645214a5b63fb340685", func := "ctrie/ctrielaw07.TombDown", spec := "tombDown", inPlace := ["internal/bytealg.abigen_runtime_cmpstring"], unfollowed := true, recurses := true, apart := false }
def TombDownSaid : Prop := tombDownRow.holds Try.pinned (OpenSpec.ofChange tombDownSpec)

/-- ITS FALSE NEIGHBOUR: 'it returns false'. Refute it at one input. -/
def tombDownWrong : ChangeSpec := { name := "tombDown", fn := fun _ => fun
  | [d1, d2] => { results := [.lit (.bool false)], args := [d1, d2] }
  | _ => none }
def TombDownWrongFalsely : Prop := tombDownRow.holds Try.pinned (OpenSpec.ofChange tombDownWrong)

/- THE SECOND FORM. 'bulk': how many values and letters a reading holds, each counted each time it is reached (what is shared counts as often as it is met; a slice's spare places count too). A statement '..UptoSaid' is the law's where the arguments, and the package variables that the reading takes, are together of bulk at most 1048576: NARROWER than '..Said'. Prove '..Said' where nothing that the law and all that it calls make is longer than what came in: it says more and counts as full. Else prove '..UptoSaid'. A law counts once. -/
mutual
def uptoBulk {H : Type} : DataW H → Nat
  | .lit (.string bytes) => bytes.length + 1
  | .lit _ => 1
  | .nil => 1
  | .ptr d => uptoBulk d + 1
  | .slice elems spare => uptoBulkAll elems + uptoBulkAll spare + 1
  | .agg parts => uptoBulkAll parts + 1
  | .iface _ d => uptoBulk d + 1
  | .map entries => uptoBulkEntries entries + 1
  | .held _ => 1
def uptoBulkAll {H : Type} : List (DataW H) → Nat
  | [] => 0
  | d :: r => uptoBulk d + uptoBulkAll r
def uptoBulkEntries {H : Type} : List (Lit × DataW H) → Nat
  | [] => 0
  | x :: r => uptoBulkEntry x + uptoBulkEntries r
def uptoBulkEntry {H : Type} : Lit × DataW H → Nat
  | (.string bytes, d) => bytes.length + uptoBulk d + 1
  | (_, d) => uptoBulk d + 1
 end
def uptoSmall : (H : Type) → List (DataW H) → Bool := fun _ ds => decide (uptoBulkAll ds ≤ 1048576)
def OpenSpec.upto (s : _root_.Go.ChangeSpec) : _root_.Go.OpenSpec := { _root_.Go.OpenSpec.ofChange s with cond := some uptoSmall }

/-- 'ctrielaw07.TombExact', WHERE WHAT IT READS IS OF BULK AT MOST 1048576: true; the input reads as it did. -/
def tombExactUptoRow : OpenClaim := { program := "ytpopoihggomfiaa", sum := "9ec42390fe01ecaf876b493d6211f0232fb8365f418a2645214a5b63fb340685", func := "ctrie/ctrielaw07.TombExact", spec := "tombExact", inPlace := ["internal/bytealg.abigen_runtime_cmpstring"], unfollowed := true, recurses := true, apart := false, narrowed := true }
def TombExactUptoSaid : Prop := tombExactUptoRow.holds Try.pinned (OpenSpec.upto tombExactSpec)

/-- 'ctrielaw07.TombUndo', WHERE WHAT IT READS IS OF BULK AT MOST 1048576: true; the input reads as it did. -/
def tombUndoUptoRow : OpenClaim := { program := "ytpopoihggomfiaa", sum := "9ec42390fe01ecaf876b493d6211f0232fb8365f418a2645214a5b63fb340685", func := "ctrie/ctrielaw07.TombUndo", spec := "tombUndo", inPlace := ["internal/bytealg.abigen_runtime_cmpstring"], unfollowed := true, recurses := true, apart := false, narrowed := true }
def TombUndoUptoSaid : Prop := tombUndoUptoRow.holds Try.pinned (OpenSpec.upto tombUndoSpec)

/-- 'ctrielaw07.TombLists', WHERE WHAT IT READS IS OF BULK AT MOST 1048576: true; the input reads as it did. -/
def tombListsUptoRow : OpenClaim := { program := "ytpopoihggomfiaa", sum := "9ec42390fe01ecaf876b493d6211f0232fb8365f418a2645214a5b63fb340685", func := "ctrie/ctrielaw07.TombLists", spec := "tombLists", inPlace := ["internal/bytealg.abigen_runtime_cmpstring"], unfollowed := true, recurses := true, apart := false, narrowed := true }
def TombListsUptoSaid : Prop := tombListsUptoRow.holds Try.pinned (OpenSpec.upto tombListsSpec)

/-- 'ctrielaw07.TombDown', WHERE WHAT IT READS IS OF BULK AT MOST 1048576: true; the input reads as it did. -/
def tombDownUptoRow : OpenClaim := { program := "ytpopoihggomfiaa", sum := "9ec42390fe01ecaf876b493d6211f0232fb8365f418a2645214a5b63fb340685", func := "ctrie/ctrielaw07.TombDown", spec := "tombDown", inPlace := ["internal/bytealg.abigen_runtime_cmpstring"], unfollowed := true, recurses := true, apart := false, narrowed := true }
def TombDownUptoSaid : Prop := tombDownUptoRow.holds Try.pinned (OpenSpec.upto tombDownSpec)

end Rows
end Go.Proofs.Ytpopoihggomfiaa
