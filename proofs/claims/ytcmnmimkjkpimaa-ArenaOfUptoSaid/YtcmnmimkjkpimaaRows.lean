/-
  No cell of these rows narrows 'for every input' (looked for: loops, veiled, ifaces, maps, wideKeys, modest, calm, conditions, laid).
  DERIVED. THE GIVEN ROWS OF THIS SEAT. 5 by the template 'for every input the law returns true; each argument reads behind the call as it read before'; 0 by the template 'total and deterministic' (their statements: YtcmnmimkjkpimaaTotals.lean).
  GIVEN WITH THE SEED: the statements are not yours to turn. If you find one false, say at which input.
  Laid BY PROGRAM, IN A SANDBOX (cutbox-rows.mjs): the forced cells as the released guide's own fill.sh prints them over the translation 217f67e9f23fe578… (all of the seat's roots in one cut). By AI agents, Wed Nov 11 2026. No macro, syntax, notation, axiom, sorry.
-/
import Derived.Test.YtcmnmimkjkpimaaChecked
import GoSem.Claim
import GoSem.ClaimJoined
import GoSem.ClaimMapViews
import Derived.JoinedTies
import Derived.KernelRfl
namespace Go.Proofs.Ytcmnmimkjkpimaa
/- THE CELL 'sum', in the pinned program and in every row, IS THE sha256 OF THE DUMP (.gsa) THAT YtcmnmimkjkpimaaProg.lean LOADS. Nothing in Lean hashes anything: it is a label: what it is worth is what the hold of that sum in a sandbox is worth. -/
noncomputable def Try.pinned : Pinned := { name := "ytcmnmimkjkpimaa", sum := "217f67e9f23fe5784c586e8d9aaee2a1044f32a5c0a77dde6c4b840ad16deb8e", checked := Try.checked }
namespace Rows
def none {H : Type} : Left H := { results := [], args := [] }

/-- 'ctrielaw05.ArenaPlays': WHATEVER THE INPUT: true; the input reads as it did. -/
def arenaPlaysSpec : ChangeSpec := { name := "arenaPlays", fn := fun _ => fun
  | [d1, d2, d3] => { results := [.lit (.bool true)], args := [d1, d2, d3] }
  | _ => none }
def arenaPlaysRow : OpenClaim := { program := "ytcmnmimkjkpimaa", sum := "217f67e9f23fe5784c586e8d9aaee2a1044f32a5c0a77dde6c4b840ad16deb8e", func := "ctrie/ctrielaw05.ArenaPlays", spec := "arenaPlays", unfollowed := true, recurses := true, apart := false }
def ArenaPlaysSaid : Prop := arenaPlaysRow.holds Try.pinned (OpenSpec.ofChange arenaPlaysSpec)

/-- ITS FALSE NEIGHBOUR: 'it returns false'. Refute it at one input. -/
def arenaPlaysWrong : ChangeSpec := { name := "arenaPlays", fn := fun _ => fun
  | [d1, d2, d3] => { results := [.lit (.bool false)], args := [d1, d2, d3] }
  | _ => none }
def ArenaPlaysWrongFalsely : Prop := arenaPlaysRow.holds Try.pinned (OpenSpec.ofChange arenaPlaysWrong)

/-- 'ctrielaw05.ArenaOf': WHATEVER THE INPUT: true; the input reads as it did. -/
def arenaOfSpec : ChangeSpec := { name := "arenaOf", fn := fun _ => fun
  | [d1, d2, d3, d4, d5] => { results := [.lit (.bool true)], args := [d1, d2, d3, d4, d5] }
  | _ => none }
def arenaOfRow : OpenClaim := { program := "ytcmnmimkjkpimaa", sum := "217f67e9f23fe5784c586e8d9aaee2a1044f32a5c0a77dde6c4b840ad16deb8e", func := "ctrie/ctrielaw05.ArenaOf", spec := "arenaOf", unfollowed := true, recurses := true, apart := false }
def ArenaOfSaid : Prop := arenaOfRow.holds Try.pinned (OpenSpec.ofChange arenaOfSpec)

/-- ITS FALSE NEIGHBOUR: 'it returns false'. Refute it at one input. -/
def arenaOfWrong : ChangeSpec := { name := "arenaOf", fn := fun _ => fun
  | [d1, d2, d3, d4, d5] => { results := [.lit (.bool false)], args := [d1, d2, d3, d4, d5] }
  | _ => none }
def ArenaOfWrongFalsely : Prop := arenaOfRow.holds Try.pinned (OpenSpec.ofChange arenaOfWrong)

/-- 'ctrielaw05.ArenaNodes': WHATEVER THE INPUT: true; the input reads as it did. -/
def arenaNodesSpec : ChangeSpec := { name := "arenaNodes", fn := fun _ => fun
  | [d1, d2] => { results := [.lit (.bool true)], args := [d1, d2] }
  | _ => none }
def arenaNodesRow : OpenClaim := { program := "ytcmnmimkjkpimaa", sum := "217f67e9f23fe5784c586e8d9aaee2a1044f32a5c0a77dde6c4b840ad16deb8e", func := "ctrie/ctrielaw05.ArenaNodes", spec := "arenaNodes", unfollowed := true, recurses := true, apart := false }
def ArenaNodesSaid : Prop := arenaNodesRow.holds Try.pinned (OpenSpec.ofChange arenaNodesSpec)

/-- ITS FALSE NEIGHBOUR: 'it returns false'. Refute it at one input. -/
def arenaNodesWrong : ChangeSpec := { name := "arenaNodes", fn := fun _ => fun
  | [d1, d2] => { results := [.lit (.bool false)], args := [d1, d2] }
  | _ => none }
def ArenaNodesWrongFalsely : Prop := arenaNodesRow.holds Try.pinned (OpenSpec.ofChange arenaNodesWrong)

/-- 'ctrielaw05.ArenaAtomic': WHATEVER THE INPUT: true; the input reads as it did. -/
def arenaAtomicSpec : ChangeSpec := { name := "arenaAtomic", fn := fun _ => fun
  | [d1, d2, d3] => { results := [.lit (.bool true)], args := [d1, d2, d3] }
  | _ => none }
def arenaAtomicRow : OpenClaim := { program := "ytcmnmimkjkpimaa", sum := "217f67e9f23fe5784c586e8d9aaee2a1044f32a5c0a77dde6c4b840ad16deb8e", func := "ctrie/ctrielaw05.ArenaAtomic", spec := "arenaAtomic", unfollowed := true, recurses := true, apart := false }
def ArenaAtomicSaid : Prop := arenaAtomicRow.holds Try.pinned (OpenSpec.ofChange arenaAtomicSpec)

/-- ITS FALSE NEIGHBOUR: 'it returns false'. Refute it at one input. -/
def arenaAtomicWrong : ChangeSpec := { name := "arenaAtomic", fn := fun _ => fun
  | [d1, d2, d3] => { results := [.lit (.bool false)], args := [d1, d2, d3] }
  | _ => none }
def ArenaAtomicWrongFalsely : Prop := arenaAtomicRow.holds Try.pinned (OpenSpec.ofChange arenaAtomicWrong)

/-- 'ctrielaw05.ArenaNothing': WHATEVER THE INPUT: true; the input reads as it did. -/
def arenaNothingSpec : ChangeSpec := { name := "arenaNothing", fn := fun _ => fun
  | [d1, d2, d3, d4] => { results := [.lit (.bool true)], args := [d1, d2, d3, d4] }
  | _ => none }
def arenaNothingRow : OpenClaim := { program := "ytcmnmimkjkpimaa", sum := "217f67e9f23fe5784c586e8d9aaee2a1044f32a5c0a77dde6c4b840ad16deb8e", func := "ctrie/ctrielaw05.ArenaNothing", spec := "arenaNothing", unfollowed := true, recurses := true, apart := false }
def ArenaNothingSaid : Prop := arenaNothingRow.holds Try.pinned (OpenSpec.ofChange arenaNothingSpec)

/-- ITS FALSE NEIGHBOUR: 'it returns false'. Refute it at one input. -/
def arenaNothingWrong : ChangeSpec := { name := "arenaNothing", fn := fun _ => fun
  | [d1, d2, d3, d4] => { results := [.lit (.bool false)], args := [d1, d2, d3, d4] }
  | _ => none }
def ArenaNothingWrongFalsely : Prop := arenaNothingRow.holds Try.pinned (OpenSpec.ofChange arenaNothingWrong)

/- THE SECOND FORM. 'bulk': how many values and letters a reading holds, each counted each time it is reached (what is shared counts as often as it is met; a slice's spare places count too). A statement '..UptoSaid' is the law's where the arguments, and the package variables that the reading takes, are together of bulk at most 1048576: NARROWER than '..Said'. Prove '..Said' where nothing that the law and all that it calls make is longer than what came in: it says more and counts as full. Else prove '..UptoSaid'. A law counts once. -/
mutual
def uptoBulk {H : Type} : DataW H → Nat
  | .lit (.string bytes) => bytes.length + 1
  | .lit _ => 1
  | .nil => 1
  | .ptr d => uptoBulk d + 1
  | .slice elems spare => uptoBulkAll elems + uptoBulkAll spare + 1
  | .agg parts => uptoBulkAll parts + 1
  | .iface _ d => uptoBulk d + 1
  | .map entries => uptoBulkEntries entries + 1
  | .held _ => 1
def uptoBulkAll {H : Type} : List (DataW H) → Nat
  | [] => 0
  | d :: r => uptoBulk d + uptoBulkAll r
def uptoBulkEntries {H : Type} : List (Lit × DataW H) → Nat
  | [] => 0
  | x :: r => uptoBulkEntry x + uptoBulkEntries r
def uptoBulkEntry {H : Type} : Lit × DataW H → Nat
  | (.string bytes, d) => bytes.length + uptoBulk d + 1
  | (_, d) => uptoBulk d + 1
 end
def uptoSmall : (H : Type) → List (DataW H) → Bool := fun _ ds => decide (uptoBulkAll ds ≤ 1048576)
def OpenSpec.upto (s : _root_.Go.ChangeSpec) : _root_.Go.OpenSpec := { _root_.Go.OpenSpec.ofChange s with cond := some uptoSmall }

/-- 'ctrielaw05.ArenaPlays', WHERE WHAT IT READS IS OF BULK AT MOST 1048576: true; the input reads as it did. -/
def arenaPlaysUptoRow : OpenClaim := { program := "ytcmnmimkjkpimaa", sum := "217f67e9f23fe5784c586e8d9aaee2a1044f32a5c0a77dde6c4b840ad16deb8e", func := "ctrie/ctrielaw05.ArenaPlays", spec := "arenaPlays", unfollowed := true, recurses := true, apart := false, narrowed := true }
def ArenaPlaysUptoSaid : Prop := arenaPlaysUptoRow.holds Try.pinned (OpenSpec.upto arenaPlaysSpec)

/-- 'ctrielaw05.ArenaOf', WHERE WHAT IT READS IS OF BULK AT MOST 1048576: true; the input reads as it did. -/
def arenaOfUptoRow : OpenClaim := { program := "ytcmnmimkjkpimaa", sum := "217f67e9f23fe5784c586e8d9aaee2a1044f32a5c0a77dde6c4b840ad16deb8e", func := "ctrie/ctrielaw05.ArenaOf", spec := "arenaOf", unfollowed := true, recurses := true, apart := false, narrowed := true }
def ArenaOfUptoSaid : Prop := arenaOfUptoRow.holds Try.pinned (OpenSpec.upto arenaOfSpec)

/-- 'ctrielaw05.ArenaNodes', WHERE WHAT IT READS IS OF BULK AT MOST 1048576: true; the input reads as it did. -/
def arenaNodesUptoRow : OpenClaim := { program := "ytcmnmimkjkpimaa", sum := "217f67e9f23fe5784c586e8d9aaee2a1044f32a5c0a77dde6c4b840ad16deb8e", func := "ctrie/ctrielaw05.ArenaNodes", spec := "arenaNodes", unfollowed := true, recurses := true, apart := false, narrowed := true }
def ArenaNodesUptoSaid : Prop := arenaNodesUptoRow.holds Try.pinned (OpenSpec.upto arenaNodesSpec)

/-- 'ctrielaw05.ArenaAtomic', WHERE WHAT IT READS IS OF BULK AT MOST 1048576: true; the input reads as it did. -/
def arenaAtomicUptoRow : OpenClaim := { program := "ytcmnmimkjkpimaa", sum := "217f67e9f23fe5784c586e8d9aaee2a1044f32a5c0a77dde6c4b840ad16deb8e", func := "ctrie/ctrielaw05.ArenaAtomic", spec := "arenaAtomic", unfollowed := true, recurses := true, apart := false, narrowed := true }
def ArenaAtomicUptoSaid : Prop := arenaAtomicUptoRow.holds Try.pinned (OpenSpec.upto arenaAtomicSpec)

/-- 'ctrielaw05.ArenaNothing', WHERE WHAT IT READS IS OF BULK AT MOST 1048576: true; the input reads as it did. -/
def arenaNothingUptoRow : OpenClaim := { program := "ytcmnmimkjkpimaa", sum := "217f67e9f23fe5784c586e8d9aaee2a1044f32a5c0a77dde6c4b840ad16deb8e", func := "ctrie/ctrielaw05.ArenaNothing", spec := "arenaNothing", unfollowed := true, recurses := true, apart := false, narrowed := true }
def ArenaNothingUptoSaid : Prop := arenaNothingUptoRow.holds Try.pinned (OpenSpec.upto arenaNothingSpec)

end Rows
end Go.Proofs.Ytcmnmimkjkpimaa
