/-
  No cell of these rows narrows 'for every input' (looked for: loops, veiled, ifaces, maps, wideKeys, modest, calm, conditions, laid).
  DERIVED. THE GIVEN ROWS OF THIS SEAT. 3 by the template 'for every input the law returns true; each argument reads behind the call as it read before'; 0 by the template 'total and deterministic' (their statements: YtkenhghaiedhnaaTotals.lean).
  GIVEN WITH THE SEED: the statements are not yours to turn. If you find one false, say at which input.
  Laid BY PROGRAM, IN A SANDBOX (cutbox-rows.mjs): the forced cells as the released guide's own fill.sh prints them over the translation 297947dcb7276984… (all of the seat's roots in one cut). By AI agents, Wed Nov 11 2026. No macro, syntax, notation, axiom, sorry.
-/
import Derived.Test.YtkenhghaiedhnaaChecked
import GoSem.Claim
import GoSem.ClaimJoined
import GoSem.ClaimMapViews
import Derived.JoinedTies
import Derived.KernelRfl
namespace Go.Proofs.Ytkenhghaiedhnaa
/- THE CELL 'sum', in the pinned program and in every row, IS THE sha256 OF THE DUMP (.gsa) THAT YtkenhghaiedhnaaProg.lean LOADS. Nothing in Lean hashes anything: it is a label: what it is worth is what the hold of that sum in a sandbox is worth. -/
noncomputable def Try.pinned : Pinned := { name := "ytkenhghaiedhnaa", sum := "297947dcb72769842b6a9e5a52cfc525856c6ec8109b983608bbc25e658dd4c2", checked := Try.checked }
namespace Rows
def none {H : Type} : Left H := { results := [], args := [] }

/-- 'ctrielaw08.DualExact': WHATEVER THE INPUT: true; the input reads as it did. -/
def dualExactSpec : ChangeSpec := { name := "dualExact", fn := fun _ => fun
  | [d1, d2, d3, d4, d5, d6, d7, d8, d9] => { results := [.lit (.bool true)], args := [d1, d2, d3, d4, d5, d6, d7, d8, d9] }
  | _ => none }
def dualExactRow : OpenClaim := { program := "ytkenhghaiedhnaa", sum := "297947dcb72769842b6a9e5a52cfc525856c6ec8109b983608bbc25e658dd4c2", func := "ctrie/ctrielaw08.DualExact", spec := "dualExact", inPlace := ["internal/bytealg.abigen_runtime_cmpstring"], unfollowed := true, recurses := true, apart := false }
def DualExactSaid : Prop := dualExactRow.holds Try.pinned (OpenSpec.ofChange dualExactSpec)

/-- ITS FALSE NEIGHBOUR: 'it returns false'. Refute it at one input. -/
def dualExactWrong : ChangeSpec := { name := "dualExact", fn := fun _ => fun
  | [d1, d2, d3, d4, d5, d6, d7, d8, d9] => { results := [.lit (.bool false)], args := [d1, d2, d3, d4, d5, d6, d7, d8, d9] }
  | _ => none }
def DualExactWrongFalsely : Prop := dualExactRow.holds Try.pinned (OpenSpec.ofChange dualExactWrong)

/-- 'ctrielaw08.DualRefuses': WHATEVER THE INPUT: true; the input reads as it did. -/
def dualRefusesSpec : ChangeSpec := { name := "dualRefuses", fn := fun _ => fun
  | [d1, d2, d3, d4, d5, d6] => { results := [.lit (.bool true)], args := [d1, d2, d3, d4, d5, d6] }
  | _ => none }
def dualRefusesRow : OpenClaim := { program := "ytkenhghaiedhnaa", sum := "297947dcb72769842b6a9e5a52cfc525856c6ec8109b983608bbc25e658dd4c2", func := "ctrie/ctrielaw08.DualRefuses", spec := "dualRefuses", inPlace := ["internal/bytealg.abigen_runtime_cmpstring"], unfollowed := true, recurses := true, apart := false }
def DualRefusesSaid : Prop := dualRefusesRow.holds Try.pinned (OpenSpec.ofChange dualRefusesSpec)

/-- ITS FALSE NEIGHBOUR: 'it returns false'. Refute it at one input. -/
def dualRefusesWrong : ChangeSpec := { name := "dualRefuses", fn := fun _ => fun
  | [d1, d2, d3, d4, d5, d6] => { results := [.lit (.bool false)], args := [d1, d2, d3, d4, d5, d6] }
  | _ => none }
def DualRefusesWrongFalsely : Prop := dualRefusesRow.holds Try.pinned (OpenSpec.ofChange dualRefusesWrong)

/-- 'ctrielaw08.DualCounts': WHATEVER THE INPUT: true; the input reads as it did. -/
def dualCountsSpec : ChangeSpec := { name := "dualCounts", fn := fun _ => fun
  | [d1, d2, d3, d4] => { results := [.lit (.bool true)], args := [d1, d2, d3, d4] }
  | _ => none }
def dualCountsRow : OpenClaim := { program := "ytkenhghaiedhnaa", sum := "297947dcb72769842b6a9e5a52cfc525856c6ec8109b983608bbc25e658dd4c2", func := "ctrie/ctrielaw08.DualCounts", spec := "dualCounts", inPlace := ["internal/bytealg.abigen_runtime_cmpstring"], unfollowed := true, recurses := true, apart := false }
def DualCountsSaid : Prop := dualCountsRow.holds Try.pinned (OpenSpec.ofChange dualCountsSpec)

/-- ITS FALSE NEIGHBOUR: 'it returns false'. Refute it at one input. -/
def dualCountsWrong : ChangeSpec := { name := "dualCounts", fn := fun _ => fun
  | [d1, d2, d3, d4] => { results := [.lit (.bool false)], args := [d1, d2, d3, d4] }
  | _ => none }
def DualCountsWrongFalsely : Prop := dualCountsRow.holds Try.pinned (OpenSpec.ofChange dualCountsWrong)

/- THE SECOND FORM. 'bulk': how many values and letters a reading holds, each counted each time it is reached (what is shared counts as often as it is met; a slice's spare places count too). A statement '..UptoSaid' is the law's where the arguments, and the package variables that the reading takes, are together of bulk at most 1048576: NARROWER than '..Said'. Prove '..Said' where nothing that the law and all that it calls make is longer than what came in: it says more and counts as full. Else prove '..UptoSaid'. A law counts once. -/
mutual
def uptoBulk {H : Type} : DataW H → Nat
  | .lit (.string bytes) => bytes.length + 1
  | .lit _ => 1
  | .nil => 1
  | .ptr d => uptoBulk d + 1
  | .slice elems spare => uptoBulkAll elems + uptoBulkAll spare + 1
  | .agg parts => uptoBulkAll parts + 1
  | .iface _ d => uptoBulk d + 1
  | .map entries => uptoBulkEntries entries + 1
  | .held _ => 1
def uptoBulkAll {H : Type} : List (DataW H) → Nat
  | [] => 0
  | d :: r => uptoBulk d + uptoBulkAll r
def uptoBulkEntries {H : Type} : List (Lit × DataW H) → Nat
  | [] => 0
  | x :: r => uptoBulkEntry x + uptoBulkEntries r
def uptoBulkEntry {H : Type} : Lit × DataW H → Nat
  | (.string bytes, d) => bytes.length + uptoBulk d + 1
  | (_, d) => uptoBulk d + 1
 end
def uptoSmall : (H : Type) → List (DataW H) → Bool := fun _ ds => decide (uptoBulkAll ds ≤ 1048576)
def OpenSpec.upto (s : _root_.Go.ChangeSpec) : _root_.Go.OpenSpec := { _root_.Go.OpenSpec.ofChange s with cond := some uptoSmall }

/-- 'ctrielaw08.DualExact', WHERE WHAT IT READS IS OF BULK AT MOST 1048576: true; the input reads as it did. -/
def dualExactUptoRow : OpenClaim := { program := "ytkenhghaiedhnaa", sum := "297947dcb72769842b6a9e5a52cfc525856c6ec8109b983608bbc25e658dd4c2", func := "ctrie/ctrielaw08.DualExact", spec := "dualExact", inPlace := ["internal/bytealg.abigen_runtime_cmpstring"], unfollowed := true, recurses := true, apart := false, narrowed := true }
def DualExactUptoSaid : Prop := dualExactUptoRow.holds Try.pinned (OpenSpec.upto dualExactSpec)

/-- 'ctrielaw08.DualRefuses', WHERE WHAT IT READS IS OF BULK AT MOST 1048576: true; the input reads as it did. -/
def dualRefusesUptoRow : OpenClaim := { program := "ytkenhghaiedhnaa", sum := "297947dcb72769842b6a9e5a52cfc525856c6ec8109b983608bbc25e658dd4c2", func := "ctrie/ctrielaw08.DualRefuses", spec := "dualRefuses", inPlace := ["internal/bytealg.abigen_runtime_cmpstring"], unfollowed := true, recurses := true, apart := false, narrowed := true }
def DualRefusesUptoSaid : Prop := dualRefusesUptoRow.holds Try.pinned (OpenSpec.upto dualRefusesSpec)

/-- 'ctrielaw08.DualCounts', WHERE WHAT IT READS IS OF BULK AT MOST 1048576: true; the input reads as it did. -/
def dualCountsUptoRow : OpenClaim := { program := "ytkenhghaiedhnaa", sum := "297947dcb72769842b6a9e5a52cfc525856c6ec8109b983608bbc25e658dd4c2", func := "ctrie/ctrielaw08.DualCounts", spec := "dualCounts", inPlace := ["internal/bytealg.abigen_runtime_cmpstring"], unfollowed := true, recurses := true, apart := false, narrowed := true }
def DualCountsUptoSaid : Prop := dualCountsUptoRow.holds Try.pinned (OpenSpec.upto dualCountsSpec)

end Rows
end Go.Proofs.Ytkenhghaiedhnaa
