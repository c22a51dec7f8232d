/-
  No cell of these rows narrows 'for every input' (looked for: loops, veiled, ifaces, maps, wideKeys, modest, calm, conditions, laid).
  DERIVED. THE GIVEN ROWS OF THIS SEAT. 7 by the template 'for every input the law returns true; each argument reads behind the call as it read before'; 0 by the template 'total and deterministic' (their statements: YtamocjmiiglefaaTotals.lean).
  GIVEN WITH THE SEED: the statements are not yours to turn. If you find one false, say at which input.
  Laid BY PROGRAM, IN A SANDBOX (cutbox-rows.mjs): the forced cells as the released guide's own fill.sh prints them over the translation b9b268ae9d8ad2d4… (all of the seat's roots in one cut). By AI agents, Wed Nov 11 2026. No macro, syntax, notation, axiom, sorry.
-/
import Derived.Test.YtamocjmiiglefaaChecked
import GoSem.Claim
import GoSem.ClaimJoined
import GoSem.ClaimMapViews
import Derived.JoinedTies
import Derived.KernelRfl
namespace Go.Proofs.Ytamocjmiiglefaa
/- THE CELL 'sum', in the pinned program and in every row, IS THE sha256 OF THE DUMP (.gsa) THAT YtamocjmiiglefaaProg.lean LOADS. Nothing in Lean hashes anything: it is a label: what it is worth is what the hold of that sum in a sandbox is worth. -/
noncomputable def Try.pinned : Pinned := { name := "ytamocjmiiglefaa", sum := "b9b268ae9d8ad2d47d2fb560dc889e98d289533c06b07c6563d50b3e55778545", checked := Try.checked }
namespace Rows
def none {H : Type} : Left H := { results := [], args := [] }

/-- 'ctrielaw01.KeyhashHashes': WHATEVER THE INPUT: true; the input reads as it did. -/
def keyhashHashesSpec : ChangeSpec := { name := "keyhashHashes", fn := fun _ => fun
  | [d1, d2] => { results := [.lit (.bool true)], args := [d1, d2] }
  | _ => none }
def keyhashHashesRow : OpenClaim := { program := "ytamocjmiiglefaa", sum := "b9b268ae9d8ad2d47d2fb560dc889e98d289533c06b07c6563d50b3e55778545", func := "ctrie/ctrielaw01.KeyhashHashes", spec := "keyhashHashes", apart := false }
def KeyhashHashesSaid : Prop := keyhashHashesRow.holds Try.pinned (OpenSpec.ofChange keyhashHashesSpec)

/-- ITS FALSE NEIGHBOUR: 'it returns false'. Refute it at one input. -/
def keyhashHashesWrong : ChangeSpec := { name := "keyhashHashes", fn := fun _ => fun
  | [d1, d2] => { results := [.lit (.bool false)], args := [d1, d2] }
  | _ => none }
def KeyhashHashesWrongFalsely : Prop := keyhashHashesRow.holds Try.pinned (OpenSpec.ofChange keyhashHashesWrong)

/-- 'ctrielaw01.KeyhashSlices': WHATEVER THE INPUT: true; the input reads as it did. -/
def keyhashSlicesSpec : ChangeSpec := { name := "keyhashSlices", fn := fun _ => fun
  | [d1, d2, d3, d4] => { results := [.lit (.bool true)], args := [d1, d2, d3, d4] }
  | _ => none }
def keyhashSlicesRow : OpenClaim := { program := "ytamocjmiiglefaa", sum := "b9b268ae9d8ad2d47d2fb560dc889e98d289533c06b07c6563d50b3e55778545", func := "ctrie/ctrielaw01.KeyhashSlices", spec := "keyhashSlices", apart := false }
def KeyhashSlicesSaid : Prop := keyhashSlicesRow.holds Try.pinned (OpenSpec.ofChange keyhashSlicesSpec)

/-- ITS FALSE NEIGHBOUR: 'it returns false'. Refute it at one input. -/
def keyhashSlicesWrong : ChangeSpec := { name := "keyhashSlices", fn := fun _ => fun
  | [d1, d2, d3, d4] => { results := [.lit (.bool false)], args := [d1, d2, d3, d4] }
  | _ => none }
def KeyhashSlicesWrongFalsely : Prop := keyhashSlicesRow.holds Try.pinned (OpenSpec.ofChange keyhashSlicesWrong)

/-- 'ctrielaw01.KeyhashOrder': WHATEVER THE INPUT: true; the input reads as it did. -/
def keyhashOrderSpec : ChangeSpec := { name := "keyhashOrder", fn := fun _ => fun
  | [d1, d2, d3, d4] => { results := [.lit (.bool true)], args := [d1, d2, d3, d4] }
  | _ => none }
def keyhashOrderRow : OpenClaim := { program := "ytamocjmiiglefaa", sum := "b9b268ae9d8ad2d47d2fb560dc889e98d289533c06b07c6563d50b3e55778545", func := "ctrie/ctrielaw01.KeyhashOrder", spec := "keyhashOrder", apart := false }
def KeyhashOrderSaid : Prop := keyhashOrderRow.holds Try.pinned (OpenSpec.ofChange keyhashOrderSpec)

/-- ITS FALSE NEIGHBOUR: 'it returns false'. Refute it at one input. -/
def keyhashOrderWrong : ChangeSpec := { name := "keyhashOrder", fn := fun _ => fun
  | [d1, d2, d3, d4] => { results := [.lit (.bool false)], args := [d1, d2, d3, d4] }
  | _ => none }
def KeyhashOrderWrongFalsely : Prop := keyhashOrderRow.holds Try.pinned (OpenSpec.ofChange keyhashOrderWrong)

/-- 'ctrielaw01.KeyhashTotal': WHATEVER THE INPUT: true; the input reads as it did. -/
def keyhashTotalSpec : ChangeSpec := { name := "keyhashTotal", fn := fun _ => fun
  | [d1, d2, d3, d4, d5, d6] => { results := [.lit (.bool true)], args := [d1, d2, d3, d4, d5, d6] }
  | _ => none }
def keyhashTotalRow : OpenClaim := { program := "ytamocjmiiglefaa", sum := "b9b268ae9d8ad2d47d2fb560dc889e98d289533c06b07c6563d50b3e55778545", func := "ctrie/ctrielaw01.KeyhashTotal", spec := "keyhashTotal", apart := false }
def KeyhashTotalSaid : Prop := keyhashTotalRow.holds Try.pinned (OpenSpec.ofChange keyhashTotalSpec)

/-- ITS FALSE NEIGHBOUR: 'it returns false'. Refute it at one input. -/
def keyhashTotalWrong : ChangeSpec := { name := "keyhashTotal", fn := fun _ => fun
  | [d1, d2, d3, d4, d5, d6] => { results := [.lit (.bool false)], args := [d1, d2, d3, d4, d5, d6] }
  | _ => none }
def KeyhashTotalWrongFalsely : Prop := keyhashTotalRow.holds Try.pinned (OpenSpec.ofChange keyhashTotalWrong)

/-- 'ctrielaw01.KeyhashRebuilds': WHATEVER THE INPUT: true; the input reads as it did. -/
def keyhashRebuildsSpec : ChangeSpec := { name := "keyhashRebuilds", fn := fun _ => fun
  | [d] => { results := [.lit (.bool true)], args := [d] }
  | _ => none }
def keyhashRebuildsRow : OpenClaim := { program := "ytamocjmiiglefaa", sum := "b9b268ae9d8ad2d47d2fb560dc889e98d289533c06b07c6563d50b3e55778545", func := "ctrie/ctrielaw01.KeyhashRebuilds", spec := "keyhashRebuilds", apart := false }
def KeyhashRebuildsSaid : Prop := keyhashRebuildsRow.holds Try.pinned (OpenSpec.ofChange keyhashRebuildsSpec)

/-- ITS FALSE NEIGHBOUR: 'it returns false'. Refute it at one input. -/
def keyhashRebuildsWrong : ChangeSpec := { name := "keyhashRebuilds", fn := fun _ => fun
  | [d] => { results := [.lit (.bool false)], args := [d] }
  | _ => none }
def KeyhashRebuildsWrongFalsely : Prop := keyhashRebuildsRow.holds Try.pinned (OpenSpec.ofChange keyhashRebuildsWrong)

/-- 'ctrielaw01.KeyhashMasks': WHATEVER THE INPUT: true; the input reads as it did. -/
def keyhashMasksSpec : ChangeSpec := { name := "keyhashMasks", fn := fun _ => fun
  | [d1, d2, d3, d4] => { results := [.lit (.bool true)], args := [d1, d2, d3, d4] }
  | _ => none }
def keyhashMasksRow : OpenClaim := { program := "ytamocjmiiglefaa", sum := "b9b268ae9d8ad2d47d2fb560dc889e98d289533c06b07c6563d50b3e55778545", func := "ctrie/ctrielaw01.KeyhashMasks", spec := "keyhashMasks", apart := false }
def KeyhashMasksSaid : Prop := keyhashMasksRow.holds Try.pinned (OpenSpec.ofChange keyhashMasksSpec)

/-- ITS FALSE NEIGHBOUR: 'it returns false'. Refute it at one input. -/
def keyhashMasksWrong : ChangeSpec := { name := "keyhashMasks", fn := fun _ => fun
  | [d1, d2, d3, d4] => { results := [.lit (.bool false)], args := [d1, d2, d3, d4] }
  | _ => none }
def KeyhashMasksWrongFalsely : Prop := keyhashMasksRow.holds Try.pinned (OpenSpec.ofChange keyhashMasksWrong)

/-- 'ctrielaw01.KeyhashSteps': WHATEVER THE INPUT: true; the input reads as it did. -/
def keyhashStepsSpec : ChangeSpec := { name := "keyhashSteps", fn := fun _ => fun
  | [d1, d2] => { results := [.lit (.bool true)], args := [d1, d2] }
  | _ => none }
def keyhashStepsRow : OpenClaim := { program := "ytamocjmiiglefaa", sum := "b9b268ae9d8ad2d47d2fb560dc889e98d289533c06b07c6563d50b3e55778545", func := "ctrie/ctrielaw01.KeyhashSteps", spec := "keyhashSteps", apart := false }
def KeyhashStepsSaid : Prop := keyhashStepsRow.holds Try.pinned (OpenSpec.ofChange keyhashStepsSpec)

/-- ITS FALSE NEIGHBOUR: 'it returns false'. Refute it at one input. -/
def keyhashStepsWrong : ChangeSpec := { name := "keyhashSteps", fn := fun _ => fun
  | [d1, d2] => { results := [.lit (.bool false)], args := [d1, d2] }
  | _ => none }
def KeyhashStepsWrongFalsely : Prop := keyhashStepsRow.holds Try.pinned (OpenSpec.ofChange keyhashStepsWrong)

/- THE SECOND FORM. 'bulk': how many values and letters a reading holds, each counted each time it is reached (what is shared counts as often as it is met; a slice's spare places count too). A statement '..UptoSaid' is the law's where the arguments, and the package variables that the reading takes, are together of bulk at most 1048576: NARROWER than '..Said'. Prove '..Said' where nothing that the law and all that it calls make is longer than what came in: it says more and counts as full. Else prove '..UptoSaid'. A law counts once. -/
mutual
def uptoBulk {H : Type} : DataW H → Nat
  | .lit (.string bytes) => bytes.length + 1
  | .lit _ => 1
  | .nil => 1
  | .ptr d => uptoBulk d + 1
  | .slice elems spare => uptoBulkAll elems + uptoBulkAll spare + 1
  | .agg parts => uptoBulkAll parts + 1
  | .iface _ d => uptoBulk d + 1
  | .map entries => uptoBulkEntries entries + 1
  | .held _ => 1
def uptoBulkAll {H : Type} : List (DataW H) → Nat
  | [] => 0
  | d :: r => uptoBulk d + uptoBulkAll r
def uptoBulkEntries {H : Type} : List (Lit × DataW H) → Nat
  | [] => 0
  | x :: r => uptoBulkEntry x + uptoBulkEntries r
def uptoBulkEntry {H : Type} : Lit × DataW H → Nat
  | (.string bytes, d) => bytes.length + uptoBulk d + 1
  | (_, d) => uptoBulk d + 1
 end
def uptoSmall : (H : Type) → List (DataW H) → Bool := fun _ ds => decide (uptoBulkAll ds ≤ 1048576)
def OpenSpec.upto (s : _root_.Go.ChangeSpec) : _root_.Go.OpenSpec := { _root_.Go.OpenSpec.ofChange s with cond := some uptoSmall }

/-- 'ctrielaw01.KeyhashHashes', WHERE WHAT IT READS IS OF BULK AT MOST 1048576: true; the input reads as it did. -/
def keyhashHashesUptoRow : OpenClaim := { program := "ytamocjmiiglefaa", sum := "b9b268ae9d8ad2d47d2fb560dc889e98d289533c06b07c6563d50b3e55778545", func := "ctrie/ctrielaw01.KeyhashHashes", spec := "keyhashHashes", apart := false, narrowed := true }
def KeyhashHashesUptoSaid : Prop := keyhashHashesUptoRow.holds Try.pinned (OpenSpec.upto keyhashHashesSpec)

/-- 'ctrielaw01.KeyhashSlices', WHERE WHAT IT READS IS OF BULK AT MOST 1048576: true; the input reads as it did. -/
def keyhashSlicesUptoRow : OpenClaim := { program := "ytamocjmiiglefaa", sum := "b9b268ae9d8ad2d47d2fb560dc889e98d289533c06b07c6563d50b3e55778545", func := "ctrie/ctrielaw01.KeyhashSlices", spec := "keyhashSlices", apart := false, narrowed := true }
def KeyhashSlicesUptoSaid : Prop := keyhashSlicesUptoRow.holds Try.pinned (OpenSpec.upto keyhashSlicesSpec)

/-- 'ctrielaw01.KeyhashOrder', WHERE WHAT IT READS IS OF BULK AT MOST 1048576: true; the input reads as it did. -/
def keyhashOrderUptoRow : OpenClaim := { program := "ytamocjmiiglefaa", sum := "b9b268ae9d8ad2d47d2fb560dc889e98d289533c06b07c6563d50b3e55778545", func := "ctrie/ctrielaw01.KeyhashOrder", spec := "keyhashOrder", apart := false, narrowed := true }
def KeyhashOrderUptoSaid : Prop := keyhashOrderUptoRow.holds Try.pinned (OpenSpec.upto keyhashOrderSpec)

/-- 'ctrielaw01.KeyhashTotal', WHERE WHAT IT READS IS OF BULK AT MOST 1048576: true; the input reads as it did. -/
def keyhashTotalUptoRow : OpenClaim := { program := "ytamocjmiiglefaa", sum := "b9b268ae9d8ad2d47d2fb560dc889e98d289533c06b07c6563d50b3e55778545", func := "ctrie/ctrielaw01.KeyhashTotal", spec := "keyhashTotal", apart := false, narrowed := true }
def KeyhashTotalUptoSaid : Prop := keyhashTotalUptoRow.holds Try.pinned (OpenSpec.upto keyhashTotalSpec)

/-- 'ctrielaw01.KeyhashRebuilds', WHERE WHAT IT READS IS OF BULK AT MOST 1048576: true; the input reads as it did. -/
def keyhashRebuildsUptoRow : OpenClaim := { program := "ytamocjmiiglefaa", sum := "b9b268ae9d8ad2d47d2fb560dc889e98d289533c06b07c6563d50b3e55778545", func := "ctrie/ctrielaw01.KeyhashRebuilds", spec := "keyhashRebuilds", apart := false, narrowed := true }
def KeyhashRebuildsUptoSaid : Prop := keyhashRebuildsUptoRow.holds Try.pinned (OpenSpec.upto keyhashRebuildsSpec)

/-- 'ctrielaw01.KeyhashMasks', WHERE WHAT IT READS IS OF BULK AT MOST 1048576: true; the input reads as it did. -/
def keyhashMasksUptoRow : OpenClaim := { program := "ytamocjmiiglefaa", sum := "b9b268ae9d8ad2d47d2fb560dc889e98d289533c06b07c6563d50b3e55778545", func := "ctrie/ctrielaw01.KeyhashMasks", spec := "keyhashMasks", apart := false, narrowed := true }
def KeyhashMasksUptoSaid : Prop := keyhashMasksUptoRow.holds Try.pinned (OpenSpec.upto keyhashMasksSpec)

/-- 'ctrielaw01.KeyhashSteps', WHERE WHAT IT READS IS OF BULK AT MOST 1048576: true; the input reads as it did. -/
def keyhashStepsUptoRow : OpenClaim := { program := "ytamocjmiiglefaa", sum := "b9b268ae9d8ad2d47d2fb560dc889e98d289533c06b07c6563d50b3e55778545", func := "ctrie/ctrielaw01.KeyhashSteps", spec := "keyhashSteps", apart := false, narrowed := true }
def KeyhashStepsUptoSaid : Prop := keyhashStepsUptoRow.holds Try.pinned (OpenSpec.upto keyhashStepsSpec)

end Rows
end Go.Proofs.Ytamocjmiiglefaa
