/-
  No cell of these rows narrows 'for every input' (looked for: loops, veiled, ifaces, maps, wideKeys, modest, calm, conditions, laid).
  DERIVED. THE GIVEN ROWS OF THIS SEAT. 5 by the template 'for every input the law returns true; each argument reads behind the call as it read before'; 0 by the template 'total and deterministic' (their statements: YtpjfeaccicmgoaaTotals.lean).
  GIVEN WITH THE SEED: the statements are not yours to turn. If you find one false, say at which input.
  Laid BY PROGRAM, IN A SANDBOX (cutbox-rows.mjs): the forced cells as the released guide's own fill.sh prints them over the translation 5ebbad8e0fed72c9… (all of the seat's roots in one cut). By AI agents, Wed Nov 11 2026. No macro, syntax, notation, axiom, sorry.
-/
import Derived.Test.YtpjfeaccicmgoaaChecked
import GoSem.Claim
import GoSem.ClaimJoined
import GoSem.ClaimMapViews
import Derived.JoinedTies
import Derived.KernelRfl
namespace Go.Proofs.Ytpjfeaccicmgoaa
/- THE CELL 'sum', in the pinned program and in every row, IS THE sha256 OF THE DUMP (.gsa) THAT YtpjfeaccicmgoaaProg.lean LOADS. Nothing in Lean hashes anything: it is a label: what it is worth is what the hold of that sum in a sandbox is worth. -/
noncomputable def Try.pinned : Pinned := { name := "ytpjfeaccicmgoaa", sum := "5ebbad8e0fed72c9982661505954986b1e8459053c451f4bac0939be5f4227fa", checked := Try.checked }
namespace Rows
def none {H : Type} : Left H := { results := [], args := [] }

/-- 'ctrielaw03.PairsExact': WHATEVER THE INPUT: true; the input reads as it did. -/
def pairsExactSpec : ChangeSpec := { name := "pairsExact", fn := fun _ => fun
  | [d1, d2, d3, d4] => { results := [.lit (.bool true)], args := [d1, d2, d3, d4] }
  | _ => none }
def pairsExactRow : OpenClaim := { program := "ytpjfeaccicmgoaa", sum := "5ebbad8e0fed72c9982661505954986b1e8459053c451f4bac0939be5f4227fa", func := "ctrie/ctrielaw03.PairsExact", spec := "pairsExact", inPlace := ["internal/bytealg.abigen_runtime_cmpstring"], unfollowed := true, recurses := true, apart := false }
def PairsExactSaid : Prop := pairsExactRow.holds Try.pinned (OpenSpec.ofChange pairsExactSpec)

/-- ITS FALSE NEIGHBOUR: 'it returns false'. Refute it at one input. -/
def pairsExactWrong : ChangeSpec := { name := "pairsExact", fn := fun _ => fun
  | [d1, d2, d3, d4] => { results := [.lit (.bool false)], args := [d1, d2, d3, d4] }
  | _ => none }
def PairsExactWrongFalsely : Prop := pairsExactRow.holds Try.pinned (OpenSpec.ofChange pairsExactWrong)

/-- 'ctrielaw03.PairsMaps': WHATEVER THE INPUT: true; the input reads as it did. -/
def pairsMapsSpec : ChangeSpec := { name := "pairsMaps", fn := fun _ => fun
  | [d1, d2, d3, d4] => { results := [.lit (.bool true)], args := [d1, d2, d3, d4] }
  | _ => none }
def pairsMapsRow : OpenClaim := { program := "ytpjfeaccicmgoaa", sum := "5ebbad8e0fed72c9982661505954986b1e8459053c451f4bac0939be5f4227fa", func := "ctrie/ctrielaw03.PairsMaps", spec := "pairsMaps", inPlace := ["internal/bytealg.abigen_runtime_cmpstring"], unfollowed := true, recurses := true, apart := false }
def PairsMapsSaid : Prop := pairsMapsRow.holds Try.pinned (OpenSpec.ofChange pairsMapsSpec)

/-- ITS FALSE NEIGHBOUR: 'it returns false'. Refute it at one input. -/
def pairsMapsWrong : ChangeSpec := { name := "pairsMaps", fn := fun _ => fun
  | [d1, d2, d3, d4] => { results := [.lit (.bool false)], args := [d1, d2, d3, d4] }
  | _ => none }
def PairsMapsWrongFalsely : Prop := pairsMapsRow.holds Try.pinned (OpenSpec.ofChange pairsMapsWrong)

/-- 'ctrielaw03.PairsCommute': WHATEVER THE INPUT: true; the input reads as it did. -/
def pairsCommuteSpec : ChangeSpec := { name := "pairsCommute", fn := fun _ => fun
  | [d1, d2, d3, d4, d5] => { results := [.lit (.bool true)], args := [d1, d2, d3, d4, d5] }
  | _ => none }
def pairsCommuteRow : OpenClaim := { program := "ytpjfeaccicmgoaa", sum := "5ebbad8e0fed72c9982661505954986b1e8459053c451f4bac0939be5f4227fa", func := "ctrie/ctrielaw03.PairsCommute", spec := "pairsCommute", inPlace := ["internal/bytealg.abigen_runtime_cmpstring"], unfollowed := true, recurses := true, apart := false }
def PairsCommuteSaid : Prop := pairsCommuteRow.holds Try.pinned (OpenSpec.ofChange pairsCommuteSpec)

/-- ITS FALSE NEIGHBOUR: 'it returns false'. Refute it at one input. -/
def pairsCommuteWrong : ChangeSpec := { name := "pairsCommute", fn := fun _ => fun
  | [d1, d2, d3, d4, d5] => { results := [.lit (.bool false)], args := [d1, d2, d3, d4, d5] }
  | _ => none }
def PairsCommuteWrongFalsely : Prop := pairsCommuteRow.holds Try.pinned (OpenSpec.ofChange pairsCommuteWrong)

/-- 'ctrielaw03.PairsLengths': WHATEVER THE INPUT: true; the input reads as it did. -/
def pairsLengthsSpec : ChangeSpec := { name := "pairsLengths", fn := fun _ => fun
  | [d1, d2, d3] => { results := [.lit (.bool true)], args := [d1, d2, d3] }
  | _ => none }
def pairsLengthsRow : OpenClaim := { program := "ytpjfeaccicmgoaa", sum := "5ebbad8e0fed72c9982661505954986b1e8459053c451f4bac0939be5f4227fa", func := "ctrie/ctrielaw03.PairsLengths", spec := "pairsLengths", inPlace := ["internal/bytealg.abigen_runtime_cmpstring"], unfollowed := true, recurses := true, apart := false }
def PairsLengthsSaid : Prop := pairsLengthsRow.holds Try.pinned (OpenSpec.ofChange pairsLengthsSpec)

/-- ITS FALSE NEIGHBOUR: 'it returns false'. Refute it at one input. -/
def pairsLengthsWrong : ChangeSpec := { name := "pairsLengths", fn := fun _ => fun
  | [d1, d2, d3] => { results := [.lit (.bool false)], args := [d1, d2, d3] }
  | _ => none }
def PairsLengthsWrongFalsely : Prop := pairsLengthsRow.holds Try.pinned (OpenSpec.ofChange pairsLengthsWrong)

/-- 'ctrielaw03.PairsKeeps': WHATEVER THE INPUT: true; the input reads as it did. -/
def pairsKeepsSpec : ChangeSpec := { name := "pairsKeeps", fn := fun _ => fun
  | [d1, d2, d3] => { results := [.lit (.bool true)], args := [d1, d2, d3] }
  | _ => none }
def pairsKeepsRow : OpenClaim := { program := "ytpjfeaccicmgoaa", sum := "5ebbad8e0fed72c9982661505954986b1e8459053c451f4bac0939be5f4227fa", func := "ctrie/ctrielaw03.PairsKeeps", spec := "pairsKeeps", inPlace := ["internal/bytealg.abigen_runtime_cmpstring"], unfollowed := true, recurses := true, apart := false }
def PairsKeepsSaid : Prop := pairsKeepsRow.holds Try.pinned (OpenSpec.ofChange pairsKeepsSpec)

/-- ITS FALSE NEIGHBOUR: 'it returns false'. Refute it at one input. -/
def pairsKeepsWrong : ChangeSpec := { name := "pairsKeeps", fn := fun _ => fun
  | [d1, d2, d3] => { results := [.lit (.bool false)], args := [d1, d2, d3] }
  | _ => none }
def PairsKeepsWrongFalsely : Prop := pairsKeepsRow.holds Try.pinned (OpenSpec.ofChange pairsKeepsWrong)

/- THE SECOND FORM. 'bulk': how many values and letters a reading holds, each counted each time it is reached (what is shared counts as often as it is met; a slice's spare places count too). A statement '..UptoSaid' is the law's where the arguments, and the package variables that the reading takes, are together of bulk at most 1048576: NARROWER than '..Said'. Prove '..Said' where nothing that the law and all that it calls make is longer than what came in: it says more and counts as full. Else prove '..UptoSaid'. A law counts once. -/
mutual
def uptoBulk {H : Type} : DataW H → Nat
  | .lit (.string bytes) => bytes.length + 1
  | .lit _ => 1
  | .nil => 1
  | .ptr d => uptoBulk d + 1
  | .slice elems spare => uptoBulkAll elems + uptoBulkAll spare + 1
  | .agg parts => uptoBulkAll parts + 1
  | .iface _ d => uptoBulk d + 1
  | .map entries => uptoBulkEntries entries + 1
  | .held _ => 1
def uptoBulkAll {H : Type} : List (DataW H) → Nat
  | [] => 0
  | d :: r => uptoBulk d + uptoBulkAll r
def uptoBulkEntries {H : Type} : List (Lit × DataW H) → Nat
  | [] => 0
  | x :: r => uptoBulkEntry x + uptoBulkEntries r
def uptoBulkEntry {H : Type} : Lit × DataW H → Nat
  | (.string bytes, d) => bytes.length + uptoBulk d + 1
  | (_, d) => uptoBulk d + 1
 end
def uptoSmall : (H : Type) → List (DataW H) → Bool := fun _ ds => decide (uptoBulkAll ds ≤ 1048576)
def OpenSpec.upto (s : _root_.Go.ChangeSpec) : _root_.Go.OpenSpec := { _root_.Go.OpenSpec.ofChange s with cond := some uptoSmall }

/-- 'ctrielaw03.PairsExact', WHERE WHAT IT READS IS OF BULK AT MOST 1048576: true; the input reads as it did. -/
def pairsExactUptoRow : OpenClaim := { program := "ytpjfeaccicmgoaa", sum := "5ebbad8e0fed72c9982661505954986b1e8459053c451f4bac0939be5f4227fa", func := "ctrie/ctrielaw03.PairsExact", spec := "pairsExact", inPlace := ["internal/bytealg.abigen_runtime_cmpstring"], unfollowed := true, recurses := true, apart := false, narrowed := true }
def PairsExactUptoSaid : Prop := pairsExactUptoRow.holds Try.pinned (OpenSpec.upto pairsExactSpec)

/-- 'ctrielaw03.PairsMaps', WHERE WHAT IT READS IS OF BULK AT MOST 1048576: true; the input reads as it did. -/
def pairsMapsUptoRow : OpenClaim := { program := "ytpjfeaccicmgoaa", sum := "5ebbad8e0fed72c9982661505954986b1e8459053c451f4bac0939be5f4227fa", func := "ctrie/ctrielaw03.PairsMaps", spec := "pairsMaps", inPlace := ["internal/bytealg.abigen_runtime_cmpstring"], unfollowed := true, recurses := true, apart := false, narrowed := true }
def PairsMapsUptoSaid : Prop := pairsMapsUptoRow.holds Try.pinned (OpenSpec.upto pairsMapsSpec)

/-- 'ctrielaw03.PairsCommute', WHERE WHAT IT READS IS OF BULK AT MOST 1048576: true; the input reads as it did. -/
def pairsCommuteUptoRow : OpenClaim := { program := "ytpjfeaccicmgoaa", sum := "5ebbad8e0fed72c9982661505954986b1e8459053c451f4bac0939be5f4227fa", func := "ctrie/ctrielaw03.PairsCommute", spec := "pairsCommute", inPlace := ["internal/bytealg.abigen_runtime_cmpstring"], unfollowed := true, recurses := true, apart := false, narrowed := true }
def PairsCommuteUptoSaid : Prop := pairsCommuteUptoRow.holds Try.pinned (OpenSpec.upto pairsCommuteSpec)

/-- 'ctrielaw03.PairsLengths', WHERE WHAT IT READS IS OF BULK AT MOST 1048576: true; the input reads as it did. -/
def pairsLengthsUptoRow : OpenClaim := { program := "ytpjfeaccicmgoaa", sum := "5ebbad8e0fed72c9982661505954986b1e8459053c451f4bac0939be5f4227fa", func := "ctrie/ctrielaw03.PairsLengths", spec := "pairsLengths", inPlace := ["internal/bytealg.abigen_runtime_cmpstring"], unfollowed := true, recurses := true, apart := false, narrowed := true }
def PairsLengthsUptoSaid : Prop := pairsLengthsUptoRow.holds Try.pinned (OpenSpec.upto pairsLengthsSpec)

/-- 'ctrielaw03.PairsKeeps', WHERE WHAT IT READS IS OF BULK AT MOST 1048576: true; the input reads as it did. -/
def pairsKeepsUptoRow : OpenClaim := { program := "ytpjfeaccicmgoaa", sum := "5ebbad8e0fed72c9982661505954986b1e8459053c451f4bac0939be5f4227fa", func := "ctrie/ctrielaw03.PairsKeeps", spec := "pairsKeeps", inPlace := ["internal/bytealg.abigen_runtime_cmpstring"], unfollowed := true, recurses := true, apart := false, narrowed := true }
def PairsKeepsUptoSaid : Prop := pairsKeepsUptoRow.holds Try.pinned (OpenSpec.upto pairsKeepsSpec)

end Rows
end Go.Proofs.Ytpjfeaccicmgoaa
