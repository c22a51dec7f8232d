/-
  Of a node: the fields that its kind has.
-/
import Derived.Test.YtbknbjabkhhlfaaWalksC
set_option linter.unusedVariables false
set_option maxRecDepth 100000
namespace Go.Proofs.Ytbknbjabkhhlfaa
open Go.Shelf Go.RowKit Go.Lib Go.Sort
/-- The node without the fields that its kind does not have. -/
def own (n : Nd) : Nd :=
  if n.kind = 2 then { Nd.zero with kind := n.kind, gen := n.gen, main := n.main }
  else if n.kind = 3 then { Nd.zero with kind := n.kind, bm := n.bm, bA := n.bA, bc := n.bc, bs := n.bs, prev := n.prev }
  else if n.kind = 4 then { Nd.zero with kind := n.kind, hash := n.hash, key := n.key, val := n.val }
  else if n.kind = 5 then { Nd.zero with kind := n.kind, hash := n.hash, key := n.key, val := n.val, prev := n.prev }
  else if n.kind = 6 then { Nd.zero with kind := n.kind, hash := n.hash, pA := n.pA, pc := n.pc, ps := n.ps, prev := n.prev }
  else if n.kind = 7 then { Nd.zero with kind := n.kind, old := n.old }
  else if n.kind = 8 then { Nd.zero with kind := n.kind, old := n.old, exp := n.exp, new := n.new, status := n.status }
  else { Nd.zero with kind := n.kind }
theorem u64_zero : U64 0 := by unfold U64; omega
theorem own_rd {w : World} {B : Nat} {n : Nd} (h : NRd w B n) : NRd w B (own n) := by
  unfold own
  repeat (split; exact ⟨by first | exact RdR.nil | exact h.r, by first | exact Rd.nil | exact h.p, by first | exact u64_zero | exact h.bm, by first | exact Nat.zero_le _ | exact h.bl, by first | exact Nat.zero_le _ | exact h.pl⟩)
  exact ⟨RdR.nil, Rd.nil, u64_zero, Nat.zero_le _, Nat.zero_le _⟩

end Go.Proofs.Ytbknbjabkhhlfaa
