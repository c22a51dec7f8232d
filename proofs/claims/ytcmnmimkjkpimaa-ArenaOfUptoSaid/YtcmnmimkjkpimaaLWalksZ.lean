/-
  The load of a node, whole: as one step.
-/
import Derived.Test.YtcmnmimkjkpimaaLWalksY
set_option linter.unusedVariables false
set_option maxRecDepth 100000
namespace Go.Proofs.Ytcmnmimkjkpimaa
open Go.Shelf Go.RowKit Go.Lib Go.Sort

/-! ### The load of a node, whole -/
def loadNode (v : Value) : Sem Value := Instr.loadAt 44 v
theorem exec_load28 (ρ : Operand → Value) (dst : Option Tmp) (x : Operand) (ty : TypeId) (pos : String) (after : Array Edge) (guard : Option (Nat × Bool)) :
    execOp ρ { dst, op := .load 44 x, type := ty, pos, after, guard } = (do pure (.value (← loadNode (ρ x)))) := rfl
theorem node_cellO {V : World} {b o : Nat} {cs : Array Value} (h : ∀ j, j < 14 → V.cell? ⟨b, o + j, none⟩ = cs[j]?) {i : Nat} {v : Value} (hi : i < 14) (hv : cs[i]? = some v) : V.cell? ⟨b, o + i, none⟩ = some v := (h i hi).trans hv
theorem run_loadNodeAt {V : World} {b o : Nat} {n : Nd} (h : ∀ j, j < 14 → V.cell? ⟨b, o + j, none⟩ = n.cs[j]?) : Sem.run Try.prog (loadNode (.pointer (some ⟨b, o, none⟩))) V = .ok (.agg n.cs) V := by
  have c0 : V.cell? ⟨b, o, none⟩ = some (.int .i64 n.kind) := node_cellO h (i := 0) (by omega) rfl
  have c1 := node_cellO h (i := 1) (v := .int .i64 n.gen) (by omega) rfl
  have c2 := node_cellO h (i := 2) (v := .int .i64 n.main) (by omega) rfl
  have c3 := node_cellO h (i := 3) (v := .int .u64 n.bm) (by omega) rfl
  have c4 := node_cellO h (i := 4) (v := .slice n.bA n.bs.length n.bc) (by omega) rfl
  have c5 := node_cellO h (i := 5) (v := .int .u64 n.hash) (by omega) rfl
  have c6 := node_cellO h (i := 6) (v := .string n.key) (by omega) rfl
  have c7 := node_cellO h (i := 7) (v := .int .u64 n.val) (by omega) rfl
  have c8 := node_cellO h (i := 8) (v := .slice n.pA n.ps.length n.pc) (by omega) rfl
  have c9 := node_cellO h (i := 9) (v := .int .i64 n.prev) (by omega) rfl
  have c10 := node_cellO h (i := 10) (v := .int .i64 n.old) (by omega) rfl
  have c11 := node_cellO h (i := 11) (v := .int .i64 n.exp) (by omega) rfl
  have c12 := node_cellO h (i := 12) (v := .int .i64 n.new) (by omega) rfl
  have c13 := node_cellO h (i := 13) (v := .int .i64 n.status) (by omega) rfl
  clear h
  unfold loadNode Nd.cs
  go_simp
theorem run_loadNode {V : World} {b : Nat} {n : Nd} (h : V.heap[b]? = some (.cells n.cs 44 (0, 0))) : Sem.run Try.prog (loadNode (.pointer (some ⟨b, 0, none⟩))) V = .ok (.agg n.cs) V :=
  run_loadNodeAt fun j _ => by rw [Nat.zero_add]; exact cell_of_row V b j n.cs 44 (0, 0) h
theorem run_loadNode_drew {V : World} {b : Nat} {n : Nd} (h : V.heap[b]? = some (.cells n.cs 44 (0, 0))) : Sem.run Try.prog (loadNode (.pointer (some ⟨b, 0, none⟩))) V.drew = .ok (.agg n.cs) V.drew := run_loadNode h
theorem run_loadNode_alloc {V : World} {b : Nat} {n : Nd} (h : V.heap[b]? = some (.cells n.cs 44 (0, 0))) (o : Obj) : Sem.run Try.prog (loadNode (.pointer (some ⟨b, 0, none⟩))) (V.alloc o) = .ok (.agg n.cs) (V.alloc o) :=
  run_loadNode ((Below.heap_alloc V o b (Array.getElem?_eq_some_iff.1 h).1).trans h)
theorem run_loadNode_grown {V : World} {b : Nat} {n : Nd} (h : V.heap[b]? = some (.cells n.cs 44 (0, 0))) (m : Nat) (os : Array Obj) : Sem.run Try.prog (loadNode (.pointer (some ⟨b, 0, none⟩))) (grow (V.drewN m) os) = .ok (.agg n.cs) (grow (V.drewN m) os) :=
  run_loadNode ((heap_grow_old (V.drewN m) os (show b < V.heap.size from (Array.getElem?_eq_some_iff.1 h).1)).trans h)
end Go.Proofs.Ytcmnmimkjkpimaa
