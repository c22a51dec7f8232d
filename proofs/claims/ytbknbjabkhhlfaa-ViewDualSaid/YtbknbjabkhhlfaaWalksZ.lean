/-
  A slice literal of nodes, as one block of cells.
-/
import Derived.Test.YtbknbjabkhhlfaaMemR
import Derived.Great.BuildSlice
set_option linter.unusedVariables false
set_option maxRecDepth 100000
namespace Go.Proofs.Ytbknbjabkhhlfaa
open Go.Shelf Go.RowKit Go.Lib Go.Sort

def rowOf (css : List (Array Value)) : Array Value := Array.ofFn fun k : Fin (css.length * 14) => (css.getD (k / 14) #[]).getD (k % 14) undef
theorem rowOf_size (css : List (Array Value)) : (rowOf css).size = css.length * 14 := by simp [rowOf]
theorem rowOf_get {css : List (Array Value)} {i j : Nat} {c : Array Value} {v : Value} (hi : css[i]? = some c) (hj : j < 14) (hv : c[j]? = some v) : (rowOf css)[i * 14 + j]? = some v := by
  have hil := (List.getElem?_eq_some_iff.1 hi).1
  have hk : i * 14 + j < css.length * 14 := by omega
  rw [Array.getElem?_eq_getElem (by rw [rowOf_size]; exact hk)]
  simp only [rowOf, Array.getElem_ofFn]
  rw [show (i * 14 + j) / 14 = i by omega, show (i * 14 + j) % 14 = j by omega, List.getD_eq_getElem?_getD, hi]
  simp only [Option.getD_some]
  rw [Array.getD_eq_getD_getElem?, hv]
  rfl
def buildNodes (css : List (Array Value)) : Sem Value := Instr.buildSlice 36 css.length ((css.zipIdx.map fun x => (x.2, Value.agg x.1)).toArray)
theorem nodeInfo : (Try.prog.info? 35).map (fun i => (i.size, i.zero.isSome)) = some (14, true) := by kernel_rfl
theorem nodeZero : ((Try.prog.info? 35).bind (·.zero)).map (fun z => z.cells.size) = some 14 := by kernel_rfl
theorem run_buildNodes (css : List (Array Value)) (h : css.all (fun c => c.size == 14) = true) (hpos : css.length ≠ 0) (hs : css.length ≤ 123) (w : World) :
    Sem.run Try.prog (buildNodes css) w = .ok (.slice (some ⟨w.heap.size, 0, none⟩) css.length css.length) (w.alloc (.cells (rowOf css) 35)) := by
  cases hie : Try.prog.info? 35 with
  | none => have := nodeInfo; simp [hie] at this
  | some ie =>
    have h1 := nodeInfo
    have h2 := nodeZero
    simp only [hie, Option.map_some, Option.some.injEq, Prod.mk.injEq, Option.bind_some] at h1 h2
    obtain ⟨hsz, hz⟩ := h1
    obtain ⟨z, hzz⟩ := Option.isSome_iff_exists.1 hz
    rw [hzz] at h2
    simp only [Option.map_some, Option.some.injEq] at h2
    refine run_buildSlice w 36 35 css.length _ (rowOf css) ie z Try.underlying36 hie hzz (by rw [hsz]; omega) (by rw [hsz]; omega) ?_
    rw [hsz]
    have hall : ∀ v ∈ css.map Value.agg, v.cells.size = 14 := fun v hv => by
      obtain ⟨c, hc, rfl⟩ := List.mem_map.1 hv
      have := List.all_eq_true.1 h c hc
      simpa [Value.cells] using this
    obtain ⟨r, hr, hrs, hrk⟩ := Go.Great.fill_dense (s := 14) (by omega) (css.map Value.agg) 0 ((Array.range (css.length * 14)).map (z.cells[· % z.cells.size]!)) hall (by simp)
    have e : ((css.map Value.agg).zipIdx 0).map (fun x => (x.2, x.1)) = (css.zipIdx.map fun x => (x.2, Value.agg x.1)) := by
      rw [List.zipIdx_map, List.map_map]
      rfl
    rw [e] at hr
    rw [show ((css.zipIdx.map fun x => (x.2, Value.agg x.1)).toArray).toList = (css.zipIdx.map fun x => (x.2, Value.agg x.1)) from rfl, hr]
    congr 1
    apply Array.ext_getElem?
    intro k
    rw [hrk k]
    by_cases hk : k < css.length * 14
    · rw [if_pos (by simp; omega)]
      have hkd : k / 14 < css.length := by omega
      have hc := List.getElem?_eq_getElem hkd
      have hcs : (css[k / 14]).size = 14 := by
        have := List.all_eq_true.1 h _ (List.getElem_mem hkd)
        simpa using this
      have hv := Array.getElem?_eq_getElem (xs := css[k / 14]) (i := k % 14) (by rw [hcs]; omega)
      rw [show (rowOf css)[k]? = (rowOf css)[k / 14 * 14 + k % 14]? by congr 1; omega, rowOf_get hc (by omega) hv]
      simp only [Nat.sub_zero, List.getElem?_map, hc, Option.map_some, Option.bind_some, Value.cells]
      exact hv
    · rw [if_neg (by simp; omega)]
      rw [Array.getElem?_eq_none (by simp; omega), Array.getElem?_eq_none (by rw [rowOf_size]; omega)]
/-- The operation itself, its operands' values side by side. -/
def buildVals (vs : List Value) : Sem Value := Instr.buildSlice 36 vs.length ((vs.zipIdx.map fun x => (x.2, x.1)).toArray)
theorem exec_build7 (ρ : Operand → Value) (dst : Option Tmp) (x0 x1 x2 x3 x4 x5 x6 : Operand) (ty : TypeId) (pos : String) (after : Array Edge) (guard : Option (Nat × Bool)) :
    execOp ρ { dst, op := .buildSlice 36 7 #[(0, x0), (1, x1), (2, x2), (3, x3), (4, x4), (5, x5), (6, x6)], type := ty, pos, after, guard } = (do pure (.value (← buildVals [ρ x0, ρ x1, ρ x2, ρ x3, ρ x4, ρ x5, ρ x6]))) := by
  have e : ((#[(0, x0), (1, x1), (2, x2), (3, x3), (4, x4), (5, x5), (6, x6)] : Array (Nat × Operand)).map fun (i, x) => (i, ρ x)) = (([ρ x0, ρ x1, ρ x2, ρ x3, ρ x4, ρ x5, ρ x6].zipIdx.map fun x => (x.2, x.1)).toArray) := by simp [List.zipIdx]
  unfold execOp buildVals
  dsimp only
  rw [e]
  rfl
theorem exec_build4 (ρ : Operand → Value) (dst : Option Tmp) (x0 x1 x2 x3 : Operand) (ty : TypeId) (pos : String) (after : Array Edge) (guard : Option (Nat × Bool)) :
    execOp ρ { dst, op := .buildSlice 36 4 #[(0, x0), (1, x1), (2, x2), (3, x3)], type := ty, pos, after, guard } = (do pure (.value (← buildVals [ρ x0, ρ x1, ρ x2, ρ x3]))) := by
  have e : ((#[(0, x0), (1, x1), (2, x2), (3, x3)] : Array (Nat × Operand)).map fun (i, x) => (i, ρ x)) = (([ρ x0, ρ x1, ρ x2, ρ x3].zipIdx.map fun x => (x.2, x.1)).toArray) := by simp [List.zipIdx]
  unfold execOp buildVals
  dsimp only
  rw [e]
  rfl
theorem exec_build2 (ρ : Operand → Value) (dst : Option Tmp) (x0 x1 : Operand) (ty : TypeId) (pos : String) (after : Array Edge) (guard : Option (Nat × Bool)) :
    execOp ρ { dst, op := .buildSlice 36 2 #[(0, x0), (1, x1)], type := ty, pos, after, guard } = (do pure (.value (← buildVals [ρ x0, ρ x1]))) := by
  have e : ((#[(0, x0), (1, x1)] : Array (Nat × Operand)).map fun (i, x) => (i, ρ x)) = (([ρ x0, ρ x1].zipIdx.map fun x => (x.2, x.1)).toArray) := by simp [List.zipIdx]
  unfold execOp buildVals
  dsimp only
  rw [e]
  rfl
theorem run_build7 (a b c d e f g : Array Value) (h : [a, b, c, d, e, f, g].all (fun c => c.size == 14) = true) (w : World) :
    Sem.run Try.prog (buildVals [.agg a, .agg b, .agg c, .agg d, .agg e, .agg f, .agg g]) w = .ok (.slice (some ⟨w.heap.size, 0, none⟩) 7 7) (w.alloc (.cells (rowOf [a, b, c, d, e, f, g]) 35)) := run_buildNodes [a, b, c, d, e, f, g] h (by simp) (by simp) w
theorem run_build4 (a b c d : Array Value) (h : [a, b, c, d].all (fun c => c.size == 14) = true) (w : World) :
    Sem.run Try.prog (buildVals [.agg a, .agg b, .agg c, .agg d]) w = .ok (.slice (some ⟨w.heap.size, 0, none⟩) 4 4) (w.alloc (.cells (rowOf [a, b, c, d]) 35)) := run_buildNodes [a, b, c, d] h (by simp) (by simp) w
theorem run_build2 (a b : Array Value) (h : [a, b].all (fun c => c.size == 14) = true) (w : World) :
    Sem.run Try.prog (buildVals [.agg a, .agg b]) w = .ok (.slice (some ⟨w.heap.size, 0, none⟩) 2 2) (w.alloc (.cells (rowOf [a, b]) 35)) := run_buildNodes [a, b] h (by simp) (by simp) w
theorem cs_size14 (n : Nd) : n.cs.size = 14 := rfl
end Go.Proofs.Ytbknbjabkhhlfaa
/-
  The load of a node, whole: as one step.
-/
set_option linter.unusedVariables false
set_option maxRecDepth 100000
namespace Go.Proofs.Ytbknbjabkhhlfaa
open Go.Shelf Go.RowKit Go.Lib Go.Sort

/-! ### The load of a node, whole -/
def loadNode (v : Value) : Sem Value := Instr.loadAt 35 v
theorem exec_load28 (ρ : Operand → Value) (dst : Option Tmp) (x : Operand) (ty : TypeId) (pos : String) (after : Array Edge) (guard : Option (Nat × Bool)) :
    execOp ρ { dst, op := .load 35 x, type := ty, pos, after, guard } = (do pure (.value (← loadNode (ρ x)))) := rfl
theorem node_cellO {V : World} {b o : Nat} {cs : Array Value} (h : ∀ j, j < 14 → V.cell? ⟨b, o + j, none⟩ = cs[j]?) {i : Nat} {v : Value} (hi : i < 14) (hv : cs[i]? = some v) : V.cell? ⟨b, o + i, none⟩ = some v := (h i hi).trans hv
theorem run_loadNodeAt {V : World} {b o : Nat} {n : Nd} (h : ∀ j, j < 14 → V.cell? ⟨b, o + j, none⟩ = n.cs[j]?) : Sem.run Try.prog (loadNode (.pointer (some ⟨b, o, none⟩))) V = .ok (.agg n.cs) V := by
  have c0 : V.cell? ⟨b, o, none⟩ = some (.int .i64 n.kind) := node_cellO h (i := 0) (by omega) rfl
  have c1 := node_cellO h (i := 1) (v := .int .i64 n.gen) (by omega) rfl
  have c2 := node_cellO h (i := 2) (v := .int .i64 n.main) (by omega) rfl
  have c3 := node_cellO h (i := 3) (v := .int .u64 n.bm) (by omega) rfl
  have c4 := node_cellO h (i := 4) (v := .slice n.bA n.bs.length n.bc) (by omega) rfl
  have c5 := node_cellO h (i := 5) (v := .int .u64 n.hash) (by omega) rfl
  have c6 := node_cellO h (i := 6) (v := .string n.key) (by omega) rfl
  have c7 := node_cellO h (i := 7) (v := .int .u64 n.val) (by omega) rfl
  have c8 := node_cellO h (i := 8) (v := .slice n.pA n.ps.length n.pc) (by omega) rfl
  have c9 := node_cellO h (i := 9) (v := .int .i64 n.prev) (by omega) rfl
  have c10 := node_cellO h (i := 10) (v := .int .i64 n.old) (by omega) rfl
  have c11 := node_cellO h (i := 11) (v := .int .i64 n.exp) (by omega) rfl
  have c12 := node_cellO h (i := 12) (v := .int .i64 n.new) (by omega) rfl
  have c13 := node_cellO h (i := 13) (v := .int .i64 n.status) (by omega) rfl
  clear h
  unfold loadNode Nd.cs
  go_simp
theorem run_loadNode {V : World} {b : Nat} {n : Nd} (h : V.heap[b]? = some (.cells n.cs 35 (0, 0))) : Sem.run Try.prog (loadNode (.pointer (some ⟨b, 0, none⟩))) V = .ok (.agg n.cs) V :=
  run_loadNodeAt fun j _ => by rw [Nat.zero_add]; exact cell_of_row V b j n.cs 35 (0, 0) h
theorem run_loadNode_drew {V : World} {b : Nat} {n : Nd} (h : V.heap[b]? = some (.cells n.cs 35 (0, 0))) : Sem.run Try.prog (loadNode (.pointer (some ⟨b, 0, none⟩))) V.drew = .ok (.agg n.cs) V.drew := run_loadNode h
theorem run_loadNode_alloc {V : World} {b : Nat} {n : Nd} (h : V.heap[b]? = some (.cells n.cs 35 (0, 0))) (o : Obj) : Sem.run Try.prog (loadNode (.pointer (some ⟨b, 0, none⟩))) (V.alloc o) = .ok (.agg n.cs) (V.alloc o) :=
  run_loadNode ((Below.heap_alloc V o b (Array.getElem?_eq_some_iff.1 h).1).trans h)
theorem run_loadNode_grown {V : World} {b : Nat} {n : Nd} (h : V.heap[b]? = some (.cells n.cs 35 (0, 0))) (m : Nat) (os : Array Obj) : Sem.run Try.prog (loadNode (.pointer (some ⟨b, 0, none⟩))) (grow (V.drewN m) os) = .ok (.agg n.cs) (grow (V.drewN m) os) :=
  run_loadNode ((heap_grow_old (V.drewN m) os (show b < V.heap.size from (Array.getElem?_eq_some_iff.1 h).1)).trans h)
end Go.Proofs.Ytbknbjabkhhlfaa
