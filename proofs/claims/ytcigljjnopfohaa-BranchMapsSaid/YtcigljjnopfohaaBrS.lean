/-
  Layer 6: three nodes in a row.
-/
import Derived.Test.YtcigljjnopfohaaBrR
set_option linter.unusedVariables false
set_option maxRecDepth 100000
namespace Go.Proofs.Ytcigljjnopfohaa
open Go.Shelf Go.RowKit Go.Lib Go.Sort

theorem exec_build3 (ρ : Operand → Value) (dst : Option Tmp) (x0 x1 x2 : Operand) (ty : TypeId) (pos : String) (after : Array Edge) (guard : Option (Nat × Bool)) :
    execOp ρ { dst, op := .buildSlice 41 3 #[(0, x0), (1, x1), (2, x2)], type := ty, pos, after, guard } = (do pure (.value (← buildVals [ρ x0, ρ x1, ρ x2]))) := by
  have e : ((#[(0, x0), (1, x1), (2, x2)] : Array (Nat × Operand)).map fun (i, x) => (i, ρ x)) = (([ρ x0, ρ x1, ρ x2].zipIdx.map fun x => (x.2, x.1)).toArray) := by simp [List.zipIdx]
  unfold execOp buildVals
  dsimp only
  rw [e]
  rfl
theorem run_build3 (a b c : Nd) (w : World) :
    Sem.run Try.prog (buildVals [.agg a.cs, .agg b.cs, .agg c.cs]) w = .ok (.slice (some ⟨w.heap.size, 0, none⟩) 3 3) (w.alloc (.cells (rowOf [a.cs, b.cs, c.cs]) 28)) := run_buildNodes [a.cs, b.cs, c.cs] (by simp [cs_size14]) (by simp) (by simp) w
theorem row3_ld {X : World} {g : Nat} {a b c : Nd} (h : X.heap[g]? = some (.cells (rowOf [a.cs, b.cs, c.cs]) 28 (0, 0))) :
    Sem.run Try.prog (loadNode (.pointer (some ⟨g, 0, none⟩))) X = .ok (.agg a.cs) X ∧ Sem.run Try.prog (loadNode (.pointer (some ⟨g, 14, none⟩))) X = .ok (.agg b.cs) X ∧ Sem.run Try.prog (loadNode (.pointer (some ⟨g, 28, none⟩))) X = .ok (.agg c.cs) X := by
  have hc := fun j => cell_of_row X g j (rowOf [a.cs, b.cs, c.cs]) 28 (0, 0) h
  have hv : ∀ (m : Nd) (j : Nat), j < 14 → m.cs[j]? = some (m.cs.getD j undef) := fun m j hj => by
    rw [Array.getD_eq_getD_getElem?, Array.getElem?_eq_getElem (by rw [cs_size14]; exact hj)]; rfl
  refine ⟨run_loadNodeAt fun j hj => ?_, run_loadNodeAt fun j hj => ?_, run_loadNodeAt fun j hj => ?_⟩
  · rw [hc, hv a j hj]; exact rowOf_get (i := 0) rfl hj (hv a j hj)
  · rw [hc, hv b j hj]; exact rowOf_get (i := 1) rfl hj (hv b j hj)
  · rw [hc, hv c j hj]; exact rowOf_get (i := 2) rfl hj (hv c j hj)
theorem look_at {n : Nd} {V : World} {x : Int} {o : Option Int} (hG : GN V n) (hc : isC n = true) (e : fN n x = o) : Calls Try.prog 12 #[.agg n.cs, .int .i64 x] V fun e w' => e = .returned (.tuple #[.int .i64 (o.getD 0), .bool o.isSome]) ∧ Gr V w' := by
  have := lookup_any n x V.heap.size V hG.rd (Nat.le_refl _)
  rw [(look_fN hc hG.rd x).1, (look_fN hc hG.rd x).2, e] at this
  exact this
end Go.Proofs.Ytcigljjnopfohaa
