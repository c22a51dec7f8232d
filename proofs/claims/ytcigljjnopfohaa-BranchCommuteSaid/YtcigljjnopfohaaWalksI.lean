/-
  The walks of the constructors, of First, of slices.Clone, of Clone, of Wipe.
-/
import Derived.Test.YtcigljjnopfohaaOwnA
import Derived.BigGuard
import Derived.Lib.LazyBuf
import Derived.Laws.Tables
import Derived.Deep.Cut
set_option linter.unusedVariables false
set_option maxRecDepth 100000
namespace Go.Proofs.Ytcigljjnopfohaa
open Go.Shelf Go.RowKit Go.Lib Go.Sort

/-! ### slices.Clone -/
def OwnPost (xs : List Pr) (w : World) (e : Ending) (w' : World) : Prop := ∃ v, e = .returned v ∧ Own w' w.heap.size v xs ∧ Below w.heap.size w w'
def OwnRPost (xs : List Int) (w : World) (e : Ending) (w' : World) : Prop := ∃ v, e = .returned v ∧ OwnR w' w.heap.size v xs ∧ Below w.heap.size w w'
/-! ### List, Clone -/
theorem Own.keepFrom {w w' : World} {base : Nat} {v : Value} {xs : List Pr} (h : Own w base v xs) (hk : ∀ k, base ≤ k → k < w.heap.size → w'.heap[k]? = w.heap[k]?) : Own w' base v xs := by
  refine ⟨h.1, ?_⟩
  rcases h.2 with hn | ⟨g, cap, cur, hv, hbg, hg, rest⟩
  · exact .inl hn
  · exact .inr ⟨g, cap, cur, hv, hbg, (hk g hbg (Array.getElem?_eq_some_iff.1 hg).1).trans hg, rest⟩
theorem OwnR.keepFrom {w w' : World} {base : Nat} {v : Value} {xs : List Int} (h : OwnR w base v xs) (hk : ∀ k, base ≤ k → k < w.heap.size → w'.heap[k]? = w.heap[k]?) : OwnR w' base v xs := by
  refine ⟨h.1, ?_⟩
  rcases h.2 with hn | ⟨g, cap, cur, hv, hbg, hg, rest⟩
  · exact .inl hn
  · exact .inr ⟨g, cap, cur, hv, hbg, (hk g hbg (Array.getElem?_eq_some_iff.1 hg).1).trans hg, rest⟩
theorem node_cellA {V : World} {b : Nat} {cs : Array Value} (h : V.heap[b]? = some (.cells cs 28 (0, 0))) {i : Nat} {v : Value} (hv : cs[i]? = some v) : V.cell? ⟨b, i, none⟩ = some v := by
  rw [cell_of_row V b i cs 28 (0, 0) h]; exact hv
theorem node_frozen {V : World} {b : Nat} {cs : Array Value} (h : V.heap[b]? = some (.cells cs 28 (0, 0))) (i : Nat) : V.frozen? ⟨b, i, none⟩ = false := by simp [World.frozen?, h]
theorem set_field {V : World} {b : Nat} {cs : Array Value} (h : V.heap[b]? = some (.cells cs 28 (0, 0))) (i : Nat) (v : Value) : (V.setCell ⟨b, i, none⟩ v).heap[b]? = some (.cells (cs.setIfInBounds i v) 28 (0, 0)) := by
  simp [World.setCell, Array.getElem?_modify, h]
theorem cs_all (n : Nd) : n.cs.all (·.oneCell') = true := by simp [Nd.cs, Value.oneCell']
theorem nodeSize : (Try.prog.info? 28).map (·.size) = some 14 := by kernel_rfl

/-- The lists' slices in the result are rows that the call made. -/
def ClonePost (n : Nd) (w : World) (e : Ending) (w' : World) : Prop :=
  ∃ A c P d, e = .returned (.agg (Nd.cs { n with bA := A, bc := c, pA := P, pc := d })) ∧ OwnR w' w.heap.size (.slice A n.bs.length c) n.bs ∧ Own w' w.heap.size (.slice P n.ps.length d) n.ps ∧ Below w.heap.size w w'

end Go.Proofs.Ytcigljjnopfohaa
