/-
  Mem: an arena of a tape.
-/
import Derived.Test.YtbknbjabkhhlfaaArM
set_option linter.unusedVariables false
set_option maxRecDepth 100000
namespace Go.Proofs.Ytbknbjabkhhlfaa
open Go.Shelf Go.RowKit Go.Lib Go.Sort
attribute [local go_sem ↓] exec_load28 exec_store44

theorem exec_build2' (ρ : Operand → Value) (dst : Option Tmp) (x0 x1 : Operand) (ty : TypeId) (pos : String) (after : Array Edge) (guard : Option (Nat × Bool)) :
    execOp ρ { dst, op := .buildSlice 36 2 #[(0, x0), (1, x1)], type := ty, pos, after, guard } = (do pure (.value (← buildVals [ρ x0, ρ x1]))) := exec_build2 ρ dst x0 x1 ty pos after guard
def markN : Nd := { Nd.zero with kind := 1 }
/-- The state of a new arena. -/
def newS (g : Nat) : Sd := ⟨some ⟨g, 0, none⟩, 2, [markN, markN], none, 0, [], 0⟩
theorem run_build2m (w : World) : Sem.run Try.prog (buildVals [.agg #[.int .i64 1, .int .i64 0, .int .i64 0, .int .u64 0, .slice none 0 0, .int .u64 0, .string ⟨#[]⟩, .int .u64 0, .slice none 0 0, .int .i64 0, .int .i64 0, .int .i64 0, .int .i64 0, .int .i64 0], .agg #[.int .i64 1, .int .i64 0, .int .i64 0, .int .u64 0, .slice none 0 0, .int .u64 0, .string ⟨#[]⟩, .int .u64 0, .slice none 0 0, .int .i64 0, .int .i64 0, .int .i64 0, .int .i64 0, .int .i64 0]]) w = .ok (.slice (some ⟨w.heap.size, 0, none⟩) 2 2) (w.alloc (.cells (rowOf [markN.cs, markN.cs]) 35)) :=
  run_build2 markN.cs markN.cs (by simp [cs_size14]) w
attribute [local go_sem ↓] exec_build2'
attribute [local go_sem] run_build2m
def NewPost (T : TypeId) (w : World) (e : Ending) (w' : World) : Prop := ∃ g q, e = .returned (.pointer (some ⟨q, 0, none⟩)) ∧ Ob w' w.heap.size T q (newS g) 0 ∧ Below w.heap.size w w'
theorem newOb (w : World) (T : TypeId) (h44 : T ≠ 35) : Ob ((w.alloc (.cells (rowOf [markN.cs, markN.cs]) 35)).alloc (.cells #[.slice (some ⟨w.heap.size, 0, none⟩) 2 2, .slice none 0 0, .int .i64 0, .int .i64 0] T)) w.heap.size T (w.heap.size + 1) (newS w.heap.size) 0 := by
  have hb : ((w.alloc (.cells (rowOf [markN.cs, markN.cs]) 35)).alloc (.cells #[.slice (some ⟨w.heap.size, 0, none⟩) 2 2, .slice none 0 0, .int .i64 0, .int .i64 0] T)).heap[w.heap.size]? = some (.cells (rowOf [markN.cs, markN.cs]) 35 (0, 0)) := (Below.heap_alloc _ _ _ (by simp)).trans (heap_alloc_new w _)
  have hq := heap_alloc_new (w.alloc (.cells (rowOf [markN.cs, markN.cs]) 35)) (.cells #[.slice (some ⟨w.heap.size, 0, none⟩) 2 2, .slice none 0 0, .int .i64 0, .int .i64 0] T)
  have hs : (w.alloc (.cells (rowOf [markN.cs, markN.cs]) 35)).heap.size = w.heap.size + 1 := by simp
  rw [hs] at hq
  have hnk : NOk ((w.alloc (.cells (rowOf [markN.cs, markN.cs]) 35)).alloc (.cells #[.slice (some ⟨w.heap.size, 0, none⟩) 2 2, .slice none 0 0, .int .i64 0, .int .i64 0] T)) (Mu (w.heap.size + 1) (newS w.heap.size)) markN :=
    ⟨⟨RdR.nil, Rd.nil, u64_zero, Nat.zero_le _, Nat.zero_le _⟩, fun _ => rfl, fun _ => rfl, fun ad e => (by cases e), fun ad e => (by cases e), fun ad e => (by cases e), fun ad e => (by cases e)⟩
  refine ⟨hq, by omega, ?_, OwnR.nil_ _ _, fun x hx => ?_, by show 2 ≤ 1000; omega, by show 0 ≤ 1000; omega⟩
  · refine ⟨flatN_length _, .inr ⟨w.heap.size, 2, rowOf [markN.cs, markN.cs], rfl, Nat.le_refl _, hb, Nat.le_refl _, by simp [maxLen], rowOf_size _, ?_⟩⟩
    rw [List.take_of_length_le (by simp [rowOf_size]; exact Nat.le_refl _)]
    apply List.ext_getElem?
    intro k
    rw [Array.getElem?_toList]
    by_cases hk : k < 28
    · have e := flatN_get [markN, markN] (k / 14) markN (k % 14) (by
        have : k / 14 = 0 ∨ k / 14 = 1 := by omega
        rcases this with h | h <;> rw [h] <;> rfl) (by omega)
      have hv : markN.cs[k % 14]? = some (markN.cs[k % 14]'(by rw [cs_size14]; omega)) := Array.getElem?_eq_getElem _
      have e2 := rowOf_get (css := [markN.cs, markN.cs]) (i := k / 14) (j := k % 14) (c := markN.cs) (by
        have : k / 14 = 0 ∨ k / 14 = 1 := by omega
        rcases this with h | h <;> rw [h] <;> rfl) (by omega) hv
      rw [show k / 14 * 14 + k % 14 = k by omega] at e e2
      show _ = (flatN [markN, markN])[k]?
      rw [e, e2, hv]
    · rw [Array.getElem?_eq_none (by rw [rowOf_size]; simp; omega)]
      exact (List.getElem?_eq_none (by show (flatN [markN, markN]).length ≤ k; rw [flatN_length]; simp; omega)).symm
  · have : x = markN := by
      have hx' : x ∈ [markN, markN] := hx
      simpa using hx'
    subst this
    exact hnk
set_option maxHeartbeats 4000000 in
theorem rnew_any (w : World) : Calls Try.prog 6 #[] w (NewPost 40 w) := by
  go_enter Try.func6, Try.ntmps6
  go_wp2
  go_ret
  refine ⟨w.heap.size, w.heap.size + 1, rfl, newOb w 40 (by decide), ((Below.refl _ w).alloc (Nat.le_refl _) _).alloc (by simp) _⟩

end Go.Proofs.Ytbknbjabkhhlfaa
