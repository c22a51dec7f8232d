/-
  An argument that is a slice of pairs: what it reads as.
-/
import Derived.Test.YtpjfeaccicmgoaaMem
import Derived.WalkKit
import Derived.ProofKit
import Derived.OpenShut
import Derived.ShutString
import Derived.ChangeOld
import Derived.Below
import Derived.Carry
import Derived.Deep.SlicePairs
set_option linter.unusedVariables false
namespace Go.Proofs.Ytpjfeaccicmgoaa
open Go.ChangeShapes Go.WideShapes Go.ChangeAt Go.RowKit

/-- The slice at a, of that length and capacity, reads as xs. -/
def IsList (w : World) (a : Option Addr) (len cap : Nat) (xs : List Pr) : Prop := xs.length = len ∧ len ≤ cap ∧ Rd w w.heap.size a xs

theorem block_of_cell {w : World} {a : Addr} {v : Value} (h : w.cell? a = some v) : a.block < w.heap.size := by
  rcases Nat.lt_or_ge a.block w.heap.size with h1 | h1
  · exact h1
  · unfold World.cell? at h
    rw [Array.getElem?_eq_none h1] at h
    cases h

theorem open_list {H : Type} {enc : TypeId × Value → H} {W : World} {a : Option Addr} {len cap : Nat} {d : DataW H} {p : List MemPlace} (h : DataW.Trod enc Try.prog W 0 (fun _ => true) true 22 (.slice a len cap) d p) : ∃ xs, IsList W a len cap xs := by
  obtain ⟨fuel, hf⟩ := h
  rcases Go.Deep.open_slice_pairs Try.underlying22 (show Try.prog.underlying 27 = some (.struct _) from Try.underlying27) (by kernel_rfl) rfl rfl (by kernel_rfl) (by kernel_rfl) hf with ⟨hcs, _⟩ | ⟨x, l, c, m, n, V0, V1, D0, D1, P0, P1, hcs, _, hl, _, hm, _, hall⟩
  · simp [Value.cells] at hcs
    obtain ⟨rfl, rfl, rfl⟩ := hcs
    exact ⟨[], rfl, Nat.le_refl _, Rd.nil⟩
  · simp [Value.cells] at hcs
    obtain ⟨rfl, rfl, rfl⟩ := hcs
    have hlm : len ≤ m := by rw [hm]; simpa using hl
    have each : ∀ i, i < len → ∃ y : Pr, W.cell? (x.add (i * 2)) = some (.string y.1) ∧ W.cell? (x.add (i * 2 + 1)) = some (.int .u64 y.2) := fun i hi => by
      obtain ⟨h0, h1, t0, t1⟩ := hall i (by omega)
      obtain ⟨s, e0, _⟩ := DataW.trod_string Try.underlying9 t0
      obtain ⟨k, e1, _⟩ := DataW.trod_int Try.underlying24 t1
      injection e0 with e0
      injection e1 with e1
      exact ⟨(s, k), by rw [h0, e0], by rw [h1, e1]⟩
    have mk : ∀ q, q ≤ len → ∃ xs : List Pr, xs.length = q ∧ ∀ j u, (flat xs)[j]? = some u → W.cell? (x.add j) = some u := by
      intro q
      induction q with
      | zero => exact fun _ => ⟨[], rfl, fun j u hj => by simp [flat_nil] at hj⟩
      | succ q ih =>
        intro hq
        obtain ⟨xs, hx, hc⟩ := ih (by omega)
        obtain ⟨y, y0, y1⟩ := each q (by omega)
        refine ⟨xs ++ [y], by simp [hx], fun j u hj => ?_⟩
        rw [flat_append] at hj
        by_cases hlt : j < (flat xs).length
        · rw [List.getElem?_append_left hlt] at hj
          exact hc j u hj
        · rw [List.getElem?_append_right (by omega), flat_length, hx] at hj
          rw [flat_length, hx] at hlt
          obtain ⟨r, hr⟩ : ∃ r, j = q * 2 + r := ⟨j - q * 2, by omega⟩
          subst hr
          rw [show q * 2 + r - q * 2 = r by omega] at hj
          match r, hj with
          | 0, hj => simp [flat, Ytpjfeaccicmgoaa.enc] at hj; subst hj; exact y0
          | 1, hj => simp [flat, Ytpjfeaccicmgoaa.enc] at hj; subst hj; exact y1
    obtain ⟨xs, hx, hc⟩ := mk len (Nat.le_refl _)
    refine ⟨xs, hx, hl, fun hn => ⟨x, rfl, ?_, hc⟩⟩
    obtain ⟨y, y0, _⟩ := each 0 (by omega)
    have := block_of_cell y0
    rwa [block_add] at this

end Go.Proofs.Ytpjfeaccicmgoaa
