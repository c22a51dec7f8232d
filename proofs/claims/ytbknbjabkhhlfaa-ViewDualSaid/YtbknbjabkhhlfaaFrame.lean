/-
  An argument that is a slice of pairs, of refs, or a node: what it reads as.
-/
import Derived.Test.YtbknbjabkhhlfaaMemR
import Derived.WalkKit
import Derived.ProofKit
import Derived.OpenShut
import Derived.ShutString
import Derived.ChangeOld
import Derived.Below
import Derived.Carry
import Derived.Deep.SlicePairs
import Derived.Deep.Fields
import Derived.Lib.SmallJoins
set_option linter.unusedVariables false
set_option maxRecDepth 100000
namespace Go.Proofs.Ytbknbjabkhhlfaa
open Go.ChangeShapes Go.WideShapes Go.ChangeAt Go.RowKit Go.Deep Go.Joins

/-- The slice at a, of that length and capacity, reads as xs. -/
def IsList (w : World) (a : Option Addr) (len cap : Nat) (xs : List Pr) : Prop := xs.length = len ∧ len ≤ cap ∧ Rd w w.heap.size a xs ∧ (a = none → cap = 0)
def IsRefs (w : World) (a : Option Addr) (len cap : Nat) (zs : List Int) : Prop := zs.length = len ∧ len ≤ cap ∧ RdR w w.heap.size a zs ∧ (a = none → cap = 0)

theorem block_of_cell {w : World} {a : Addr} {v : Value} (h : w.cell? a = some v) : a.block < w.heap.size := by
  rcases Nat.lt_or_ge a.block w.heap.size with h1 | h1
  · exact h1
  · unfold World.cell? at h
    rw [Array.getElem?_eq_none h1] at h
    cases h

section
variable {H : Type} {encH : TypeId × Value → H} {W : World}
theorem open_listT {n : Nat} {cs : List Value} {x : DataW H × List MemPlace} (hf : DataW.trod encH Try.prog W 0 (fun _ => true) true n 33 cs = some x) : ∃ a len cap xs, cs = [.slice a len cap] ∧ IsList W a len cap xs := by
  rcases Go.Deep.open_slice_pairs Try.underlying33 (show Try.prog.underlying 56 = some (.struct _) from Try.underlying56) (by kernel_rfl) rfl rfl (by kernel_rfl) (by kernel_rfl) hf with ⟨hcs, _⟩ | ⟨x, len, cap, m, n, V0, V1, D0, D1, P0, P1, hcs, _, hl, _, hm, _, hall⟩
  · exact ⟨none, 0, 0, [], hcs, rfl, Nat.le_refl _, Rd.nil, fun _ => rfl⟩
  · refine ⟨some x, len, cap, ?_⟩
    have hlm : len ≤ m := by rw [hm]; simpa using hl
    have each : ∀ i, i < len → ∃ y : Pr, W.cell? (x.add (i * 2)) = some (.string y.1) ∧ W.cell? (x.add (i * 2 + 1)) = some (.int .u64 y.2) := fun i hi => by
      obtain ⟨h0, h1, t0, t1⟩ := hall i (by omega)
      obtain ⟨s, e0, _⟩ := DataW.trod_string Try.underlying9 t0
      obtain ⟨k, e1, _⟩ := DataW.trod_int Try.underlying22 t1
      injection e0 with e0
      injection e1 with e1
      exact ⟨(s, k), by rw [h0, e0], by rw [h1, e1]⟩
    have mk : ∀ q, q ≤ len → ∃ xs : List Pr, xs.length = q ∧ ∀ j u, (flat xs)[j]? = some u → W.cell? (x.add j) = some u := by
      intro q
      induction q with
      | zero => exact fun _ => ⟨[], rfl, fun j u hj => by simp [flat_nil] at hj⟩
      | succ q ih =>
        intro hq
        obtain ⟨xs, hx, hc⟩ := ih (by omega)
        obtain ⟨y, y0, y1⟩ := each q (by omega)
        refine ⟨xs ++ [y], by simp [hx], fun j u hj => ?_⟩
        rw [flat_append] at hj
        by_cases hlt : j < (flat xs).length
        · rw [List.getElem?_append_left hlt] at hj
          exact hc j u hj
        · rw [List.getElem?_append_right (by omega), flat_length, hx] at hj
          rw [flat_length, hx] at hlt
          obtain ⟨r, hr⟩ : ∃ r, j = q * 2 + r := ⟨j - q * 2, by omega⟩
          subst hr
          rw [show q * 2 + r - q * 2 = r by omega] at hj
          match r, hj with
          | 0, hj => simp [flat, Ytbknbjabkhhlfaa.enc] at hj; subst hj; exact y0
          | 1, hj => simp [flat, Ytbknbjabkhhlfaa.enc] at hj; subst hj; exact y1
    obtain ⟨xs, hx, hc⟩ := mk len (Nat.le_refl _)
    refine ⟨xs, hcs, hx, hl, fun hn => ⟨x, rfl, ?_, hc⟩, fun e => by cases e⟩
    obtain ⟨y, y0, _⟩ := each 0 (by omega)
    have := block_of_cell y0
    rwa [block_add] at this
theorem open_refsT {n : Nat} {cs : List Value} {x : DataW H × List MemPlace} (hf : DataW.trod encH Try.prog W 0 (fun _ => true) true n 32 cs = some x) : ∃ a len cap zs, cs = [.slice a len cap] ∧ IsRefs W a len cap zs := by
  rcases open_ints Try.underlying32 Try.underlying29 (by kernel_rfl) hf with ⟨hcs, _⟩ | ⟨x, len, cap, zs, hcs, _, hl, hm, hz, _, hcell, hwz⟩
  · exact ⟨none, 0, 0, [], hcs, rfl, Nat.le_refl _, RdR.nil, fun _ => rfl⟩
  · have hz' : zs.length = cap := by simpa using hz
    refine ⟨some x, len, cap, zs.take len, hcs, by simp; omega, hl, fun hn => ⟨x, rfl, ?_, fun j u hj => ?_⟩, fun e => by cases e⟩
    · have := block_of_cell (hcell 0 (by simp at hn; omega))
      rwa [block_add] at this
    · have hj2 : j < len := by
        have := (List.getElem?_eq_some_iff.1 hj).1
        rw [flatR_length] at this
        simp at this; omega
      rw [hcell j (by omega)]
      rw [flatR, List.map_take, List.getElem?_take, if_pos hj2, List.getElem?_map, List.getElem?_eq_getElem (by omega)] at hj
      simp at hj
      rw [← hj, List.getD_eq_getElem?_getD, List.getElem?_eq_getElem (by omega)]
      rfl
theorem open_list {a : Option Addr} {len cap : Nat} {d : DataW H} {p : List MemPlace} (h : DataW.Trod encH Try.prog W 0 (fun _ => true) true 33 (.slice a len cap) d p) : ∃ xs, IsList W a len cap xs := by
  obtain ⟨fuel, hf⟩ := h
  obtain ⟨a', len', cap', xs, hcs, hx⟩ := open_listT hf
  simp [Value.cells] at hcs
  obtain ⟨rfl, rfl, rfl⟩ := hcs
  exact ⟨xs, hx⟩

/-- The numbers that came in. -/
def IsInts (w : World) (a : Option Addr) (len : Nat) : Prop := len ≤ maxLen ∧ ∀ j, j < len → ∃ ad z, a = some ad ∧ w.cell? (ad.add j) = some (.int .i64 z)
theorem open_intsT {a : Option Addr} {len cap : Nat} {d : DataW H} {p : List MemPlace} (h : DataW.Trod encH Try.prog W 0 (fun _ => true) true 23 (.slice a len cap) d p) : IsInts W a len := by
  obtain ⟨fuel, hf⟩ := h
  rcases open_ints Try.underlying23 Try.underlying3 (by kernel_rfl) hf with ⟨hcs, _⟩ | ⟨x, l, c, zs, hcs, _, hl, hm, hz, _, hcell, hwz⟩
  · simp [Value.cells] at hcs
    obtain ⟨rfl, rfl, rfl⟩ := hcs
    exact ⟨Nat.zero_le _, fun j hj => by omega⟩
  · simp [Value.cells] at hcs
    obtain ⟨rfl, rfl, rfl⟩ := hcs
    have hz' : zs.length = cap := by simpa using hz
    exact ⟨by omega, fun j hj => ⟨x, _, rfl, hcell j (by omega)⟩⟩

/-- A node that came in. -/
structure IsNode (w : World) (n : Nd) : Prop where
  r : RdR w w.heap.size n.bA n.bs
  p : Rd w w.heap.size n.pA n.ps
  bm : U64 n.bm
  ba : n.bA = none → n.bc = 0
  pa : n.pA = none → n.pc = 0
  bc : n.bs.length ≤ n.bc
  pc : n.ps.length ≤ n.pc
set_option maxHeartbeats 1000000 in
theorem open_node {b0 : Nat} {r : Reach} {v : Value} {d : DataW H} {p : List MemPlace} (hv : Value.okWide Try.prog W r b0 35 v) (h : DataW.Trod encH Try.prog W 0 (fun _ => true) true 35 v d p) : ∃ n : Nd, v = .agg n.cs ∧ IsNode W n := by
  obtain ⟨cs, rfl, hsz⟩ := okWide_struct (show Try.prog.underlying 35 = some (.struct _) from Try.underlying35) hv
  obtain ⟨l⟩ := cs
  have hl : l.length = 14 := hsz.trans (by kernel_rfl)
  obtain ⟨fuel, hf⟩ := h
  obtain ⟨xs, n, _, hx, _, hlen, hg⟩ := DataW.trod_struct (show Try.prog.underlying 35 = some (.struct _) from Try.underlying35) hf
  match l, hl with
  | [c0, c1, c2, c3, c4, c5, c6, c7, c8, c9, c10, c11, c12, c13], _ =>
    have k3 : Try.prog.cellsOf 3 = 1 := by kernel_rfl
    have k22 : Try.prog.cellsOf 31 = 1 := by kernel_rfl
    have k23 : Try.prog.cellsOf 22 = 1 := by kernel_rfl
    have k24 : Try.prog.cellsOf 32 = 1 := by kernel_rfl
    have k9 : Try.prog.cellsOf 9 = 1 := by kernel_rfl
    have k25 : Try.prog.cellsOf 33 = 1 := by kernel_rfl
    have k26 : Try.prog.cellsOf 29 = 1 := by kernel_rfl
    have hlx : xs.length = 14 := hlen
    have hat : ∀ i, i < 14 → ∃ y, xs[i]? = some y := fun i hi => ⟨_, List.getElem?_eq_getElem (by omega)⟩
    obtain ⟨y0, hy0⟩ := hat 0 (by omega)
    have g0 : DataW.trod encH Try.prog W 0 (fun _ => true) true n 3 [c0] = some y0 := by
      have := hg 0 _ rfl
      rw [hy0] at this
      simpa [k3, Value.cells] using this
    obtain ⟨y1, hy1⟩ := hat 1 (by omega)
    have g1 : DataW.trod encH Try.prog W 0 (fun _ => true) true n 3 [c1] = some y1 := by
      have := hg 1 _ rfl
      rw [hy1] at this
      simpa [k3, Value.cells] using this
    obtain ⟨y2, hy2⟩ := hat 2 (by omega)
    have g2 : DataW.trod encH Try.prog W 0 (fun _ => true) true n 31 [c2] = some y2 := by
      have := hg 2 _ rfl
      rw [hy2] at this
      simpa [k22, Value.cells] using this
    obtain ⟨y3, hy3⟩ := hat 3 (by omega)
    have g3 : DataW.trod encH Try.prog W 0 (fun _ => true) true n 22 [c3] = some y3 := by
      have := hg 3 _ rfl
      rw [hy3] at this
      simpa [k23, Value.cells] using this
    obtain ⟨y4, hy4⟩ := hat 4 (by omega)
    have g4 : DataW.trod encH Try.prog W 0 (fun _ => true) true n 32 [c4] = some y4 := by
      have := hg 4 _ rfl
      rw [hy4] at this
      simpa [k24, Value.cells] using this
    obtain ⟨y5, hy5⟩ := hat 5 (by omega)
    have g5 : DataW.trod encH Try.prog W 0 (fun _ => true) true n 22 [c5] = some y5 := by
      have := hg 5 _ rfl
      rw [hy5] at this
      simpa [k23, Value.cells] using this
    obtain ⟨y6, hy6⟩ := hat 6 (by omega)
    have g6 : DataW.trod encH Try.prog W 0 (fun _ => true) true n 9 [c6] = some y6 := by
      have := hg 6 _ rfl
      rw [hy6] at this
      simpa [k9, Value.cells] using this
    obtain ⟨y7, hy7⟩ := hat 7 (by omega)
    have g7 : DataW.trod encH Try.prog W 0 (fun _ => true) true n 22 [c7] = some y7 := by
      have := hg 7 _ rfl
      rw [hy7] at this
      simpa [k23, Value.cells] using this
    obtain ⟨y8, hy8⟩ := hat 8 (by omega)
    have g8 : DataW.trod encH Try.prog W 0 (fun _ => true) true n 33 [c8] = some y8 := by
      have := hg 8 _ rfl
      rw [hy8] at this
      simpa [k25, Value.cells] using this
    obtain ⟨y9, hy9⟩ := hat 9 (by omega)
    have g9 : DataW.trod encH Try.prog W 0 (fun _ => true) true n 31 [c9] = some y9 := by
      have := hg 9 _ rfl
      rw [hy9] at this
      simpa [k22, Value.cells] using this
    obtain ⟨y10, hy10⟩ := hat 10 (by omega)
    have g10 : DataW.trod encH Try.prog W 0 (fun _ => true) true n 29 [c10] = some y10 := by
      have := hg 10 _ rfl
      rw [hy10] at this
      simpa [k26, Value.cells] using this
    obtain ⟨y11, hy11⟩ := hat 11 (by omega)
    have g11 : DataW.trod encH Try.prog W 0 (fun _ => true) true n 29 [c11] = some y11 := by
      have := hg 11 _ rfl
      rw [hy11] at this
      simpa [k26, Value.cells] using this
    obtain ⟨y12, hy12⟩ := hat 12 (by omega)
    have g12 : DataW.trod encH Try.prog W 0 (fun _ => true) true n 29 [c12] = some y12 := by
      have := hg 12 _ rfl
      rw [hy12] at this
      simpa [k26, Value.cells] using this
    obtain ⟨y13, hy13⟩ := hat 13 (by omega)
    have g13 : DataW.trod encH Try.prog W 0 (fun _ => true) true n 31 [c13] = some y13 := by
      have := hg 13 _ rfl
      rw [hy13] at this
      simpa [k22, Value.cells] using this
    obtain ⟨z0, e0, _, f0⟩ := DataW.trod_int Try.underlying3 g0
    injection e0 with e0
    obtain ⟨z1, e1, _, f1⟩ := DataW.trod_int Try.underlying3 g1
    injection e1 with e1
    obtain ⟨z2, e2, _, f2⟩ := DataW.trod_int Try.underlying31 g2
    injection e2 with e2
    obtain ⟨z3, e3, _, f3⟩ := DataW.trod_int Try.underlying22 g3
    injection e3 with e3
    obtain ⟨A, lA, cA, zs, e4, hr⟩ := open_refsT g4
    injection e4 with e4
    obtain ⟨z5, e5, _, f5⟩ := DataW.trod_int Try.underlying22 g5
    injection e5 with e5
    obtain ⟨s6, e6, _⟩ := DataW.trod_string Try.underlying9 g6
    injection e6 with e6
    obtain ⟨z7, e7, _, f7⟩ := DataW.trod_int Try.underlying22 g7
    injection e7 with e7
    obtain ⟨P, lP, cP, ps, e8, hp⟩ := open_listT g8
    injection e8 with e8
    obtain ⟨z9, e9, _, f9⟩ := DataW.trod_int Try.underlying31 g9
    injection e9 with e9
    obtain ⟨z10, e10, _, f10⟩ := DataW.trod_int Try.underlying29 g10
    injection e10 with e10
    obtain ⟨z11, e11, _, f11⟩ := DataW.trod_int Try.underlying29 g11
    injection e11 with e11
    obtain ⟨z12, e12, _, f12⟩ := DataW.trod_int Try.underlying29 g12
    injection e12 with e12
    obtain ⟨z13, e13, _, f13⟩ := DataW.trod_int Try.underlying31 g13
    injection e13 with e13
    obtain ⟨hr1, hr2, hr3, hr4⟩ := hr
    obtain ⟨hp1, hp2, hp3, hp4⟩ := hp
    refine ⟨⟨z0, z1, z2, z3, A, cA, zs, z5, s6, z7, P, cP, ps, z9, z10, z11, z12, z13⟩, ?_, hr3, hp3, u64_of_wf f3, hr4, hp4, by show zs.length ≤ cA; omega, by show ps.length ≤ cP; omega⟩
    rw [e0, e1, e2, e3, e4, e5, e6, e7, e8, e9, e10, e11, e12, e13, ← hr1, ← hp1]
    rfl
end
end Go.Proofs.Ytbknbjabkhhlfaa
