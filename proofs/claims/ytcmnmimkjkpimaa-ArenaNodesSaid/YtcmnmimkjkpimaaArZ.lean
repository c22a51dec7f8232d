/-
  A list of steps as an argument; the load of a step, whole.
-/
import Derived.Test.YtcmnmimkjkpimaaFrame
import Derived.Test.YtcmnmimkjkpimaaArX
import Derived.Deep.Slices
set_option linter.unusedVariables false
set_option maxRecDepth 100000
namespace Go.Proofs.Ytcmnmimkjkpimaa
open Go.ChangeShapes Go.WideShapes Go.ChangeAt Go.RowKit Go.Deep Go.Joins
section
variable {H : Type} {encH : TypeId × Value → H} {W : World}
set_option maxHeartbeats 1000000 in
theorem open_nodeT {fuel : Nat} {l : List Value} {x : DataW H × List MemPlace} (hf : DataW.trod encH Try.prog W 0 (fun _ => true) true fuel 44 l = some x) : ∃ n : Nd, l = n.cs.toList ∧ IsNode W n := by
  obtain ⟨xs, n, _, hx, hln, hlen, hg⟩ := DataW.trod_struct (show Try.prog.underlying 44 = some (.struct _) from Try.underlying44) hf
  have hl : l.length = 14 := hln.trans (by kernel_rfl)
  match l, hl with
  | [c0, c1, c2, c3, c4, c5, c6, c7, c8, c9, c10, c11, c12, c13], _ =>
    have k3 : Try.prog.cellsOf 3 = 1 := by kernel_rfl
    have k22 : Try.prog.cellsOf 39 = 1 := by kernel_rfl
    have k23 : Try.prog.cellsOf 40 = 1 := by kernel_rfl
    have k24 : Try.prog.cellsOf 33 = 1 := by kernel_rfl
    have k9 : Try.prog.cellsOf 9 = 1 := by kernel_rfl
    have k25 : Try.prog.cellsOf 41 = 1 := by kernel_rfl
    have k26 : Try.prog.cellsOf 42 = 1 := by kernel_rfl
    have hlx : xs.length = 14 := hlen
    have hat : ∀ i, i < 14 → ∃ y, xs[i]? = some y := fun i hi => ⟨_, List.getElem?_eq_getElem (by omega)⟩
    obtain ⟨y0, hy0⟩ := hat 0 (by omega)
    have g0 : DataW.trod encH Try.prog W 0 (fun _ => true) true n 3 [c0] = some y0 := by
      have := hg 0 _ rfl
      rw [hy0] at this
      simpa [k3, Value.cells] using this
    obtain ⟨y1, hy1⟩ := hat 1 (by omega)
    have g1 : DataW.trod encH Try.prog W 0 (fun _ => true) true n 3 [c1] = some y1 := by
      have := hg 1 _ rfl
      rw [hy1] at this
      simpa [k3, Value.cells] using this
    obtain ⟨y2, hy2⟩ := hat 2 (by omega)
    have g2 : DataW.trod encH Try.prog W 0 (fun _ => true) true n 39 [c2] = some y2 := by
      have := hg 2 _ rfl
      rw [hy2] at this
      simpa [k22, Value.cells] using this
    obtain ⟨y3, hy3⟩ := hat 3 (by omega)
    have g3 : DataW.trod encH Try.prog W 0 (fun _ => true) true n 40 [c3] = some y3 := by
      have := hg 3 _ rfl
      rw [hy3] at this
      simpa [k23, Value.cells] using this
    obtain ⟨y4, hy4⟩ := hat 4 (by omega)
    have g4 : DataW.trod encH Try.prog W 0 (fun _ => true) true n 33 [c4] = some y4 := by
      have := hg 4 _ rfl
      rw [hy4] at this
      simpa [k24, Value.cells] using this
    obtain ⟨y5, hy5⟩ := hat 5 (by omega)
    have g5 : DataW.trod encH Try.prog W 0 (fun _ => true) true n 40 [c5] = some y5 := by
      have := hg 5 _ rfl
      rw [hy5] at this
      simpa [k23, Value.cells] using this
    obtain ⟨y6, hy6⟩ := hat 6 (by omega)
    have g6 : DataW.trod encH Try.prog W 0 (fun _ => true) true n 9 [c6] = some y6 := by
      have := hg 6 _ rfl
      rw [hy6] at this
      simpa [k9, Value.cells] using this
    obtain ⟨y7, hy7⟩ := hat 7 (by omega)
    have g7 : DataW.trod encH Try.prog W 0 (fun _ => true) true n 40 [c7] = some y7 := by
      have := hg 7 _ rfl
      rw [hy7] at this
      simpa [k23, Value.cells] using this
    obtain ⟨y8, hy8⟩ := hat 8 (by omega)
    have g8 : DataW.trod encH Try.prog W 0 (fun _ => true) true n 41 [c8] = some y8 := by
      have := hg 8 _ rfl
      rw [hy8] at this
      simpa [k25, Value.cells] using this
    obtain ⟨y9, hy9⟩ := hat 9 (by omega)
    have g9 : DataW.trod encH Try.prog W 0 (fun _ => true) true n 39 [c9] = some y9 := by
      have := hg 9 _ rfl
      rw [hy9] at this
      simpa [k22, Value.cells] using this
    obtain ⟨y10, hy10⟩ := hat 10 (by omega)
    have g10 : DataW.trod encH Try.prog W 0 (fun _ => true) true n 42 [c10] = some y10 := by
      have := hg 10 _ rfl
      rw [hy10] at this
      simpa [k26, Value.cells] using this
    obtain ⟨y11, hy11⟩ := hat 11 (by omega)
    have g11 : DataW.trod encH Try.prog W 0 (fun _ => true) true n 42 [c11] = some y11 := by
      have := hg 11 _ rfl
      rw [hy11] at this
      simpa [k26, Value.cells] using this
    obtain ⟨y12, hy12⟩ := hat 12 (by omega)
    have g12 : DataW.trod encH Try.prog W 0 (fun _ => true) true n 42 [c12] = some y12 := by
      have := hg 12 _ rfl
      rw [hy12] at this
      simpa [k26, Value.cells] using this
    obtain ⟨y13, hy13⟩ := hat 13 (by omega)
    have g13 : DataW.trod encH Try.prog W 0 (fun _ => true) true n 39 [c13] = some y13 := by
      have := hg 13 _ rfl
      rw [hy13] at this
      simpa [k22, Value.cells] using this
    obtain ⟨z0, e0, _, f0⟩ := DataW.trod_int Try.underlying3 g0
    injection e0 with e0
    obtain ⟨z1, e1, _, f1⟩ := DataW.trod_int Try.underlying3 g1
    injection e1 with e1
    obtain ⟨z2, e2, _, f2⟩ := DataW.trod_int Try.underlying39 g2
    injection e2 with e2
    obtain ⟨z3, e3, _, f3⟩ := DataW.trod_int Try.underlying40 g3
    injection e3 with e3
    obtain ⟨A, lA, cA, zs, e4, hr⟩ := open_refsT g4
    injection e4 with e4
    obtain ⟨z5, e5, _, f5⟩ := DataW.trod_int Try.underlying40 g5
    injection e5 with e5
    obtain ⟨s6, e6, _⟩ := DataW.trod_string Try.underlying9 g6
    injection e6 with e6
    obtain ⟨z7, e7, _, f7⟩ := DataW.trod_int Try.underlying40 g7
    injection e7 with e7
    obtain ⟨P, lP, cP, ps, e8, hp⟩ := open_listT g8
    injection e8 with e8
    obtain ⟨z9, e9, _, f9⟩ := DataW.trod_int Try.underlying39 g9
    injection e9 with e9
    obtain ⟨z10, e10, _, f10⟩ := DataW.trod_int Try.underlying42 g10
    injection e10 with e10
    obtain ⟨z11, e11, _, f11⟩ := DataW.trod_int Try.underlying42 g11
    injection e11 with e11
    obtain ⟨z12, e12, _, f12⟩ := DataW.trod_int Try.underlying42 g12
    injection e12 with e12
    obtain ⟨z13, e13, _, f13⟩ := DataW.trod_int Try.underlying39 g13
    injection e13 with e13
    obtain ⟨hr1, hr2, hr3, hr4⟩ := hr
    obtain ⟨hp1, hp2, hp3, hp4⟩ := hp
    refine ⟨⟨z0, z1, z2, z3, A, cA, zs, z5, s6, z7, P, cP, ps, z9, z10, z11, z12, z13⟩, ?_, hr3, hp3, u64_of_wf f3, hr4, hp4, by show zs.length ≤ cA; omega, by show ps.length ≤ cP; omega⟩
    rw [e0, e1, e2, e3, e4, e5, e6, e7, e8, e9, e10, e11, e12, e13, ← hr1, ← hp1]
    rfl

/-- The element of a list of steps. -/
theorem open_stepT {fuel : Nat} {l : List Value} {x : DataW H × List MemPlace} (hf : DataW.trod encH Try.prog W 0 (fun _ => true) true fuel 46 l = some x) : ∃ st : Stp, l = st.cs.toList ∧ IsInts W st.cA st.cl ∧ IsNode W st.raw := by
  obtain ⟨xs, n, _, hx, hln, hlen, hg⟩ := DataW.trod_struct (show Try.prog.underlying 46 = some (.struct _) from Try.underlying46) hf
  have hl : l.length = 19 := hln.trans (by kernel_rfl)
  match l, hl with
  | [c0, c1, c2, c3, c4, c5, c6, c7, c8, c9, c10, c11, c12, c13, c14, c15, c16, c17, c18], _ =>
    have k3 : Try.prog.cellsOf 3 = 1 := by kernel_rfl
    have k22 : Try.prog.cellsOf 22 = 1 := by kernel_rfl
    have k44 : Try.prog.cellsOf 44 = 14 := by kernel_rfl
    have hlx : xs.length = 6 := hlen
    have hat : ∀ i, i < 6 → ∃ y, xs[i]? = some y := fun i hi => ⟨_, List.getElem?_eq_getElem (by omega)⟩
    obtain ⟨y0, hy0⟩ := hat 0 (by omega)
    have g0 : DataW.trod encH Try.prog W 0 (fun _ => true) true n 3 [c0] = some y0 := by
      have := hg 0 _ rfl
      rw [hy0] at this
      simpa [k3, Value.cells] using this
    obtain ⟨y1, hy1⟩ := hat 1 (by omega)
    have g1 : DataW.trod encH Try.prog W 0 (fun _ => true) true n 3 [c1] = some y1 := by
      have := hg 1 _ rfl
      rw [hy1] at this
      simpa [k3, Value.cells] using this
    obtain ⟨y2, hy2⟩ := hat 2 (by omega)
    have g2 : DataW.trod encH Try.prog W 0 (fun _ => true) true n 3 [c2] = some y2 := by
      have := hg 2 _ rfl
      rw [hy2] at this
      simpa [k3, Value.cells] using this
    obtain ⟨y3, hy3⟩ := hat 3 (by omega)
    have g3 : DataW.trod encH Try.prog W 0 (fun _ => true) true n 3 [c3] = some y3 := by
      have := hg 3 _ rfl
      rw [hy3] at this
      simpa [k3, Value.cells] using this
    obtain ⟨y4, hy4⟩ := hat 4 (by omega)
    have g4 : DataW.trod encH Try.prog W 0 (fun _ => true) true n 22 [c4] = some y4 := by
      have := hg 4 _ rfl
      rw [hy4] at this
      simpa [k22, Value.cells] using this
    obtain ⟨y5, hy5⟩ := hat 5 (by omega)
    have g5 : DataW.trod encH Try.prog W 0 (fun _ => true) true n 44 [c5, c6, c7, c8, c9, c10, c11, c12, c13, c14, c15, c16, c17, c18] = some y5 := by
      have := hg 5 _ rfl
      rw [hy5] at this
      simpa [k44, Value.cells] using this
    obtain ⟨z0, e0, _, f0⟩ := DataW.trod_int Try.underlying3 g0
    injection e0 with e0
    obtain ⟨z1, e1, _, f1⟩ := DataW.trod_int Try.underlying3 g1
    injection e1 with e1
    obtain ⟨z2, e2, _, f2⟩ := DataW.trod_int Try.underlying3 g2
    injection e2 with e2
    obtain ⟨z3, e3, _, f3⟩ := DataW.trod_int Try.underlying3 g3
    injection e3 with e3
    obtain ⟨m, e5, hm⟩ := open_nodeT g5
    have hI : ∃ A cl cc, c4 = .slice A cl cc ∧ IsInts W A cl := by
      rcases open_ints Try.underlying22 Try.underlying3 (by kernel_rfl) g4 with ⟨hcs, _⟩ | ⟨x, len, c, zs, hcs, _, hl, hm, hz, _, hcell, hwz⟩
      · injection hcs with hcs
        exact ⟨none, 0, 0, hcs, Nat.zero_le _, fun j hj => by omega⟩
      · injection hcs with hcs
        have hz' : zs.length = c := by simpa using hz
        exact ⟨some x, len, c, hcs, by omega, fun j hj => ⟨x, _, rfl, hcell j (by omega)⟩⟩
    obtain ⟨A, cl, cc, e4, hI⟩ := hI
    refine ⟨⟨z0, z1, z2, z3, A, cl, cc, m⟩, ?_, hI, hm⟩
    rw [e0, e1, e2, e3, e4, e5]
    rfl
/-- A list of steps that reads. -/
def IsSteps (w : World) (a : Option Addr) (len : Nat) : Prop := len ≤ maxLen ∧ ∀ i, i < len → ∃ (ad : Addr) (st : Stp), a = some ad ∧ (∀ j, j < 19 → w.cell? ((ad.add (i * 19)).add j) = st.cs[j]?) ∧ IsInts w st.cA st.cl ∧ IsNode w st.raw
theorem open_steps {a : Option Addr} {len cap : Nat} {d : DataW H} {p : List MemPlace} (h : DataW.Trod encH Try.prog W 0 (fun _ => true) true 23 (.slice a len cap) d p) : IsSteps W a len := by
  obtain ⟨fuel, hf⟩ := h
  rcases Go.Deep.open_slice (show Try.prog.underlying 23 = some (.slice 46) from Try.underlying23) hf with ⟨hcs, _⟩ | ⟨x, l, c, m, n, D, Pl, hcs, _, hl, hc, hm, _, hall⟩
  · simp [Value.cells] at hcs
    obtain ⟨rfl, rfl, rfl⟩ := hcs
    exact ⟨Nat.zero_le _, fun j hj => by omega⟩
  · simp [Value.cells] at hcs
    obtain ⟨rfl, rfl, rfl⟩ := hcs
    have hlm : len ≤ m := by rw [hm]; simpa using hl
    refine ⟨by omega, fun i hi => ?_⟩
    obtain ⟨cs', h1, h2⟩ := hall i (by omega)
    rw [show Try.prog.cellsOf 46 = 19 by kernel_rfl] at h1
    obtain ⟨_, hlen, hcell⟩ := World.cells?_some h1
    obtain ⟨st, e, hI, hN⟩ := open_stepT h2
    exact ⟨x, st, rfl, fun j hj => by rw [hcell j hj, e]; simp, hI, hN⟩
end
/-! ### The load of a step, whole -/
def loadStep (v : Value) : Sem Value := Instr.loadAt 46 v
theorem exec_load46 (ρ : Operand → Value) (dst : Option Tmp) (x : Operand) (ty : TypeId) (pos : String) (after : Array Edge) (guard : Option (Nat × Bool)) :
    execOp ρ { dst, op := .load 46 x, type := ty, pos, after, guard } = (do pure (.value (← loadStep (ρ x)))) := rfl
theorem run_loadStep {V : World} {p : Addr} {st : Stp} (h : ∀ j, j < 19 → V.cell? (p.add j) = st.cs[j]?) : Sem.run Try.prog (loadStep (.pointer (some p))) V = .ok (.agg st.cs) V := by
  have hn : st.cs.toList.length = 19 := rfl
  have hl : (loadCells p st.cs.toList.length).run Try.prog V = .ok st.cs.toList.toArray V :=
    run_loadCells_list (P := Try.prog) V p st.cs.toList (fun j v hv => by
      have hj : j < 19 := by
        have := (List.getElem?_eq_some_iff.1 hv).1
        omega
      rw [h j hj]; simpa using hv)
  have ht : Try.t46.size = 19 := by kernel_rfl
  rw [hn] at hl
  simp only [loadStep, Instr.loadAt, Instr.sureAddr, Sem.run_bind, Sem.run_pure, Result.andThen_ok]
  simp [loadVar, isAgg, sizeOf]
  rw [ht, hl]
  rfl
end Go.Proofs.Ytcmnmimkjkpimaa
