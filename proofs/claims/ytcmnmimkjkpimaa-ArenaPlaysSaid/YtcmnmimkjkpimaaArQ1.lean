/-
  Steps, arenas side by side, a copy beside its arena: what ArenaPlays wants, in one text.
-/
import Derived.Test.YtcmnmimkjkpimaaArW
import Derived.Deep.RegionHeld3
import Derived.Deep.DeepCutAuto
import Derived.Test.YtcmnmimkjkpimaaFrame
import Derived.Deep.Slices
import Derived.Test.YtcmnmimkjkpimaaArS
import Derived.Test.YtcmnmimkjkpimaaArU
set_option linter.unusedVariables false
set_option maxRecDepth 100000
namespace Go.Proofs.Ytcmnmimkjkpimaa
section
open Go.Shelf Go.RowKit Go.Lib Go.Sort
attribute [local go_sem ↓] exec_load28 exec_store44
attribute [local go_sem] run_storeNode_new

theorem Did.self (w : World) (q : Nat) (s : Sd) : Did w w q s s := ⟨Fr.refl _ _, fun _ hk => .inl hk, fun _ hn => .inl hn⟩
/-- A step of a law. -/
structure Stp where
  (kd a b c : Int)
  cA : Option Addr
  (cl cc : Nat)
  raw : Nd
def Stp.cs (x : Stp) : Array Value := #[.int .i64 x.kd, .int .i64 x.a, .int .i64 x.b, .int .i64 x.c, .slice x.cA x.cl x.cc, .int .i64 x.raw.kind, .int .i64 x.raw.gen, .int .i64 x.raw.main, .int .u64 x.raw.bm, .slice x.raw.bA x.raw.bs.length x.raw.bc, .int .u64 x.raw.hash, .string x.raw.key, .int .u64 x.raw.val, .slice x.raw.pA x.raw.ps.length x.raw.pc, .int .i64 x.raw.prev, .int .i64 x.raw.old, .int .i64 x.raw.exp, .int .i64 x.raw.new, .int .i64 x.raw.status]
/-- What region 1 leaves. -/
def Cut1 (W : World) (lo : Nat) (rf : Nat) (v : Value) (w : World) : Prop := ∃ (b : Nat) (n : Nd), v = .pointer (some ⟨b, 0, none⟩) ∧ Aside (W.heap.size ≤ b ∧ w.heap[b]? = some (.cells n.cs 44 (0, 0)) ∧ GoodN w n ∧ VN rf n ∧ FRs lo n ∧ Below W.heap.size W w)
theorem GoodN.fr {w w' : World} {n : Nd} {M : Nat → Prop} (h : GoodN w n) (hf : Fr M w w') (ha : Av M n.bA) (hp : Av M n.pA) : GoodN w' n :=
  ⟨⟨h.rd.r.fr hf ha, h.rd.p.fr hf hp, h.rd.bm, h.rd.bl, h.rd.pl⟩, h.ba, h.pa, h.bc, h.pc, h.bl, h.pl, h.key⟩
theorem FRs.mono {lo hi : Nat} {n : Nd} (h : FRs hi n) (hl : lo ≤ hi) : FRs lo n := ⟨fun ad e => Nat.le_trans hl (h.1 ad e), fun ad e => Nat.le_trans hl (h.2 ad e)⟩
theorem cut1_new {W v : World} {lo rf : Nat} {n : Nd} (hg : GoodN v n) (hv : VN rf n) (hf : FRs lo n) (hb : RowKit.Below W.heap.size W v) : Cut1 W lo rf (.pointer (some ⟨v.heap.size, 0, none⟩)) (v.alloc (.cells n.cs 44)) :=
  ⟨v.heap.size, n, rfl, (⟨hb.size, heap_alloc_new v _, hg.fr (M := fun _ => False) ((Fr.refl _ v).alloc _) (fun _ _ e => e) (fun _ _ e => e), hv, hf, hb.alloc hb.size _⟩ : _ ∧ _ ∧ _ ∧ _ ∧ _ ∧ _)⟩
theorem cut1_old {W v : World} {lo rf b B : Nat} {n : Nd} {old : Array Value} (hg : GoodN v n) (hv : VN rf n) (hf : FRs B n) (hlo : lo ≤ B) (hbB : b < B) (hWb : W.heap.size ≤ b) (ho : v.heap[b]? = some (.cells old 44 (0, 0))) (hb : RowKit.Below W.heap.size W v) : Cut1 W lo rf (.pointer (some ⟨b, 0, none⟩)) (v.setRow b n.cs) := by
  have hfr : Fr (fun k => k = b) v (v.setRow b n.cs) := ⟨rfl, rfl, rfl, by simp, fun k _ hk => setRow_other _ _ _ _ hk⟩
  have h1 : GoodN (v.setRow b n.cs) n := hg.fr hfr (fun ad e hm => by have := hf.1 ad e; have hm' : ad.block = b := hm; omega) (fun ad e hm => by have := hf.2 ad e; have hm' : ad.block = b := hm; omega)
  have h2 : FRs lo n := ⟨fun ad e => Nat.le_trans hlo (hf.1 ad e), fun ad e => Nat.le_trans hlo (hf.2 ad e)⟩
  have h3 : RowKit.Below W.heap.size v (v.setRow b n.cs) := ⟨rfl, rfl, rfl, by simp, fun k hk => setRow_other _ _ _ _ (by omega)⟩
  exact ⟨b, n, rfl, (⟨hWb, setRow_heap v b _ n.cs 44 (0, 0) ho, h1, hv, h2, hb.trans h3⟩ : _ ∧ _ ∧ _ ∧ _ ∧ _ ∧ _)⟩
theorem below_row {W v : World} {b : Nat} (hb : RowKit.Below W.heap.size W v) (h : W.heap.size ≤ b) (cs : Array Value) : RowKit.Below W.heap.size W (v.setRow b cs) :=
  hb.trans (b := v) ⟨rfl, rfl, rfl, by simp, fun k hk => setRow_other _ _ _ _ (by omega)⟩
theorem below_node {W V v : World} {T : Nat} (hb : RowKit.Below W.heap.size W V) (hg : V.grownBy v (some T)) (hT : W.heap.size ≤ T) : RowKit.Below W.heap.size W v :=
  hb.trans ((Fr.of_grown hg).below hb.size fun k e => by injection e with e; omega)
abbrev Z44 : Obj := .cells #[.int .i64 0, .int .i64 0, .int .i64 0, .int .u64 0, .slice none 0 0, .int .u64 0, .string ⟨#[]⟩, .int .u64 0, .slice none 0 0, .int .i64 0, .int .i64 0, .int .i64 0, .int .i64 0, .int .i64 0] 44
def NewP (W V : World) (e : Ending) (w' : World) : Prop := ∃ T, e = .returned (.pointer (some ⟨T, 0, none⟩)) ∧ V.heap.size ≤ T ∧ Tape T w' ∧ RowKit.Below W.heap.size W w' ∧ RowKit.Below V.heap.size V w'
end

section
open Go.ChangeShapes Go.WideShapes Go.ChangeAt Go.RowKit Go.Deep Go.Joins
section
variable {H : Type} {encH : TypeId × Value → H} {W : World}
set_option maxHeartbeats 1000000 in
theorem open_nodeT {fuel : Nat} {l : List Value} {x : DataW H × List MemPlace} (hf : DataW.trod encH Try.prog W 0 (fun _ => true) true fuel 44 l = some x) : ∃ n : Nd, l = n.cs.toList ∧ IsNode W n := by
  obtain ⟨xs, n, _, hx, hln, hlen, hg⟩ := DataW.trod_struct (show Try.prog.underlying 44 = some (.struct _) from Try.underlying44) hf
  have hl : l.length = 14 := hln.trans (by kernel_rfl)
  match l, hl with
  | [c0, c1, c2, c3, c4, c5, c6, c7, c8, c9, c10, c11, c12, c13], _ =>
    have k3 : Try.prog.cellsOf 3 = 1 := by kernel_rfl
    have k22 : Try.prog.cellsOf 39 = 1 := by kernel_rfl
    have k23 : Try.prog.cellsOf 40 = 1 := by kernel_rfl
    have k24 : Try.prog.cellsOf 33 = 1 := by kernel_rfl
    have k9 : Try.prog.cellsOf 9 = 1 := by kernel_rfl
    have k25 : Try.prog.cellsOf 41 = 1 := by kernel_rfl
    have k26 : Try.prog.cellsOf 42 = 1 := by kernel_rfl
    have hlx : xs.length = 14 := hlen
    have hat : ∀ i, i < 14 → ∃ y, xs[i]? = some y := fun i hi => ⟨_, List.getElem?_eq_getElem (by omega)⟩
    obtain ⟨y0, hy0⟩ := hat 0 (by omega)
    have g0 : DataW.trod encH Try.prog W 0 (fun _ => true) true n 3 [c0] = some y0 := by
      have := hg 0 _ rfl
      rw [hy0] at this
      simpa [k3, Value.cells] using this
    obtain ⟨y1, hy1⟩ := hat 1 (by omega)
    have g1 : DataW.trod encH Try.prog W 0 (fun _ => true) true n 3 [c1] = some y1 := by
      have := hg 1 _ rfl
      rw [hy1] at this
      simpa [k3, Value.cells] using this
    obtain ⟨y2, hy2⟩ := hat 2 (by omega)
    have g2 : DataW.trod encH Try.prog W 0 (fun _ => true) true n 39 [c2] = some y2 := by
      have := hg 2 _ rfl
      rw [hy2] at this
      simpa [k22, Value.cells] using this
    obtain ⟨y3, hy3⟩ := hat 3 (by omega)
    have g3 : DataW.trod encH Try.prog W 0 (fun _ => true) true n 40 [c3] = some y3 := by
      have := hg 3 _ rfl
      rw [hy3] at this
      simpa [k23, Value.cells] using this
    obtain ⟨y4, hy4⟩ := hat 4 (by omega)
    have g4 : DataW.trod encH Try.prog W 0 (fun _ => true) true n 33 [c4] = some y4 := by
      have := hg 4 _ rfl
      rw [hy4] at this
      simpa [k24, Value.cells] using this
    obtain ⟨y5, hy5⟩ := hat 5 (by omega)
    have g5 : DataW.trod encH Try.prog W 0 (fun _ => true) true n 40 [c5] = some y5 := by
      have := hg 5 _ rfl
      rw [hy5] at this
      simpa [k23, Value.cells] using this
    obtain ⟨y6, hy6⟩ := hat 6 (by omega)
    have g6 : DataW.trod encH Try.prog W 0 (fun _ => true) true n 9 [c6] = some y6 := by
      have := hg 6 _ rfl
      rw [hy6] at this
      simpa [k9, Value.cells] using this
    obtain ⟨y7, hy7⟩ := hat 7 (by omega)
    have g7 : DataW.trod encH Try.prog W 0 (fun _ => true) true n 40 [c7] = some y7 := by
      have := hg 7 _ rfl
      rw [hy7] at this
      simpa [k23, Value.cells] using this
    obtain ⟨y8, hy8⟩ := hat 8 (by omega)
    have g8 : DataW.trod encH Try.prog W 0 (fun _ => true) true n 41 [c8] = some y8 := by
      have := hg 8 _ rfl
      rw [hy8] at this
      simpa [k25, Value.cells] using this
    obtain ⟨y9, hy9⟩ := hat 9 (by omega)
    have g9 : DataW.trod encH Try.prog W 0 (fun _ => true) true n 39 [c9] = some y9 := by
      have := hg 9 _ rfl
      rw [hy9] at this
      simpa [k22, Value.cells] using this
    obtain ⟨y10, hy10⟩ := hat 10 (by omega)
    have g10 : DataW.trod encH Try.prog W 0 (fun _ => true) true n 42 [c10] = some y10 := by
      have := hg 10 _ rfl
      rw [hy10] at this
      simpa [k26, Value.cells] using this
    obtain ⟨y11, hy11⟩ := hat 11 (by omega)
    have g11 : DataW.trod encH Try.prog W 0 (fun _ => true) true n 42 [c11] = some y11 := by
      have := hg 11 _ rfl
      rw [hy11] at this
      simpa [k26, Value.cells] using this
    obtain ⟨y12, hy12⟩ := hat 12 (by omega)
    have g12 : DataW.trod encH Try.prog W 0 (fun _ => true) true n 42 [c12] = some y12 := by
      have := hg 12 _ rfl
      rw [hy12] at this
      simpa [k26, Value.cells] using this
    obtain ⟨y13, hy13⟩ := hat 13 (by omega)
    have g13 : DataW.trod encH Try.prog W 0 (fun _ => true) true n 39 [c13] = some y13 := by
      have := hg 13 _ rfl
      rw [hy13] at this
      simpa [k22, Value.cells] using this
    obtain ⟨z0, e0, _, f0⟩ := DataW.trod_int Try.underlying3 g0
    injection e0 with e0
    obtain ⟨z1, e1, _, f1⟩ := DataW.trod_int Try.underlying3 g1
    injection e1 with e1
    obtain ⟨z2, e2, _, f2⟩ := DataW.trod_int Try.underlying39 g2
    injection e2 with e2
    obtain ⟨z3, e3, _, f3⟩ := DataW.trod_int Try.underlying40 g3
    injection e3 with e3
    obtain ⟨A, lA, cA, zs, e4, hr⟩ := open_refsT g4
    injection e4 with e4
    obtain ⟨z5, e5, _, f5⟩ := DataW.trod_int Try.underlying40 g5
    injection e5 with e5
    obtain ⟨s6, e6, _⟩ := DataW.trod_string Try.underlying9 g6
    injection e6 with e6
    obtain ⟨z7, e7, _, f7⟩ := DataW.trod_int Try.underlying40 g7
    injection e7 with e7
    obtain ⟨P, lP, cP, ps, e8, hp⟩ := open_listT g8
    injection e8 with e8
    obtain ⟨z9, e9, _, f9⟩ := DataW.trod_int Try.underlying39 g9
    injection e9 with e9
    obtain ⟨z10, e10, _, f10⟩ := DataW.trod_int Try.underlying42 g10
    injection e10 with e10
    obtain ⟨z11, e11, _, f11⟩ := DataW.trod_int Try.underlying42 g11
    injection e11 with e11
    obtain ⟨z12, e12, _, f12⟩ := DataW.trod_int Try.underlying42 g12
    injection e12 with e12
    obtain ⟨z13, e13, _, f13⟩ := DataW.trod_int Try.underlying39 g13
    injection e13 with e13
    obtain ⟨hr1, hr2, hr3, hr4⟩ := hr
    obtain ⟨hp1, hp2, hp3, hp4⟩ := hp
    refine ⟨⟨z0, z1, z2, z3, A, cA, zs, z5, s6, z7, P, cP, ps, z9, z10, z11, z12, z13⟩, ?_, hr3, hp3, u64_of_wf f3, hr4, hp4, by show zs.length ≤ cA; omega, by show ps.length ≤ cP; omega⟩
    rw [e0, e1, e2, e3, e4, e5, e6, e7, e8, e9, e10, e11, e12, e13, ← hr1, ← hp1]
    rfl

/-- The element of a list of steps. -/
theorem open_stepT {fuel : Nat} {l : List Value} {x : DataW H × List MemPlace} (hf : DataW.trod encH Try.prog W 0 (fun _ => true) true fuel 46 l = some x) : ∃ st : Stp, l = st.cs.toList ∧ IsInts W st.cA st.cl ∧ IsNode W st.raw := by
  obtain ⟨xs, n, _, hx, hln, hlen, hg⟩ := DataW.trod_struct (show Try.prog.underlying 46 = some (.struct _) from Try.underlying46) hf
  have hl : l.length = 19 := hln.trans (by kernel_rfl)
  match l, hl with
  | [c0, c1, c2, c3, c4, c5, c6, c7, c8, c9, c10, c11, c12, c13, c14, c15, c16, c17, c18], _ =>
    have k3 : Try.prog.cellsOf 3 = 1 := by kernel_rfl
    have k22 : Try.prog.cellsOf 22 = 1 := by kernel_rfl
    have k44 : Try.prog.cellsOf 44 = 14 := by kernel_rfl
    have hlx : xs.length = 6 := hlen
    have hat : ∀ i, i < 6 → ∃ y, xs[i]? = some y := fun i hi => ⟨_, List.getElem?_eq_getElem (by omega)⟩
    obtain ⟨y0, hy0⟩ := hat 0 (by omega)
    have g0 : DataW.trod encH Try.prog W 0 (fun _ => true) true n 3 [c0] = some y0 := by
      have := hg 0 _ rfl
      rw [hy0] at this
      simpa [k3, Value.cells] using this
    obtain ⟨y1, hy1⟩ := hat 1 (by omega)
    have g1 : DataW.trod encH Try.prog W 0 (fun _ => true) true n 3 [c1] = some y1 := by
      have := hg 1 _ rfl
      rw [hy1] at this
      simpa [k3, Value.cells] using this
    obtain ⟨y2, hy2⟩ := hat 2 (by omega)
    have g2 : DataW.trod encH Try.prog W 0 (fun _ => true) true n 3 [c2] = some y2 := by
      have := hg 2 _ rfl
      rw [hy2] at this
      simpa [k3, Value.cells] using this
    obtain ⟨y3, hy3⟩ := hat 3 (by omega)
    have g3 : DataW.trod encH Try.prog W 0 (fun _ => true) true n 3 [c3] = some y3 := by
      have := hg 3 _ rfl
      rw [hy3] at this
      simpa [k3, Value.cells] using this
    obtain ⟨y4, hy4⟩ := hat 4 (by omega)
    have g4 : DataW.trod encH Try.prog W 0 (fun _ => true) true n 22 [c4] = some y4 := by
      have := hg 4 _ rfl
      rw [hy4] at this
      simpa [k22, Value.cells] using this
    obtain ⟨y5, hy5⟩ := hat 5 (by omega)
    have g5 : DataW.trod encH Try.prog W 0 (fun _ => true) true n 44 [c5, c6, c7, c8, c9, c10, c11, c12, c13, c14, c15, c16, c17, c18] = some y5 := by
      have := hg 5 _ rfl
      rw [hy5] at this
      simpa [k44, Value.cells] using this
    obtain ⟨z0, e0, _, f0⟩ := DataW.trod_int Try.underlying3 g0
    injection e0 with e0
    obtain ⟨z1, e1, _, f1⟩ := DataW.trod_int Try.underlying3 g1
    injection e1 with e1
    obtain ⟨z2, e2, _, f2⟩ := DataW.trod_int Try.underlying3 g2
    injection e2 with e2
    obtain ⟨z3, e3, _, f3⟩ := DataW.trod_int Try.underlying3 g3
    injection e3 with e3
    obtain ⟨m, e5, hm⟩ := open_nodeT g5
    have hI : ∃ A cl cc, c4 = .slice A cl cc ∧ IsInts W A cl := by
      rcases open_ints Try.underlying22 Try.underlying3 (by kernel_rfl) g4 with ⟨hcs, _⟩ | ⟨x, len, c, zs, hcs, _, hl, hm, hz, _, hcell, hwz⟩
      · injection hcs with hcs
        exact ⟨none, 0, 0, hcs, Nat.zero_le _, fun j hj => by omega⟩
      · injection hcs with hcs
        have hz' : zs.length = c := by simpa using hz
        exact ⟨some x, len, c, hcs, by omega, fun j hj => ⟨x, _, rfl, hcell j (by omega)⟩⟩
    obtain ⟨A, cl, cc, e4, hI⟩ := hI
    refine ⟨⟨z0, z1, z2, z3, A, cl, cc, m⟩, ?_, hI, hm⟩
    rw [e0, e1, e2, e3, e4, e5]
    rfl
/-- A list of steps that reads. -/
def IsSteps (w : World) (a : Option Addr) (len : Nat) : Prop := len ≤ maxLen ∧ ∀ i, i < len → ∃ (ad : Addr) (st : Stp), a = some ad ∧ (∀ j, j < 19 → w.cell? ((ad.add (i * 19)).add j) = st.cs[j]?) ∧ IsInts w st.cA st.cl ∧ IsNode w st.raw
theorem open_steps {a : Option Addr} {len cap : Nat} {d : DataW H} {p : List MemPlace} (h : DataW.Trod encH Try.prog W 0 (fun _ => true) true 23 (.slice a len cap) d p) : IsSteps W a len := by
  obtain ⟨fuel, hf⟩ := h
  rcases Go.Deep.open_slice (show Try.prog.underlying 23 = some (.slice 46) from Try.underlying23) hf with ⟨hcs, _⟩ | ⟨x, l, c, m, n, D, Pl, hcs, _, hl, hc, hm, _, hall⟩
  · simp [Value.cells] at hcs
    obtain ⟨rfl, rfl, rfl⟩ := hcs
    exact ⟨Nat.zero_le _, fun j hj => by omega⟩
  · simp [Value.cells] at hcs
    obtain ⟨rfl, rfl, rfl⟩ := hcs
    have hlm : len ≤ m := by rw [hm]; simpa using hl
    refine ⟨by omega, fun i hi => ?_⟩
    obtain ⟨cs', h1, h2⟩ := hall i (by omega)
    rw [show Try.prog.cellsOf 46 = 19 by kernel_rfl] at h1
    obtain ⟨_, hlen, hcell⟩ := World.cells?_some h1
    obtain ⟨st, e, hI, hN⟩ := open_stepT h2
    exact ⟨x, st, rfl, fun j hj => by rw [hcell j hj, e]; simp, hI, hN⟩
end
/-! ### The load of a step, whole -/
def loadStep (v : Value) : Sem Value := Instr.loadAt 46 v
theorem exec_load46 (ρ : Operand → Value) (dst : Option Tmp) (x : Operand) (ty : TypeId) (pos : String) (after : Array Edge) (guard : Option (Nat × Bool)) :
    execOp ρ { dst, op := .load 46 x, type := ty, pos, after, guard } = (do pure (.value (← loadStep (ρ x)))) := rfl
theorem run_loadStep {V : World} {p : Addr} {st : Stp} (h : ∀ j, j < 19 → V.cell? (p.add j) = st.cs[j]?) : Sem.run Try.prog (loadStep (.pointer (some p))) V = .ok (.agg st.cs) V := by
  have hn : st.cs.toList.length = 19 := rfl
  have hl : (loadCells p st.cs.toList.length).run Try.prog V = .ok st.cs.toList.toArray V :=
    run_loadCells_list (P := Try.prog) V p st.cs.toList (fun j v hv => by
      have hj : j < 19 := by
        have := (List.getElem?_eq_some_iff.1 hv).1
        omega
      rw [h j hj]; simpa using hv)
  have ht : Try.t46.size = 19 := by kernel_rfl
  rw [hn] at hl
  simp only [loadStep, Instr.loadAt, Instr.sureAddr, Sem.run_bind, Sem.run_pure, Result.andThen_ok]
  simp [loadVar, isAgg, sizeOf]
  rw [ht, hl]
  rfl
end

section
open Go.Shelf Go.RowKit Go.Lib Go.Sort
attribute [local go_sem ↓] exec_load28 exec_store44
attribute [local go_sem] run_storeNode_new
def MemT (T : Nat) (w : World) (e : Ending) (w' : World) : Prop := ∃ q s, e = .returned (.pointer (some ⟨q, 0, none⟩)) ∧ Ob w' w.heap.size 37 q s 0 ∧ GS w.heap.size s ∧ s.ns.length ≤ 9 ∧ s.cs.length ≤ 9 ∧ w.grownBy w' (some T) ∧ Tape T w'
set_option maxHeartbeats 4000000 in
theorem mem_t (T : Nat) (w : World) (h : Tape T w) : Calls Try.prog 9 #[.pointer (some ⟨T, 0, none⟩)] w (MemT T w) := by
  have mixed := mixedOrders
  have hT := h.lt
  have HT := Lib.hid h
  have RN := Lib.hid (rnew_any w)
  clear h
  go_enter Try.func9, Try.ntmps9
  go_upto_region 3 with (go_at_call 25; refine RN.out.mono ?_; rintro e w1 ⟨g, q, rfl, hob, hb⟩; have O1 := Lib.hid hob; have B1 := Lib.hid hb; have c2 := block_cell hob.blk (i := 2) (v := .int .i64 0) rfl; have f2 := block_frozen hob.blk 2; clear hob hb)
  obtain ⟨V, hV⟩ : ∃ V, V = w1.setCell ⟨q, 2, none⟩ (.int .i64 3) := ⟨_, rfl⟩
  have OV := Lib.hid (show Ob V w.heap.size 37 q { newS g with gen := 3 } 0 by rw [hV]; exact O1.out.setGen (by decide) (by decide) 3)
  have BV := Lib.hid (show Below w.heap.size w V by rw [hV]; exact B1.out.setCell O1.out.hq _)
  rw [← hV]
  clear hV c2 f2
  have TV := Lib.hid (HT.out.below BV.out hT)
  have GV := Lib.hid (⟨BV.out.os, BV.out.tape, BV.out.output, BV.out.size, fun k hk _ => BV.out.block k hk⟩ : w.grownBy V (some T))
  have hT2 := Lib.hid hT
  go_upto_region 4 with (go_at_call 31; refine (next_any T 8 V TV.out (by omega) (by omega)).mono ?_; rintro e w2 ⟨r, hr, rfl, hTt, hg⟩; have T2 := Lib.hid hTt; have G2 := Lib.hid hg; clear hTt hg)
  have O2 := Lib.hid (OV.out.tape (fun n hn => (gs_new w.heap.size g |>.ok n hn).2.2) hT G2.out)
  clear hT
  go_loopg [4] r (fun kx s4 wr => ∃ (k : Nat) (s : Sd), s4 = .int .i64 k ∧ k ≤ kx ∧ k ≤ 8 ∧ Aside (Tape T wr ∧ w.grownBy wr (some T)) ∧ Aside (Ob wr w.heap.size 37 q s 0 ∧ GS w.heap.size s ∧ s.ns.length + k ≤ 9 ∧ s.cs.length ≤ s.ns.length ∧ 2 ≤ s.ns.length))
  case atStart => exact ⟨r, _, rfl, Nat.le_refl _, by omega, (⟨T2.out, grown_trans_ GV.out G2.out⟩ : _ ∧ _), (⟨O2.out, gs_new _ _, by show 2 + r ≤ 9; omega, by show 0 ≤ 2; omega, Nat.le_refl 2⟩ : _ ∧ _ ∧ _ ∧ _ ∧ _)⟩
  case round =>
    obtain ⟨k, s, rfl, hk, hk8, TG, O⟩ := hrel
    have hql := O.out.1.lt
    by_cases h0 : 0 < k
    · have hz : (k : Int) > 0 := by omega
      obtain ⟨m, rfl⟩ : ∃ m, k = m + 1 := ⟨k - 1, by omega⟩
      have hFR : ∀ n ∈ s.ns, FRs w.heap.size n := fun n hn => (O.out.2.1.ok n hn).2.2
      have HFR := Lib.hid hFR
      have c0 := block_cell O.out.1.blk (i := 0) (v := .slice s.nA s.ns.length s.nc) rfl
      have hlen : s.ns.length ≤ 9 := by have := O.out.2.2.1; omega
      have HLN := Lib.hid hlen
      have j1 : IntKind.i64.wrap ((s.ns.length : Int) + 1) = (s.ns.length : Int) + 1 := by rw [IntKind.wrap_i64]; omega
      clear hFR hql hlen
      go_wp2_with fail
      have ND := Lib.hid (node_any T s.ns.length wr.drew (TG.out.1.kept (fun _ _ => rfl) (Nat.le_refl _)) (by have := O.out.2.2.2.2; omega) (by have := HLN.out; omega))
      have AV := Lib.hid (fun n (hf : FRs wr.heap.size n) => av_of O.out.1 hf)
      have TL := Lib.hid (show T < wr.heap.size from Nat.lt_of_lt_of_le hT2.out TG.out.2.size)
      have HL1 := Lib.hid (show s.ns.length < 1000 ∧ s.cs.length < 1000 from ⟨by have := HLN.out; omega, by have := HLN.out; have := O.out.2.2.2.1; omega⟩)
      go_region_law (first
        | (go_simp; go_at_call 26; refine ND.out.mono ?_; rintro e u1 ⟨n, rfl, hgn, hTt, hg, hvn, hfr⟩; have T1 := Lib.hid hTt; have G1 := Lib.hid (⟨hg.os, hg.tape, hg.output, hg.size, hg.block⟩ : wr.grownBy u1 (some T)); have GN := Lib.hid hgn; have VN1 := Lib.hid hvn; have FN := Lib.hid (show FRs wr.heap.size n from hfr); have O1' := Lib.hid (O.out.1.tape HFR.out hT2.out G1.out); have c1 := block_cell O1'.out.blk (i := 0) (v := .slice s.nA s.ns.length s.nc) rfl; clear hgn hTt hg hvn hfr)
        | (go_simp; go_at_call 31; refine (next_s T s.ns.length u1 T1.out (by have := HLN.out; omega)).mono ?_; rintro e u2 ⟨r2, hr2, rfl, hTt, hg⟩; have R2 := Lib.hid hr2; have T2' := Lib.hid hTt; have G2' := Lib.hid hg; have O2' := Lib.hid (O1'.out.tape HFR.out hT2.out hg); have RA := Lib.hid (ralloc_any w.heap.size q s 0 n r2 u2 O2'.out (nrd_tape GN.out.rd FN.out TL.out hg) GN.out.ba GN.out.pa (AV.out n FN.out).1 (AV.out n FN.out).2 HL1.out.1 HL1.out.2); clear hTt hg hr2)
        | (go_simp; go_at_call 32; refine RA.out.mono ?_; rintro e u3 ⟨t, rfl, hal, hob, hf, hm⟩; have A3 := Lib.hid (⟨hal, hob, hf, hm⟩ : _ ∧ _ ∧ _ ∧ _); clear hal hob hf hm))
      all_goals
        have hmuB : ∀ j, Mu q s j → w.heap.size ≤ j := fun j hj => (O2'.out.mu_lt hj).1
        have hTw := hT2.out
        have hK := Lib.hid (show Tape T u3 from T2'.out.kept (fun j hj => A3.out.2.2.1.block j (by have := T2'.out.lt; omega) (fun hm => by have := hmuB j hm; omega)) A3.out.2.2.1.size)
        have hG := Lib.hid (show w.grownBy u3 (some T) from grown_fr (grown_trans_ (grown_trans_ TG.out.2 G1.out) G2'.out) A3.out.2.2.1 hmuB)
        have hu2 : w.heap.size ≤ u2.heap.size := Nat.le_trans TG.out.2.size (Nat.le_trans G1.out.size G2'.out.size)
        have hgs := Lib.hid (O.out.2.1.alloc A3.out.1 hu2 VN1.out (by have := R2.out; omega))
        have hln := Lib.hid (show t.ns.length = s.ns.length + 1 ∧ t.cs.length ≤ s.cs.length + 1 by
          obtain ⟨y, hy, _⟩ := A3.out.1.ns
          refine ⟨by rw [hy]; simp, ?_⟩
          rw [A3.out.1.cs]
          cases hasO n <;> simp)
        have hx1 := Lib.hid (show t.ns.length + m ≤ 9 by have h1 := hln.out.1; have h2 := O.out.2.2.1; omega)
        have hx2 := Lib.hid (show t.cs.length ≤ t.ns.length by have h1 := hln.out.1; have h3 := hln.out.2; have h2 := O.out.2.2.2.1; omega)
        have hx3 := Lib.hid (show 2 ≤ t.ns.length by have h1 := hln.out.1; have h2 := O.out.2.2.2.2; omega)
        clear hmuB hTw hu2 c0 c1 j1
        go_wp2
        go_roundg m
        case measure => omega
        case rel => exact ⟨m, t, by go_num, Nat.le_refl _, by omega, (⟨hK.out, hG.out⟩ : _ ∧ _), (⟨A3.out.2.1, hgs.out, hx1.out, hx2.out, hx3.out⟩ : _ ∧ _ ∧ _ ∧ _ ∧ _)⟩
    · obtain rfl : k = 0 := by omega
      go_wp2
      go_ret
      exact ⟨q, s, rfl, O.out.1, O.out.2.1, by have := O.out.2.2.1; omega, by have := O.out.2.2.1; have := O.out.2.2.2.1; omega, TG.out.2, TG.out.1⟩

def OfF (s : Sd) (w : World) (e : Ending) (w' : World) : Prop :=
  ∃ (q : Nat) (t : Sd), e = .returned (.tuple #[.pointer (some ⟨q, 0, none⟩), .int .i64 0]) ∧ SameL s.ns t.ns ∧ t.cs = s.cs ∧ t.gen = s.gen ∧ Ob w' w.heap.size 77 q t 0 ∧ (∀ n ∈ t.ns, FRs w.heap.size n) ∧ Below w.heap.size w w'
set_option maxHeartbeats 4000000 in
theorem of_f (s : Sd) (B : Nat) (w : World) (h : SRd w B s) (hB : B ≤ w.heap.size) (hp : properB s = true) : Calls Try.prog 10 #[.agg s.vals] w (OfF s w) := by
  obtain ⟨W, hW⟩ : ∃ W, W = w.alloc (.cells s.vals 35) := ⟨_, rfl⟩
  have GW := Lib.hid (show Below w.heap.size w W by rw [hW]; exact (Below.refl _ w).alloc (Nat.le_refl _) _)
  have HSB := Lib.hid (show Box W w.heap.size s by rw [hW]; exact heap_alloc_new w _)
  have HL := Lib.hid (show w.heap.size < W.heap.size by rw [hW]; simp)
  have HW := Lib.hid hW.symm
  have H := Lib.hid (h.below (GW.out.mono hB))
  have HB := Lib.hid (Nat.le_trans hB GW.out.size)
  have C1 := Lib.hid (proper_any s B W H.out HB.out)
  rw [hp] at C1
  have C2 := Lib.hid (fun (V : World) (hV : Below W.heap.size W V) => copied_any s B V (H.out.below (hV.mono HB.out)) (Nat.le_trans HB.out hV.size))
  unfold Sd.vals at C1 C2
  clear h hB hW hp
  go_enter Try.func10, Try.ntmps10
  go_upto_region 1 with (fail)
  rw [HW.out]
  have q0 := HSB.out.at0
  have q1 := HSB.out.at1
  have q2 := HSB.out.at2
  go_wp2_with (first
    | (go_at_call 33
       refine C1.out.mono ?_
       rintro e V1 ⟨rfl, hg⟩
       have Y1 := Lib.hid hg
       have B1 := Lib.hid (show Box V1 w.heap.size s from (hg.block _ HL.out).trans HSB.out)
       have p0 := B1.out.at0
       have p1 := B1.out.at1
       have p2 := B1.out.at2
       clear hg)
    | (go_at_call 34
       refine (C2.out _ Y1.out).mono ?_
       rintro e V2 ⟨t, rfl, hs, hc, hgn, hcp, hb⟩
       have K2 := Lib.hid (⟨hs, hc, hgn, hcp, hb⟩ : _ ∧ _ ∧ _ ∧ _ ∧ _)
       unfold Sd.vals
       clear hs hc hgn hcp hb))
  have hVs : w.heap.size ≤ V1.heap.size := Nat.le_trans (Nat.le_of_lt HL.out) Y1.out.size
  have hob := (K2.out.2.2.2.1).ob K2.out.2.2.2.2.size 0
  refine bodyPost_ret (v := .tuple #[.pointer (some ⟨V2.heap.size, 0, none⟩), .int .i64 0]) (by simp [results, Try.results10]) rfl ⟨V2.heap.size, t, rfl, K2.out.1, K2.out.2.1, K2.out.2.2.1, ?_, fun n hn => ⟨fun ad e => Nat.le_trans hVs ((K2.out.2.2.2.1.l n hn).2.1 ad e), fun ad e => Nat.le_trans hVs ((K2.out.2.2.2.1.l n hn).2.2 ad e)⟩, ?_⟩
  · exact ⟨hob.blk, Nat.le_trans hVs hob.hq, hob.nod.mono hVs, OwnR.mono hob.cel hVs, hob.l, hob.nl, hob.cl⟩
  · exact ((GW.out.trans (Y1.out.mono (Nat.le_of_lt HL.out))).trans (K2.out.2.2.2.2.mono hVs)).alloc (Nat.le_trans hVs K2.out.2.2.2.2.size) _
end

section
section
open Go.Shelf Go.RowKit Go.Lib Go.Sort

theorem Ob.zero {w : World} {base : Nat} {T : TypeId} {q : Nat} {s : Sd} {acc : Int} (h : Ob w base T q s acc) : Ob w 0 T q s acc :=
  ⟨h.blk, Nat.zero_le _, h.nod.mono (Nat.zero_le _), OwnR.mono h.cel (Nat.zero_le _), h.l, h.nl, h.cl⟩
section
variable {w w1 : World} {B qa qm : Nat} {s t : Sd} {x y : Int}
/-- An arena, and one of the reference's that was made later. -/
theorem two_later (ha : Ob w B 77 qa s x) (hb : RowKit.Below w.heap.size w w1) (hm : Ob w1 w.heap.size 37 qm t y) (hf : ∀ n ∈ t.ns, FRs w.heap.size n) (hl : SameL s.ns t.ns) (hc : t.cs = s.cs) (hg : t.gen = s.gen) : Two w1 qa qm s t x y :=
  ⟨(ha.up hb).zero, hm.zero, fun k hk hk2 => by have := (ha.mu_lt hk).2; have := (hm.mu_lt hk2).1; omega,
    fun n hn => ⟨fun ad e hk => by have := (ha.l n hn).lb ad e; have := (hm.mu_lt hk).1; omega, fun ad e hk => by have := (ha.l n hn).lp ad e; have := (hm.mu_lt hk).1; omega⟩,
    fun n hn => ⟨fun ad e hk => by have := (hf n hn).1 ad e; have := (ha.mu_lt hk).2; omega, fun ad e hk => by have := (hf n hn).2 ad e; have := (ha.mu_lt hk).2; omega⟩,
    hl.symm, hc.symm, hg.symm⟩
/-- One of the reference's, and an arena that was made later. -/
theorem two_of (hm : Ob w B 37 qm t y) (hb : RowKit.Below w.heap.size w w1) (ha : Ob w1 w.heap.size 77 qa s x) (hf : ∀ n ∈ s.ns, FRs w.heap.size n) (hl : SameL t.ns s.ns) (hc : s.cs = t.cs) (hg : s.gen = t.gen) : Two w1 qa qm s t x y :=
  ⟨ha.zero, (hm.up hb).zero, fun k hk hk2 => by have := (hm.mu_lt hk2).2; have := (ha.mu_lt hk).1; omega,
    fun n hn => ⟨fun ad e hk => by have := (hf n hn).1 ad e; have := (hm.mu_lt hk).2; omega, fun ad e hk => by have := (hf n hn).2 ad e; have := (hm.mu_lt hk).2; omega⟩,
    fun n hn => ⟨fun ad e hk => by have := (hm.l n hn).lb ad e; have := (ha.mu_lt hk).1; omega, fun ad e hk => by have := (hm.l n hn).lp ad e; have := (ha.mu_lt hk).1; omega⟩,
    hl, hc, hg⟩
/-- Behind a2 both stand apart. -/
theorem two_a2 {e : Ending} (ha : Ob w B 77 qa s x) (h : A2Post s w e w1) : ∃ q t, e = .returned (.pointer (some ⟨q, 0, none⟩)) ∧ Two w1 qa q s t x 0 ∧ RowKit.Below w.heap.size w w1 := by
  obtain ⟨q, t, he, hl, hc, hg, hm, hf, hb⟩ := h
  exact ⟨q, t, he, two_later ha hb hm hf hl hc hg, hb⟩
/-- What stands apart from the blocks of both stands behind a step. -/
theorem App.keeps {s' t' : Sd} {x' y' : Int} (h : App w w1 qa qm s t s' t' x y x' y') {k : Nat} (hk : k < w.heap.size) (h1 : ¬ Mu qa s k) (h2 : ¬ Mu qm t k) : w1.heap[k]? = w.heap[k]? := h.fr.block k hk fun hm => hm.elim h1 h2
/-- The nodes that there were are there as they were. -/
theorem Went.get {s' : Sd} {x' y' : Int} (h : Went s s' x x' y y') {i : Nat} {n : Nd} (hi : s.ns[i]? = some n) : s'.ns[i]? = some n := by
  obtain ⟨l, hl, _⟩ := h.ns
  rw [hl, List.getElem?_append_left (List.getElem?_eq_some_iff.1 hi).1]
  exact hi
theorem Went.len {s' : Sd} {x' y' : Int} (h : Went s s' x x' y y') : s.ns.length ≤ s'.ns.length ∧ s'.ns.length ≤ s.ns.length + 1 := by
  obtain ⟨l, hl, h1⟩ := h.ns
  rw [hl]
  simp
  omega
end
end
section
open Go.Shelf Go.RowKit Go.Lib Go.Sort

/-- A row of at least n cells. -/
def RowC (w : World) (g : Nat) (t : TypeId) (n : Nat) : Prop := ∃ cur : Array Value, w.heap[g]? = some (.cells cur t (0, 0)) ∧ n ≤ cur.size
theorem RowC.cell {w : World} {g n : Nat} {t : TypeId} (h : RowC w g t n) {i : Nat} (hi : i < n) : (∃ v, w.cell? ⟨g, i, none⟩ = some v) ∧ w.frozen? ⟨g, i, none⟩ = false := by
  obtain ⟨cur, hg, hn⟩ := h
  exact ⟨⟨cur[i]'(by omega), block_cell hg (Array.getElem?_eq_getElem (by omega))⟩, block_frozen hg i⟩
theorem RowC.set {w : World} {g n : Nat} {t : TypeId} (h : RowC w g t n) (i : Nat) (v : Value) : RowC (w.setCell ⟨g, i, none⟩ v) g t n := by
  obtain ⟨cur, hg, hn⟩ := h
  exact ⟨_, set_block hg i v, by simpa using hn⟩
theorem RowC.keep {w w' : World} {g n : Nat} {t : TypeId} (h : RowC w g t n) (hk : w'.heap[g]? = w.heap[g]?) : RowC w' g t n := by
  obtain ⟨cur, hg, hn⟩ := h
  exact ⟨cur, hk.trans hg, hn⟩
theorem OwnR.row {w : World} {base : Nat} {A : Option Addr} {c : Nat} {zs : List Int} (h : OwnR w base (.slice A zs.length c) zs) (hp : 0 < zs.length) : ∃ g, A = some ⟨g, 0, none⟩ ∧ base ≤ g ∧ g < w.heap.size ∧ RowC w g 42 zs.length := by
  rcases h.2 with ⟨hv, hn⟩ | ⟨g, cap, cur, hv, hb, hg, hnc, hcm, hcs, ht⟩
  · omega
  · injection hv with e1 e2 e3
    exact ⟨g, e1, hb, (Array.getElem?_eq_some_iff.1 hg).1, cur, hg, by omega⟩
theorem Own.row {w : World} {base : Nat} {A : Option Addr} {c : Nat} {zs : List Pr} (h : Own w base (.slice A zs.length c) zs) (hp : 0 < zs.length) : ∃ g, A = some ⟨g, 0, none⟩ ∧ base ≤ g ∧ g < w.heap.size ∧ RowC w g 66 (zs.length * 2) := by
  rcases h.2 with ⟨hv, hn⟩ | ⟨g, cap, cur, hv, hb, hg, hnc, hcm, hcs, ht⟩
  · omega
  · injection hv with e1 e2 e3
    exact ⟨g, e1, hb, (Array.getElem?_eq_some_iff.1 hg).1, cur, hg, by omega⟩
/-- The block of a slice. -/
def OB (A : Option Addr) (k : Nat) : Prop := ∃ ad, A = some ad ∧ ad.block = k
theorem Fresh.frs {w : World} {base : Nat} {n : Nd} (h : Fresh w base n) : FRs base n := by
  refine ⟨fun ad e => ?_, fun ad e => ?_⟩
  · exact (h.a.lt_ (k := ad.block) (by rw [e]; rfl)).1
  · rcases h.p.2 with ⟨hv, _⟩ | ⟨g, cap, cur, hv, hb, hg, _⟩
    · rw [e] at hv; cases hv
    · rw [e] at hv; injection hv with e1; injection e1 with e1; subst e1; exact hb
/-- A node in a block, all of it in blocks of AP. -/
structure Still (w : World) (AP : Nat → Prop) (b : Nat) (n : Nd) : Prop where
  blk : w.heap[b]? = some (.cells n.cs 44 (0, 0))
  inb : AP b
  rd : NRd w w.heap.size n
  ina : 0 < n.bs.length → ∃ ad, n.bA = some ad ∧ AP ad.block
  inp : 0 < n.ps.length → ∃ ad, n.pA = some ad ∧ AP ad.block
theorem Still.keep {w w' : World} {AP : Nat → Prop} {b : Nat} {n : Nd} (h : Still w AP b n) (hk : ∀ k, AP k → w'.heap[k]? = w.heap[k]?) (hs : w.heap.size ≤ w'.heap.size) : Still w' AP b n := by
  refine ⟨(hk b h.inb).trans h.blk, h.inb, ⟨fun hn => ?_, fun hn => ?_, h.rd.bm, h.rd.bl, h.rd.pl⟩, h.ina, h.inp⟩
  · obtain ⟨ad, e, hb, hc⟩ := h.rd.r hn
    obtain ⟨ad', e', hA⟩ := h.ina hn
    rw [e] at e'; injection e' with e'; subst e'
    exact ⟨ad, e, by omega, fun j u hj => (World.cell?_of_block (by rw [block_add]; exact hk _ hA)).trans (hc j u hj)⟩
  · obtain ⟨ad, e, hb, hc⟩ := h.rd.p hn
    obtain ⟨ad', e', hA⟩ := h.inp hn
    rw [e] at e'; injection e' with e'; subst e'
    exact ⟨ad, e, by omega, fun j u hj => (World.cell?_of_block (by rw [block_add]; exact hk _ hA)).trans (hc j u hj)⟩
theorem Still.mono {w : World} {AP AP' : Nat → Prop} {b : Nat} {n : Nd} (h : Still w AP b n) (hm : ∀ k, AP k → AP' k) : Still w AP' b n :=
  ⟨h.blk, hm _ h.inb, h.rd, fun hn => (h.ina hn).imp fun ad ⟨e, ha⟩ => ⟨e, hm _ ha⟩, fun hn => (h.inp hn).imp fun ad ⟨e, ha⟩ => ⟨e, hm _ ha⟩⟩
/-- A node whose lists lie from lo on, below the heap's end, in a block between. -/
theorem still_of {w : World} {lo b : Nat} {n : Nd} (hb : w.heap[b]? = some (.cells n.cs 44 (0, 0))) (hl : lo ≤ b) (hr : NRd w w.heap.size n) (hf : FRs lo n) : Still w (fun k => lo ≤ k ∧ k < w.heap.size) b n := by
  refine ⟨hb, ⟨hl, (Array.getElem?_eq_some_iff.1 hb).1⟩, hr, fun hn => ?_, fun hn => ?_⟩
  · obtain ⟨ad, e, hlt, _⟩ := hr.r hn
    exact ⟨ad, e, hf.1 ad e, hlt⟩
  · obtain ⟨ad, e, hlt, _⟩ := hr.p hn
    exact ⟨ad, e, hf.2 ad e, hlt⟩
/-- The arena's own blocks lie away from AP. -/
def Off (AP : Nat → Prop) (q : Nat) (s : Sd) : Prop := ∀ k, Mu q s k → ¬ AP k
end
section
open Go.Shelf Go.RowKit Go.Lib Go.Sort
/-- Nothing of w changed, but perhaps one row of type t between the blocks lo and hi. -/
def Wiped (t lo hi : Nat) (w w' : World) : Prop := Below w.heap.size w w' ∨ ∃ g cur, lo ≤ g ∧ g < hi ∧ w.heap[g]? = some (.cells cur t (0, 0)) ∧ w.grownBy w' (some g)
theorem Wiped.block {t lo hi : Nat} {w w' : World} (h : Wiped t lo hi w w') {k : Nat} (hk : k < w.heap.size) (ho : k < lo ∨ hi ≤ k) : w'.heap[k]? = w.heap[k]? := by
  rcases h with h | ⟨g, cur, h1, h2, _, hg⟩
  · exact h.block k hk
  · exact hg.block k hk (fun e => by injection e with e; omega)
theorem Wiped.other {t lo hi : Nat} {w w' : World} (h : Wiped t lo hi w w') {k : Nat} {cs : Array Value} {t' : TypeId} {fr : Nat × Nat} (hk : w.heap[k]? = some (.cells cs t' fr)) (ht : t' ≠ t) : w'.heap[k]? = w.heap[k]? := by
  have hlt := (Array.getElem?_eq_some_iff.1 hk).1
  rcases h with h | ⟨g, cur, h1, h2, hc, hg⟩
  · exact h.block k hlt
  · refine hg.block k hlt (fun e => ?_)
    injection e with e
    subst e
    rw [hk] at hc
    injection hc with hc
    injection hc with _ hc _
    exact ht hc
theorem Wiped.size {t lo hi : Nat} {w w' : World} (h : Wiped t lo hi w w') : w.heap.size ≤ w'.heap.size := by
  rcases h with h | ⟨g, cur, h1, h2, hc, hg⟩
  · exact h.size
  · exact hg.size
theorem Wiped.below {t lo hi : Nat} {w w' : World} (h : Wiped t lo hi w w') (hlo : lo ≤ w.heap.size) : Below lo w w' := by
  rcases h with h | ⟨g, cur, h1, h2, hc, hg⟩
  · exact h.mono hlo
  · exact ⟨hg.os, hg.tape, hg.output, hg.size, fun k hk => hg.block k (by omega) (fun e => by injection e; omega)⟩
theorem run_app0R {V w : World} (ty : TypeId) (g : Nat) (A : Option Addr) (n c : Nat) (ns : List Int) (hm : n = ns.length) (hR : RdR V V.heap.size A ns) (hA : A = none → c = 0) (hn : ns.length ≤ 1000)
    (hg : w.heap[g]? = some (.cells #[] 42 (0, 0))) (hV : Below V.heap.size V w) (hVg : V.heap.size ≤ g) :
    ∃ A' c' w', (Builtin.append_ #[33, 33] ty #[.slice (some ⟨g, 0, none⟩) 0 0, .slice A n c]).run Try.prog w = .ok (.slice A' ns.length c') w' ∧ OwnR w' V.heap.size (.slice A' ns.length c') ns ∧ Wiped 42 V.heap.size w.heap.size w w' ∧ Below V.heap.size V w' := by
  subst hm
  have hgl := (Array.getElem?_eq_some_iff.1 hg).1
  have hown : OwnR w V.heap.size (.slice (some ⟨g, 0, none⟩) 0 0) [] := ⟨rfl, .inr ⟨g, 0, #[], rfl, hVg, hg, Nat.le_refl _, by simp [maxLen], rfl, rfl⟩⟩
  obtain ⟨i0, hi0, hz0, hz1, hz2⟩ := info_parts refInfo
  cases A with
  | none =>
    obtain rfl : c = 0 := hA rfl
    have hns : ns = [] := by
      rcases Nat.eq_zero_or_pos ns.length with h | h
      · exact List.eq_nil_of_length_eq_zero h
      · obtain ⟨ad, e, _⟩ := hR h
        cases e
    subst hns
    exact ⟨_, _, w, run_append_owned_none (P := Try.prog) (w := w) V.heap.size 33 ty 42 i0 1 Try.underlying33 hi0 (.slice (some ⟨g, 0, none⟩) 0 0) 0 (flatR []) hown, hown, .inl (Below.refl _ _), hV⟩
  | some ad =>
    have hnews : ∀ j u, (flatR ns)[j]? = some u → w.cell? (ad.add j) = some u := fun j u hj => by
      have hl : 0 < ns.length := by have := (List.getElem?_eq_some_iff.1 hj).1; rw [flatR_length] at this; omega
      obtain ⟨ad', e, hb, hc⟩ := (hR.below hV) hl
      injection e with e
      subst e
      exact hc j u hj
    obtain ⟨v', w', hr, h2, h3, _, _⟩ := run_append_own_at (P := Try.prog) w V.heap.size 33 ty 42 i0 _ 1 8 Try.underlying33 hi0 hz0 hz1 hz2 rfl (by omega) (.slice (some ⟨g, 0, none⟩) 0 0) 0 (flatR []) hown ad ns.length c (flatR ns) (by rw [flatR_length]; omega) hnews (flatR_one ns)
      (by simp only [maxLen]; omega) (by omega) hV.size
    have ho : OwnR w' V.heap.size v' ns := by
      show w'.ownsRow V.heap.size 42 1 v' ns.length (flatR ns)
      simpa [flatR] using h2
    obtain ⟨A', c', rfl, _, _, _⟩ := ho.open2
    refine ⟨A', c', w', hr, ho, .inr ⟨g, #[], hVg, hgl, hg, ?_⟩, hV.trans ((Below.refl V.heap.size w).grown h3 hV.size (fun k hk => (hown.lt k hk).1))⟩
    exact h3
theorem run_app0P {V w : World} (ty : TypeId) (g : Nat) (A : Option Addr) (n c : Nat) (ns : List Pr) (hm : n = ns.length) (hR : Rd V V.heap.size A ns) (hA : A = none → c = 0) (hn : ns.length ≤ 1000)
    (hg : w.heap[g]? = some (.cells #[] 66 (0, 0))) (hV : Below V.heap.size V w) (hVg : V.heap.size ≤ g) :
    ∃ A' c' w', (Builtin.append_ #[41, 41] ty #[.slice (some ⟨g, 0, none⟩) 0 0, .slice A n c]).run Try.prog w = .ok (.slice A' ns.length c') w' ∧ Own w' V.heap.size (.slice A' ns.length c') ns ∧ Wiped 66 V.heap.size w.heap.size w w' ∧ Below V.heap.size V w' := by
  subst hm
  have hgl := (Array.getElem?_eq_some_iff.1 hg).1
  have hown : Own w V.heap.size (.slice (some ⟨g, 0, none⟩) 0 0) [] := ⟨rfl, .inr ⟨g, 0, #[], rfl, hVg, hg, Nat.le_refl _, by simp [maxLen], rfl, rfl⟩⟩
  obtain ⟨i0, hi0, hz0, hz1, hz2⟩ := info_parts pairInfo
  cases A with
  | none =>
    obtain rfl : c = 0 := hA rfl
    have hns : ns = [] := by
      rcases Nat.eq_zero_or_pos ns.length with h | h
      · exact List.eq_nil_of_length_eq_zero h
      · obtain ⟨ad, e, _⟩ := hR h
        cases e
    subst hns
    exact ⟨_, _, w, run_append_owned_none (P := Try.prog) (w := w) V.heap.size 41 ty 66 i0 2 Try.underlying41 hi0 (.slice (some ⟨g, 0, none⟩) 0 0) 0 (flat []) hown, hown, .inl (Below.refl _ _), hV⟩
  | some ad =>
    have hnews : ∀ j u, (flat ns)[j]? = some u → w.cell? (ad.add j) = some u := fun j u hj => by
      have hl : 0 < ns.length := by have := (List.getElem?_eq_some_iff.1 hj).1; rw [flat_length] at this; omega
      obtain ⟨ad', e, hb, hc⟩ := (hR.below hV) hl
      injection e with e
      subst e
      exact hc j u hj
    obtain ⟨v', w', hr, h2, h3, _, _⟩ := run_append_own_at (P := Try.prog) w V.heap.size 41 ty 66 i0 _ 2 24 Try.underlying41 hi0 hz0 hz1 hz2 rfl (by omega) (.slice (some ⟨g, 0, none⟩) 0 0) 0 (flat []) hown ad ns.length c (flat ns) (flat_length ns) hnews (flat_one ns)
      (by simp only [maxLen]; omega) (by omega) hV.size
    have ho : Own w' V.heap.size v' ns := by
      show w'.ownsRow V.heap.size 66 2 v' ns.length (flat ns)
      simpa [flat] using h2
    obtain ⟨A', c', rfl, _, _, _⟩ := ho.open2
    refine ⟨A', c', w', hr, ho, .inr ⟨g, #[], hVg, hgl, hg, ?_⟩, hV.trans ((Below.refl V.heap.size w).grown h3 hV.size (fun k hk => (hown.lt k hk).1))⟩
    exact h3
theorem step_app0R {V w : World} {ops : Array Oper} {o : Oper} {a : Act} {K : Act → World → Prop} {Q : Exit → Act → World → Prop} {E : Prop} (hgd : o.guard = none) (s x : Operand)
    (ho : o.op = .call { callee := .builtin .append, args := #[s, x], argTypes := #[33, 33] }) (g : Nat) (hs : a.eval s = .slice (some ⟨g, 0, none⟩) 0 0)
    (A : Option Addr) (n c : Nat) (ns : List Int) (hx : a.eval x = .slice A n c) (hm : n = ns.length) (hR : RdR V V.heap.size A ns) (hA : A = none → c = 0) (hn : ns.length ≤ 1000)
    (hg : w.heap[g]? = some (.cells #[] 42 (0, 0))) (hV : Below V.heap.size V w) (hVg : V.heap.size ≤ g)
    (h : ∀ A' c' w', Hid (OwnR w' V.heap.size (.slice A' ns.length c') ns) → Hid (Wiped 42 V.heap.size w.heap.size w w') → Hid (Below V.heap.size V w') → K (a.put o.dst (.slice A' ns.length c')) w') :
    if Region.wanted o (yielded ops a.tmps) = true then Oper.wp Try.prog o a w K Q else E := by
  have hw : Region.wanted o (yielded ops a.tmps) = true := by simp [Region.wanted, hgd]
  rw [if_pos hw]
  obtain ⟨A', c', w', hr, h2, h3, h4⟩ := run_app0R o.type g A n c ns hm hR hA hn hg hV hVg
  unfold Oper.wp execOp
  simp only [ho, resolve, invoke, builtin, Sem.run_bind, Sem.run_pure, Result.andThen_ok, List.map_toArray, List.map_cons, List.map_nil, hs, hx, hr]
  exact h A' c' w' h2 h3 h4
theorem step_app0P {V w : World} {ops : Array Oper} {o : Oper} {a : Act} {K : Act → World → Prop} {Q : Exit → Act → World → Prop} {E : Prop} (hgd : o.guard = none) (s x : Operand)
    (ho : o.op = .call { callee := .builtin .append, args := #[s, x], argTypes := #[41, 41] }) (g : Nat) (hs : a.eval s = .slice (some ⟨g, 0, none⟩) 0 0)
    (A : Option Addr) (n c : Nat) (ns : List Pr) (hx : a.eval x = .slice A n c) (hm : n = ns.length) (hR : Rd V V.heap.size A ns) (hA : A = none → c = 0) (hn : ns.length ≤ 1000)
    (hg : w.heap[g]? = some (.cells #[] 66 (0, 0))) (hV : Below V.heap.size V w) (hVg : V.heap.size ≤ g)
    (h : ∀ A' c' w', Hid (Own w' V.heap.size (.slice A' ns.length c') ns) → Hid (Wiped 66 V.heap.size w.heap.size w w') → Hid (Below V.heap.size V w') → K (a.put o.dst (.slice A' ns.length c')) w') :
    if Region.wanted o (yielded ops a.tmps) = true then Oper.wp Try.prog o a w K Q else E := by
  have hw : Region.wanted o (yielded ops a.tmps) = true := by simp [Region.wanted, hgd]
  rw [if_pos hw]
  obtain ⟨A', c', w', hr, h2, h3, h4⟩ := run_app0P o.type g A n c ns hm hR hA hn hg hV hVg
  unfold Oper.wp execOp
  simp only [ho, resolve, invoke, builtin, Sem.run_bind, Sem.run_pure, Result.andThen_ok, List.map_toArray, List.map_cons, List.map_nil, hs, hx, hr]
  exact h A' c' w' h2 h3 h4
theorem alloc_at {X : World} {g : Nat} {o : Obj} (h : g = X.heap.size) : (X.alloc o).heap[g]? = some o := by subst h; exact heap_alloc_new X o
theorem alloc_keep {X : World} {g : Nat} {o o' : Obj} (h : X.heap[g]? = some o') : (X.alloc o).heap[g]? = some o' := (Below.heap_alloc X o g (Array.getElem?_eq_some_iff.1 h).1).trans h
theorem Wiped.keep {t lo hi : Nat} {w w' : World} (h : Wiped t lo hi w w') {k : Nat} {cs : Array Value} {t' : TypeId} (hk : w.heap[k]? = some (.cells cs t' (0, 0))) (ht : t' ≠ t) : w'.heap[k]? = some (.cells cs t' (0, 0)) := (h.other hk ht).trans hk
theorem drew_keep {X : World} {g : Nat} {o : Obj} (h : X.heap[g]? = some o) : X.drew.heap[g]? = some o := h
theorem bdrew {V w : World} (h : Below V.heap.size V w) : Below V.heap.size V w.drew := below_drew h 1
theorem balloc {V w : World} (h : Below V.heap.size V w) (o : Obj) : Below V.heap.size V (w.alloc o) := h.alloc h.size o
theorem wA28 {lo hi : Nat} {w w' : World} (h : Wiped 42 lo hi w w') {k : Nat} {cs : Array Value} (hk : w.heap[k]? = some (.cells cs 44 (0, 0))) : w'.heap[k]? = some (.cells cs 44 (0, 0)) := Wiped.keep h hk (by decide)
theorem wB28 {lo hi : Nat} {w w' : World} (h : Wiped 66 lo hi w w') {k : Nat} {cs : Array Value} (hk : w.heap[k]? = some (.cells cs 44 (0, 0))) : w'.heap[k]? = some (.cells cs 44 (0, 0)) := Wiped.keep h hk (by decide)
theorem wA41 {lo hi : Nat} {w w' : World} (h : Wiped 42 lo hi w w') {k : Nat} {cs : Array Value} (hk : w.heap[k]? = some (.cells cs 66 (0, 0))) : w'.heap[k]? = some (.cells cs 66 (0, 0)) := Wiped.keep h hk (by decide)
theorem cutz {a b : Prop} (ha : a) (hb : a → b) : b := hb ha
theorem run_storeC {V : World} {b : Nat} {old cells : Array Value} {t : TypeId} (hg : V.heap[b]? = some (.cells old t (0, 0))) (ho : old.size = 14) (hc : cells.size = 14) (h1 : cells.all (·.oneCell') = true) :
    Sem.run Try.prog (storeNode (.pointer (some ⟨b, 0, none⟩)) (.agg cells)) V = .ok () (V.setRow b cells) := by
  have hi : (Try.prog.info? 44).map (·.size) = some cells.size := by rw [hc]; exact nodeSize
  simp only [storeNode, Instr.storeAt, Instr.sureAddr, Sem.run_bind, Sem.run_pure, Result.andThen]
  exact run_storeVar_row V b t 44 old cells hg hi (by rw [ho, hc]) h1
theorem setR_keep {V X : World} {b q : Nat} {cs : Array Value} {o : Obj} (hq : q < V.heap.size) (hb : V.heap.size ≤ b) (h : X.heap[q]? = some o) : (X.setRow b cs).heap[q]? = some o := (setRow_other _ _ _ _ (by omega)).trans h
theorem below_setR7 {B : Nat} {a w : World} (h : Below B a w) {b : Nat} (hb : B ≤ b) (cs : Array Value) : Below B a (w.setRow b cs) :=
  h.trans ⟨rfl, rfl, rfl, by simp, fun k hk => setRow_other _ _ _ _ (by omega)⟩
theorem OwnR.setR7 {w : World} {base b : Nat} {cs cs' : Array Value} {v : Value} {xs : List Int} (h : OwnR w base v xs) (hb : w.heap[b]? = some (.cells cs 44 (0, 0))) : OwnR (w.setRow b cs') base v xs := by
  refine ⟨h.1, ?_⟩
  rcases h.2 with hn | ⟨g, cap, cur, hv, hbg, hg, rest⟩
  · exact .inl hn
  · refine .inr ⟨g, cap, cur, hv, hbg, (setRow_other _ _ _ _ (fun e => ?_)).trans hg, rest⟩
    rw [e, hb] at hg
    injection hg with hg
    injection hg with _ hg _
    exact absurd hg (by decide)
theorem Own.setR7 {w : World} {base b : Nat} {cs cs' : Array Value} {v : Value} {xs : List Pr} (h : Own w base v xs) (hb : w.heap[b]? = some (.cells cs 44 (0, 0))) : Own (w.setRow b cs') base v xs := by
  refine ⟨h.1, ?_⟩
  rcases h.2 with hn | ⟨g, cap, cur, hv, hbg, hg, rest⟩
  · exact .inl hn
  · refine .inr ⟨g, cap, cur, hv, hbg, (setRow_other _ _ _ _ (fun e => ?_)).trans hg, rest⟩
    rw [e, hb] at hg
    injection hg with hg
    injection hg with _ hg _
    exact absurd hg (by decide)
theorem oB {lo hi : Nat} {w w' : World} {base : Nat} {v : Value} {xs : List Int} (hw : Wiped 66 lo hi w w') (h : OwnR w base v xs) : OwnR w' base v xs := by
  refine ⟨h.1, ?_⟩
  rcases h.2 with hn | ⟨g, cap, cur, hv, hbg, hg, rest⟩
  · exact .inl hn
  · exact .inr ⟨g, cap, cur, hv, hbg, Wiped.keep hw hg (by decide), rest⟩


theorem cells11 {w' : World} {q : Nat} {m : Nd} (h : w'.heap[q]? = some (.cells m.cs 44 (0, 0))) : w'.cell? ⟨q, 0, none⟩ = some (.int .i64 m.kind) ∧ w'.cell? ⟨q, 1, none⟩ = some (.int .i64 m.gen) ∧ w'.cell? ⟨q, 3, none⟩ = some (.int .u64 m.bm) ∧ w'.cell? ⟨q, 4, none⟩ = some (.slice m.bA m.bs.length m.bc) ∧ w'.cell? ⟨q, 5, none⟩ = some (.int .u64 m.hash) ∧ w'.cell? ⟨q, 6, none⟩ = some (.string m.key) ∧ w'.cell? ⟨q, 7, none⟩ = some (.int .u64 m.val) ∧ w'.cell? ⟨q, 8, none⟩ = some (.slice m.pA m.ps.length m.pc) ∧ w'.cell? ⟨q, 10, none⟩ = some (.int .i64 m.old) ∧ w'.cell? ⟨q, 11, none⟩ = some (.int .i64 m.exp) ∧ w'.cell? ⟨q, 12, none⟩ = some (.int .i64 m.new) :=
  ⟨node_cellA h rfl, node_cellA h rfl, node_cellA h rfl, node_cellA h rfl, node_cellA h rfl, node_cellA h rfl, node_cellA h rfl, node_cellA h rfl, node_cellA h rfl, node_cellA h rfl, node_cellA h rfl⟩
/-- What region 7 leaves: the node with lists of its own. -/
def CutM (V : World) (n : Nd) (s10 : Value) (wx : World) : Prop :=
  ∃ (b : Nat) (A : Option Addr) (c : Nat) (P : Option Addr) (d : Nat), s10 = .pointer (some ⟨b, 0, none⟩) ∧ Aside (V.heap.size ≤ b ∧ wx.heap[b]? = some (.cells (Nd.cs { n with main := 0, prev := 0, status := 0, bA := A, bc := c, pA := P, pc := d }) 44 (0, 0)) ∧ OwnR wx V.heap.size (.slice A n.bs.length c) n.bs ∧ Own wx V.heap.size (.slice P n.ps.length d) n.ps ∧ (∀ k, (Value.slice A n.bs.length c).ownBlock = some k → k ≠ b) ∧ (∀ k, (Value.slice P n.ps.length d).ownBlock = some k → k ≠ b) ∧ RowKit.Below V.heap.size V wx)
theorem cutM2 {V wb : World} {m : Nd} {b : Nat} {old : Array Value} {A1 : Option Addr} {c1 : Nat} {A2 : Option Addr} {c2 : Nat} (hz : wb.heap[b]? = some (.cells old 44 (0, 0))) (hA : OwnR wb V.heap.size (.slice A1 m.bs.length c1) m.bs) (hP : Own wb V.heap.size (.slice A2 m.ps.length c2) m.ps) (hB : Below V.heap.size V wb) (hb : V.heap.size ≤ b) :
    CutM V m (.pointer (some ⟨b, 0, none⟩)) (wb.setRow b #[.int .i64 m.kind, .int .i64 m.gen, .int .i64 0, .int .u64 m.bm, .slice A1 m.bs.length c1, .int .u64 m.hash, .string m.key, .int .u64 m.val, .slice A2 m.ps.length c2, .int .i64 0, .int .i64 m.old, .int .i64 m.exp, .int .i64 m.new, .int .i64 0]) := by
  have hA' := OwnR.setR7 (cs' := #[.int .i64 m.kind, .int .i64 m.gen, .int .i64 0, .int .u64 m.bm, .slice A1 m.bs.length c1, .int .u64 m.hash, .string m.key, .int .u64 m.val, .slice A2 m.ps.length c2, .int .i64 0, .int .i64 m.old, .int .i64 m.exp, .int .i64 m.new, .int .i64 0]) hA hz
  have hP' := Own.setR7 (cs' := #[.int .i64 m.kind, .int .i64 m.gen, .int .i64 0, .int .u64 m.bm, .slice A1 m.bs.length c1, .int .u64 m.hash, .string m.key, .int .u64 m.val, .slice A2 m.ps.length c2, .int .i64 0, .int .i64 m.old, .int .i64 m.exp, .int .i64 m.new, .int .i64 0]) hP hz
  refine ⟨b, A1, c1, A2, c2, rfl, (⟨hb, setRow_heap wb b _ _ 44 (0, 0) hz, hA', hP', fun k hk e => ?_, fun k hk e => ?_, below_setR7 hB hb _⟩ : _ ∧ _ ∧ _ ∧ _ ∧ _ ∧ _ ∧ _)⟩
  · obtain ⟨_, _, cs, hc⟩ := hA.lt_ hk
    rw [e, hz] at hc
    injection hc with hc
    injection hc with _ hc _
    exact absurd hc (by decide)
  · rcases hP.2 with ⟨hv, _⟩ | ⟨g, cap, cur, hv, hbg, hg, _⟩
    · rw [hv] at hk; cases hk
    · rw [hv] at hk; injection hk with hk; subst hk
      rw [show g = b from e, hz] at hg
      injection hg with hg
      injection hg with _ hg _
      exact absurd hg (by decide)
theorem cutM1 {V X : World} {m : Nd} {A1 : Option Addr} {c1 : Nat} {A2 : Option Addr} {c2 : Nat} (hA : OwnR X V.heap.size (.slice A1 m.bs.length c1) m.bs) (hP : Own X V.heap.size (.slice A2 m.ps.length c2) m.ps) (hB : Below V.heap.size V X) :
    CutM V m (.pointer (some ⟨X.heap.size, 0, none⟩)) ((X.alloc (.cells #[.int .i64 0, .int .i64 0, .int .i64 0, .int .u64 0, .slice none 0 0, .int .u64 0, .string ⟨#[]⟩, .int .u64 0, .slice none 0 0, .int .i64 0, .int .i64 0, .int .i64 0, .int .i64 0, .int .i64 0] 44)).setRow X.heap.size #[.int .i64 m.kind, .int .i64 m.gen, .int .i64 0, .int .u64 m.bm, .slice A1 m.bs.length c1, .int .u64 m.hash, .string m.key, .int .u64 m.val, .slice A2 m.ps.length c2, .int .i64 0, .int .i64 m.old, .int .i64 m.exp, .int .i64 m.new, .int .i64 0]) :=
  cutM2 (heap_alloc_new X _) (OwnR.alloc hA _) (Own.alloc hP _) (hB.alloc hB.size _) hB.size
end
end

section
open Go.Shelf Go.RowKit Go.Lib Go.Sort

theorem SameL.trans {xs ys zs : List Nd} (h : SameL xs ys) (k : SameL ys zs) : SameL xs zs := by
  refine ⟨h.1.trans k.1, fun i a c ha hc => ?_⟩
  have hi : i < ys.length := by rw [← h.1]; exact (List.getElem?_eq_some_iff.1 ha).1
  have hb := List.getElem?_eq_getElem hi
  exact (h.2 i a _ ha hb).trans (k.2 i _ c hb hc)
section
variable {w w' : World} {qa qm : Nat} {s t : Sd} {x y : Int}
theorem Two.fr (h : Two w qa qm s t x y) {M : Nat → Prop} (hf : Fr M w w') (h1 : ∀ k, Mu qa s k → ¬ M k) (h2 : ∀ k, Mu qm t k → ¬ M k) (l1 : ∀ n ∈ s.ns, Av M n.bA ∧ Av M n.pA) (l2 : ∀ n ∈ t.ns, Av M n.bA ∧ Av M n.pA) : Two w' qa qm s t x y :=
  ⟨h.a.fr hf h1 l1, h.m.fr hf h2 l2, h.d, h.la, h.lm, h.ns, h.cs, h.gen⟩
/-- The reference's accesses are counted anew. -/
theorem Two.reset (h : Two w qa qm s t x y) (v : Int) : Two (w.setCell ⟨qm, 3, none⟩ (.int .i64 v)) qa qm s t x v := by
  have hf : Fr (fun k => k = qm) w (w.setCell ⟨qm, 3, none⟩ (.int .i64 v)) := fr_set w qm 3 _
  refine ⟨h.a.fr hf (fun k hk e => h.d k hk (e ▸ Or.inl rfl)) (fun n hn => ⟨fun ad e hk => (h.la n hn).1 ad e (Or.inl hk), fun ad e hk => (h.la n hn).2 ad e (Or.inl hk)⟩), h.m.setAcc (by decide) (by decide) v, h.d, h.la, h.lm, h.ns, h.cs, h.gen⟩
end
/-- What Copy leaves: its lists are new. -/
def CpF (s : Sd) (w : World) (e : Ending) (w' : World) : Prop :=
  ∃ (q : Nat) (t : Sd), e = .returned (.pointer (some ⟨q, 0, none⟩)) ∧ SameL s.ns t.ns ∧ t.cs = s.cs ∧ t.gen = s.gen ∧ Ob w' w.heap.size 77 q t 0 ∧ (∀ n ∈ t.ns, FRs w.heap.size n) ∧ RowKit.Below w.heap.size w w'
set_option maxHeartbeats 4000000 in
theorem copy_f (base q : Nat) (s : Sd) (acc : Int) (w : World) (h : Ob w base 77 q s acc) : Calls Try.prog 12 #[.pointer (some ⟨q, 0, none⟩)] w (CpF s w) := by
  have C := Lib.hid (copied_any s w.heap.size w h.srd (Nat.le_refl _))
  unfold Sd.vals at C
  have q0 := block_cell h.blk (i := 0) (v := .slice s.nA s.ns.length s.nc) rfl
  have q1 := block_cell h.blk (i := 1) (v := .slice s.cA s.cs.length s.cc) rfl
  have q2 := block_cell h.blk (i := 2) (v := .int .i64 s.gen) rfl
  clear h
  go_enter Try.func12, Try.ntmps12
  go_wp2_with (go_at_call 34; refine C.out.mono ?_; rintro e V2 ⟨t, rfl, hs, hc, hgn, hcp, hb⟩; have K2 := Lib.hid (⟨hs, hc, hgn, hcp, hb⟩ : _ ∧ _ ∧ _ ∧ _ ∧ _); unfold Sd.vals; clear hs hc hgn hcp hb)
  go_ret
  exact ⟨V2.heap.size, t, rfl, K2.out.1, K2.out.2.1, K2.out.2.2.1, (K2.out.2.2.2.1).ob K2.out.2.2.2.2.size 0, fun n hn => ⟨fun ad e => (K2.out.2.2.2.1.l n hn).2.1 ad e, fun ad e => (K2.out.2.2.2.1.l n hn).2.2 ad e⟩, K2.out.2.2.2.2.alloc K2.out.2.2.2.2.size _⟩
/-- Behind a copy and the new count: the old arena with the reference's, the new one with it, and what leaves all but the old one's blocks leaves the new pair. -/
theorem kind7 {w1 w2 : World} {qa qm q' : Nat} {s t s' : Sd} {x y : Int} (T : Two w1 qa qm s t x y) (hb : RowKit.Below w1.heap.size w1 w2) (hn : Ob w2 w1.heap.size 77 q' s' 0) (hf : ∀ n ∈ s'.ns, FRs w1.heap.size n) (hl : SameL s.ns s'.ns) (hc : s'.cs = s.cs) (hg : s'.gen = s.gen) :
    Two (w2.setCell ⟨qm, 3, none⟩ (.int .i64 0)) qa qm s t x 0 ∧ (∀ k, Mu q' s' k → w1.heap.size ≤ k) ∧
      ∀ w7, Fr (Mu qa s) (w2.setCell ⟨qm, 3, none⟩ (.int .i64 0)) w7 → Two w7 q' qm s' t 0 0 := by
  have TO : Two w2 qa qm s t x y := T.below hb
  have TN : Two w2 q' qm s' t 0 y := two_of T.m hb hn hf (T.ns.trans hl) (by rw [hc, T.cs]) (by rw [hg, T.gen])
  refine ⟨TO.reset 0, fun k hk => (hn.mu_lt hk).1, fun w7 h7 => (TN.reset 0).fr h7 (fun k hk hm => ?_) (fun k hk hm => T.d k hm hk) (fun n hnn => ⟨fun ad e hm => ?_, fun ad e hm => ?_⟩) T.lm⟩
  · have := (hn.mu_lt hk).1; have := (T.a.mu_lt hm).2; omega
  · have := (hf n hnn).1 ad e; have := (T.a.mu_lt hm).2; omega
  · have := (hf n hnn).2 ad e; have := (T.a.mu_lt hm).2; omega
def sK : Nd := { Nd.zero with kind := 4 }
theorem sK_lit : sK.cs = #[.int .i64 4, .int .i64 0, .int .i64 0, .int .u64 0, .slice none 0 0, .int .u64 0, .string ⟨#[]⟩, .int .u64 0, .slice none 0 0, .int .i64 0, .int .i64 0, .int .i64 0, .int .i64 0, .int .i64 0] := rfl
theorem nrd_sK (w : World) : NRd w w.heap.size sK := ⟨RdR.nil, Rd.nil, u64_zero, Nat.zero_le _, Nat.zero_le _⟩
theorem mu_gen {q : Nat} {s : Sd} {g : Int} {k : Nat} (h : Mu q (s.withGen g) k) : Mu q s k := h
theorem mu_cas {q : Nat} {s : Sd} {c old new : Int} {k : Nat} (h : Mu q (casS s c old new) k) : Mu q s k := by
  unfold casS at h
  split at h <;> exact h
end

end Go.Proofs.Ytcmnmimkjkpimaa
