/-
  Layer 7: small facts of the laws.
-/
import Derived.Test.YtpopoihggomfiaaTbP
import Derived.Test.YtpopoihggomfiaaFrame
set_option linter.unusedVariables false
set_option maxRecDepth 100000
namespace Go.Proofs.Ytpopoihggomfiaa
open Go.Shelf Go.RowKit Go.Lib Go.Sort
attribute [local go_sem ↓] exec_load28 exec_storeN
attribute [local go_sem] run_storeNode_new

def smallB (n : Nd) : Bool := decide (n.bs.length < 100) && decide (n.ps.length < 40)
set_option maxHeartbeats 2000000 in
theorem small_any (n : Nd) (w : World) : Calls Try.prog 10 #[.agg n.cs] w fun e w' => e = .returned (.bool (smallB n)) ∧ Gr w w' := by
  obtain ⟨W, hW⟩ : ∃ W, W = w.alloc (.cells n.cs 28) := ⟨_, rfl⟩
  have GW := Lib.hid (show Gr w W by rw [hW]; exact (Gr.refl w).alloc _)
  have hg : W.heap[w.heap.size]? = some (.cells n.cs 28 (0, 0)) := by rw [hW]; exact heap_alloc_new w _
  have c4 := node_cellA hg (i := 4) (v := .slice n.bA n.bs.length n.bc) rfl
  have c8 := node_cellA hg (i := 8) (v := .slice n.pA n.ps.length n.pc) rfl
  have HW := Lib.hid hW.symm
  have E := Lib.hid (show smallB n = (decide (n.bs.length < 100) && decide (n.ps.length < 40)) from rfl)
  clear hg hW
  by_cases h1 : n.bs.length < 100
  · by_cases h2 : n.ps.length < 40
    · have h1' : (n.bs.length : Int) < 100 := by omega
      have h2' : (n.ps.length : Int) < 40 := by omega
      go_enter Try.func10, Try.ntmps10
      go_upto_region 1 with (fail)
      rw [HW.out]
      go_wp2
      go_ret
      exact ⟨ret_bool (by rw [E.out]; simp [h1, h2]), GW.out⟩
    · have h1' : (n.bs.length : Int) < 100 := by omega
      have h2' : ¬ (n.ps.length : Int) < 40 := by omega
      go_enter Try.func10, Try.ntmps10
      go_upto_region 1 with (fail)
      rw [HW.out]
      go_wp2
      go_ret
      exact ⟨ret_bool (by rw [E.out]; simp [h1, h2]), GW.out⟩
  · have h1' : ¬ (n.bs.length : Int) < 100 := by omega
    go_enter Try.func10, Try.ntmps10
    go_upto_region 1 with (fail)
    rw [HW.out]
    go_wp2
    go_ret
    exact ⟨ret_bool (by rw [E.out]; simp [h1]), GW.out⟩
theorem gn_tape {u1 u2 : World} {n : Nd} {lo t : Nat} (h : GN u1 n) (hf : FRs lo n) (ht : t < lo) (hg : u1.grownBy u2 (some t)) : GN u2 n :=
  ⟨⟨fun hn => by
      obtain ⟨ad, e, hb, hc⟩ := h.rd.r hn
      exact ⟨ad, e, Nat.lt_of_lt_of_le hb hg.size, fun j u hu => (World.cell?_of_block (hg.block _ (by rw [block_add]; exact hb) (fun e' => by injection e' with e'; rw [block_add] at e'; have := hf.1 ad e; omega))).trans (hc j u hu)⟩,
    fun hn => by
      obtain ⟨ad, e, hb, hc⟩ := h.rd.p hn
      exact ⟨ad, e, Nat.lt_of_lt_of_le hb hg.size, fun j u hu => (World.cell?_of_block (hg.block _ (by rw [block_add]; exact hb) (fun e' => by injection e' with e'; rw [block_add] at e'; have := hf.2 ad e; omega))).trans (hc j u hu)⟩, h.rd.bm, h.rd.bl, h.rd.pl⟩, h.ba, h.pa, h.bc, h.pc⟩
theorem gn_good {w : World} {n : Nd} (h : GoodN w n) : GN w n := ⟨h.rd, h.ba, h.pa, h.bc, h.pc⟩
/-- A node that came in, if it is small. -/
theorem gn_in {w V : World} {n : Nd} (h : IsNode w n) (hb : Below w.heap.size w V) (hs : smallB n = true) : GN V n := by
  unfold smallB at hs
  rw [Bool.and_eq_true, decide_eq_true_iff, decide_eq_true_iff] at hs
  exact ⟨⟨(h.r.below hb).more hb.size, (h.p.below hb).more hb.size, h.bm, by omega, by omega⟩, h.ba, h.pa, h.bc, h.pc⟩
/-- Two nodes stored into two new blocks. -/
theorem two_new {w : World} {x y : Nd} (hx : GN w x) (hy : GN w y) (z : Array Value) (hz : z.size = 14) :
    Sem.run Try.prog (storeNode (.pointer (some ⟨w.heap.size, 0, none⟩)) (.agg x.cs)) ((w.alloc (.cells z 28)).alloc (.cells z 28)) = .ok () (((w.alloc (.cells z 28)).alloc (.cells z 28)).setRow w.heap.size x.cs) ∧
    Sem.run Try.prog (storeNode (.pointer (some ⟨w.heap.size + 1, 0, none⟩)) (.agg y.cs)) (((w.alloc (.cells z 28)).alloc (.cells z 28)).setRow w.heap.size x.cs) = .ok () ((((w.alloc (.cells z 28)).alloc (.cells z 28)).setRow w.heap.size x.cs).setRow (w.heap.size + 1) y.cs) ∧
    NB ((((w.alloc (.cells z 28)).alloc (.cells z 28)).setRow w.heap.size x.cs).setRow (w.heap.size + 1) y.cs) w.heap.size x ∧ NB ((((w.alloc (.cells z 28)).alloc (.cells z 28)).setRow w.heap.size x.cs).setRow (w.heap.size + 1) y.cs) (w.heap.size + 1) y ∧
    Below w.heap.size w ((((w.alloc (.cells z 28)).alloc (.cells z 28)).setRow w.heap.size x.cs).setRow (w.heap.size + 1) y.cs) := by
  have e0 : ((w.alloc (.cells z 28)).alloc (.cells z 28)).heap[w.heap.size]? = some (.cells z 28 (0, 0)) := (Below.heap_alloc _ _ _ (by simp)).trans (heap_alloc_new w _)
  have e1 : ((w.alloc (.cells z 28)).alloc (.cells z 28)).heap[w.heap.size + 1]? = some (.cells z 28 (0, 0)) := by have := heap_alloc_new (w.alloc (.cells z 28)) (.cells z 28); simpa using this
  obtain ⟨A, hA⟩ : ∃ A, A = (w.alloc (.cells z 28)).alloc (.cells z 28) := ⟨_, rfl⟩
  have bA : Below w.heap.size w A := by rw [hA]; exact (alloc_below w _).alloc (by simp) _
  rw [← hA] at e0 e1 ⊢
  have s0 := run_storeNode x e0 hz
  have f0 : (A.setRow w.heap.size x.cs).heap[w.heap.size]? = some (.cells x.cs 28 (0, 0)) := setRow_heap A _ _ _ 28 (0, 0) e0
  have f1 : (A.setRow w.heap.size x.cs).heap[w.heap.size + 1]? = some (.cells z 28 (0, 0)) := (setRow_other _ _ _ _ (by omega)).trans e1
  have s1 := run_storeNode y f1 hz
  have g1 : ((A.setRow w.heap.size x.cs).setRow (w.heap.size + 1) y.cs).heap[w.heap.size + 1]? = some (.cells y.cs 28 (0, 0)) := setRow_heap _ _ _ _ 28 (0, 0) f1
  have g0 : ((A.setRow w.heap.size x.cs).setRow (w.heap.size + 1) y.cs).heap[w.heap.size]? = some (.cells x.cs 28 (0, 0)) := (setRow_other _ _ _ _ (by omega)).trans f0
  have bb : Below w.heap.size w ((A.setRow w.heap.size x.cs).setRow (w.heap.size + 1) y.cs) := below_setRow (below_setRow bA (Nat.le_refl _) _) (Nat.le_succ _) _
  exact ⟨s0, s1, ⟨g0, hx.up bb⟩, ⟨g1, hy.up bb⟩, bb⟩
theorem ints_up {w V : World} {a : Option Addr} {len : Nat} (h : IsInts w a len) (hb : Below w.heap.size w V) : ∀ j, j < len → ∃ ad z, a = some ad ∧ V.cell? (ad.add j) = some (.int .i64 z) := fun j hj => by
  obtain ⟨ad, z, e, hc⟩ := h.2 j hj
  exact ⟨ad, z, e, (hb.cell (p := ad.add j) (block_of_cell' hc)).trans hc⟩
end Go.Proofs.Ytpopoihggomfiaa
