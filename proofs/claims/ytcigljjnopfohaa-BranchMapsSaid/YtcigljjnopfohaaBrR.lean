/-
  Layer 6: a node stored over another one.
-/
import Derived.Test.YtcigljjnopfohaaBrQ
set_option linter.unusedVariables false
set_option maxRecDepth 100000
namespace Go.Proofs.Ytcigljjnopfohaa
open Go.Shelf Go.RowKit Go.Lib Go.Sort

theorem NB.store {V0 V : World} {b s : Nat} {n : Nd} (h : NB V0 b n) (hb : Below V0.heap.size V0 V) (hs : V0.heap.size ≤ s) (cs : Array Value) : NB (V.setRow s cs) b n := by
  have hl := (Array.getElem?_eq_some_iff.1 h.1).1
  have hk : ∀ p : Addr, p.block < V0.heap.size → (V.setRow s cs).cell? p = V.cell? p := fun p hp => World.cell?_of_block (setRow_other _ _ _ _ (by omega))
  have hR := h.2.rd.below hb
  have hsz : V0.heap.size ≤ (V.setRow s cs).heap.size := by simpa using hb.size
  exact ⟨(setRow_other _ _ _ _ (by omega)).trans (heap_up h.1 hb), ⟨⟨(hR.r.keep hk).more hsz, (hR.p.keep hk).more hsz, hR.bm, hR.bl, hR.pl⟩, h.2.ba, h.2.pa, h.2.bc, h.2.pc⟩⟩
theorem nb_store {V u : World} {s : Nat} {a m : Nd} (h : NB V s a) (hb : Below V.heap.size V u) (gm : GN u m) (fm : m.pA = none ∧ ∀ ad, m.bA = some ad → V.heap.size ≤ ad.block) :
    NB (u.setRow s m.cs) s m ∧ Sem.run Try.prog (storeNode (.pointer (some ⟨s, 0, none⟩)) (.agg m.cs)) u = .ok () (u.setRow s m.cs) := by
  have hl := (Array.getElem?_eq_some_iff.1 h.1).1
  have hz := heap_up h.1 hb
  exact ⟨⟨setRow_heap u s _ _ 28 (0, 0) hz, gm.setRow (fun ad e => by have := fm.2 ad e; omega) (fun ad e => by rw [fm.1] at e; cases e) _⟩, run_storeNode m hz rfl⟩
end Go.Proofs.Ytcigljjnopfohaa
