/-
  One node more; the walk of the reference's Alloc.
-/
import Derived.Test.YtbknbjabkhhlfaaArI
import Derived.Deep.RegionHeld3
set_option linter.unusedVariables false
set_option maxRecDepth 100000
namespace Go.Proofs.Ytbknbjabkhhlfaa
open Go.Shelf Go.RowKit Go.Lib Go.Sort

theorem exec_build1 (ρ : Operand → Value) (dst : Option Tmp) (x0 : Operand) (ty : TypeId) (pos : String) (after : Array Edge) (guard : Option (Nat × Bool)) :
    execOp ρ { dst, op := .buildSlice 36 1 #[(0, x0)], type := ty, pos, after, guard } = (do pure (.value (← buildVals [ρ x0]))) := by
  have e : ((#[(0, x0)] : Array (Nat × Operand)).map fun (i, x) => (i, ρ x)) = (([ρ x0].zipIdx.map fun x => (x.2, x.1)).toArray) := by simp [List.zipIdx]
  unfold execOp buildVals
  dsimp only
  rw [e]
  rfl
theorem run_build1 (n : Nd) (w : World) : Sem.run Try.prog (buildVals [.agg n.cs]) w = .ok (.slice (some ⟨w.heap.size, 0, none⟩) 1 1) (w.alloc (.cells (rowOf [n.cs]) 35)) := run_buildNodes [n.cs] (by simp [cs_size14]) (by simp) (by simp) w
theorem rowOf_one (n : Nd) (j : Nat) (u : Value) (h : (flatN [n])[j]? = some u) : (rowOf [n.cs])[j]? = some u := by
  have hj : j < 14 := by
    have := (List.getElem?_eq_some_iff.1 h).1
    rw [flatN_length] at this
    simpa using this
  have h2 : n.cs[j]? = some u := by
    have := flatN_get [n] 0 n j rfl hj
    rw [← this]
    simpa using h
  have := rowOf_get (css := [n.cs]) (i := 0) (j := j) rfl hj h2
  simpa using this

def Sd.addN (s : Sd) (g cap : Nat) (n : Nd) : Sd := { s with nA := some ⟨g, 0, none⟩, nc := cap, ns := s.ns ++ [n] }
section
variable {w w1 : World} {base : Nat} {T : TypeId} {q : Nat} {s : Sd} {acc : Int}
theorem Ob.addN (h : Ob w base T q s acc) (h42 : T ≠ 29) (h44 : T ≠ 35) (hl : s.ns.length < 1000) {g cap : Nat} {n : Nd} (hn : NOk w (Mu q s) n) (o : Obj)
    (hown : w1.ownsRow base 35 14 (.slice (some ⟨g, 0, none⟩) (s.ns.length + 1) cap) (s.ns.length + 1) (flatN s.ns ++ flatN [n]))
    (hg : (w.alloc o).grownBy w1 (Value.slice s.nA s.ns.length s.nc).ownBlock) (hat : (Value.slice s.nA s.ns.length s.nc).ownBlock = some g ∨ g = w.heap.size + 1) :
    Ob (w1.setCell ⟨q, 0, none⟩ (.slice (some ⟨g, 0, none⟩) (s.ns.length + 1) cap)) base T q (s.addN g cap n) acc ∧ Fr (Mu q s) w (w1.setCell ⟨q, 0, none⟩ (.slice (some ⟨g, 0, none⟩) (s.ns.length + 1) cap)) ∧ (∀ k, Mu q (s.addN g cap n) k → Mu q s k ∨ w.heap.size ≤ k) := by
  have hqlt := h.lt
  have hkeep : ∀ k, k < w.heap.size → (Value.slice s.nA s.ns.length s.nc).ownBlock ≠ some k → k ≠ q → (w1.setCell ⟨q, 0, none⟩ (.slice (some ⟨g, 0, none⟩) (s.ns.length + 1) cap)).heap[k]? = w.heap[k]? := fun k hk h1 h2 =>
    ((Below.heap_setCell w1 ⟨q, 0, none⟩ _ k h2).trans (hg.block k (by simp; omega) (fun e => h1 e.symm))).trans (Below.heap_alloc w o k hk)
  have hgq : g ≠ q := by
    rcases hat with hat | hat
    · exact h.nod_ne h44 hat
    · omega
  have hq1 : w1.heap[q]? = w.heap[q]? := (hg.block q (by simp; omega) (fun e => h.nod_ne h44 e.symm rfl)).trans (Below.heap_alloc w o q hqlt)
  have hMu : ∀ k, Mu q (s.addN g cap n) k → Mu q s k ∨ w.heap.size ≤ k := fun k hk => by
    rcases hk with hk | ⟨ad, e, hk⟩ | hk
    · exact .inl (.inl hk)
    · have e' : some (⟨g, 0, none⟩ : Addr) = some ad := e
      injection e' with e'
      subst e'
      have hk' : g = k := hk
      subst hk'
      rcases hat with hat | hat
      · exact .inl (.inr (.inl (own_some hat)))
      · exact .inr (by omega)
    · exact .inl (.inr (.inr hk))
  have hfr : Fr (Mu q s) w (w1.setCell ⟨q, 0, none⟩ (.slice (some ⟨g, 0, none⟩) (s.ns.length + 1) cap)) :=
    ⟨hg.os, hg.tape, hg.output, by have := hg.size; simp at this ⊢; omega, fun k hk hn => hkeep k hk (fun e => hn (.inr (.inl (own_some e)))) (fun e => hn (.inl e))⟩
  have hlen : (s.ns ++ [n]).length = s.ns.length + 1 := by simp
  refine ⟨⟨?_, h.hq, ?_, ?_, fun x hx => ?_, by show (s.ns ++ [n]).length ≤ 1000; omega, h.cl⟩, hfr, hMu⟩
  · show _ = some (Obj.cells #[.slice (some ⟨g, 0, none⟩) (s.ns ++ [n]).length cap, .slice s.cA s.cs.length s.cc, .int .i64 s.gen, .int .i64 acc] T (0, 0))
    rw [hlen]
    exact set_block (t := T) (hq1.trans h.blk) 0 _
  · show (w1.setCell _ _).ownsRow base 35 14 (.slice (some ⟨g, 0, none⟩) (s.ns ++ [n]).length cap) (s.ns ++ [n]).length (flatN (s.ns ++ [n]))
    rw [hlen, flatN_append]
    have ho : OwnN w1 base (.slice (some ⟨g, 0, none⟩) (s.ns.length + 1) cap) (s.ns ++ [n]) := by
      show w1.ownsRow base 35 14 _ (s.ns ++ [n]).length (flatN (s.ns ++ [n]))
      rw [hlen, flatN_append]
      exact hown
    have := ho.keepFrom (w' := w1.setCell ⟨q, 0, none⟩ (.slice (some ⟨g, 0, none⟩) (s.ns.length + 1) cap)) fun k hk _ => Below.heap_setCell w1 ⟨q, 0, none⟩ _ k (fun e => by
      injection hk with hk
      exact hgq (hk.trans e))
    have h2 : (w1.setCell ⟨q, 0, none⟩ (.slice (some ⟨g, 0, none⟩) (s.ns.length + 1) cap)).ownsRow base 35 14 _ (s.ns ++ [n]).length (flatN (s.ns ++ [n])) := this
    rw [hlen, flatN_append] at h2
    exact h2
  · exact h.cel.keepAt fun k hk hk2 => hkeep k hk2 (fun e => h.rows_ne e hk rfl) (h.cel_ne h42 hk)
  · rcases List.mem_append.1 hx with hx | hx
    · exact (h.l x hx).fr hfr hMu
    · have := List.mem_singleton.1 hx
      subst this
      exact hn.fr hfr hMu
end

/-- The node that Alloc lays: its own cell is c, it has no other. -/
def alN (n : Nd) (c : Int) : Nd := { n with main := if n.kind = 2 then c else 0, prev := if n.kind = 3 ∨ n.kind = 5 ∨ n.kind = 6 then c else 0, status := if n.kind = 8 then c else 0 }
def hasO (n : Nd) : Bool := n.kind == 2 || (n.kind == 3 || (n.kind == 5 || (n.kind == 6 || n.kind == 8)))
/-- From s to t Alloc has laid n. -/
structure Alloced (lo : Nat) (s t : Sd) (n : Nd) (v : Int) : Prop where
  ns : ∃ y, t.ns = s.ns ++ [y] ∧ sameN (alN n ((s.cs.length : Int) + 1)) y ∧ FRs lo y
  cs : t.cs = if hasO n then s.cs ++ [v] else s.cs
  gen : t.gen = s.gen
def AllocP (T : TypeId) (base q : Nat) (s : Sd) (acc : Int) (n : Nd) (v : Int) (w : World) (e : Ending) (w' : World) : Prop :=
  ∃ t : Sd, e = .returned (.int .i64 ((s.ns.length : Int) + 1)) ∧ Alloced w.heap.size s t n v ∧ Ob w' base T q t acc ∧ Fr (Mu q s) w w' ∧ (∀ k, Mu q t k → Mu q s k ∨ w.heap.size ≤ k)

end Go.Proofs.Ytbknbjabkhhlfaa
