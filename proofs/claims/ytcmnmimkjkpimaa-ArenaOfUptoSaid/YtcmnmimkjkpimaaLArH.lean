/-
  The walks of both NewCells.
-/
import Derived.Test.YtcmnmimkjkpimaaLArF
import Derived.Deep.AppendLies
set_option linter.unusedVariables false
set_option maxRecDepth 100000
namespace Go.Proofs.Ytcmnmimkjkpimaa
open Go.Shelf Go.RowKit Go.Lib Go.Sort
attribute [local go_sem ↓] exec_load28 exec_store44
attribute [local go_sem] run_storeNode_new

section
variable {w w1 : World} {base : Nat} {T : TypeId} {q : Nat} {s : Sd} {acc : Int}
theorem Ob.cel_ne (h : Ob w base T q s acc) (hT : T ≠ 42) {k : Nat} (hk : (Value.slice s.cA s.cs.length s.cc).ownBlock = some k) : k ≠ q := fun e => by
  obtain ⟨_, _, cs, hcs⟩ := h.cel.lt_ hk
  rw [e, h.blk] at hcs
  injection hcs with hcs
  injection hcs with _ hcs _
  exact hT hcs
theorem Ob.nod_ne (h : Ob w base T q s acc) (hT : T ≠ 44) {k : Nat} (hk : (Value.slice s.nA s.ns.length s.nc).ownBlock = some k) : k ≠ q := fun e => by
  obtain ⟨_, _, cs, hcs⟩ := h.nod.lt_ hk
  rw [e, h.blk] at hcs
  injection hcs with hcs
  injection hcs with _ hcs _
  exact hT hcs
theorem Ob.rows_ne (h : Ob w base T q s acc) {k k' : Nat} (hk : (Value.slice s.nA s.ns.length s.nc).ownBlock = some k) (hk' : (Value.slice s.cA s.cs.length s.cc).ownBlock = some k') : k ≠ k' := fun e => by
  obtain ⟨_, _, cs, hcs⟩ := h.nod.lt_ hk
  obtain ⟨_, _, cs', hcs'⟩ := h.cel.lt_ hk'
  rw [e, hcs'] at hcs
  injection hcs with hcs
  injection hcs with _ hcs _
  exact absurd hcs (by decide)
theorem own_some {A : Option Addr} {n c k : Nat} (h : (Value.slice A n c).ownBlock = some k) : ∃ ad, A = some ad ∧ ad.block = k := by
  cases A with
  | none => cases h
  | some ad => injection h with h; exact ⟨ad, rfl, h⟩
theorem own_of {A : Option Addr} {n c k : Nat} (h : ∃ ad, A = some ad ∧ ad.block = k) : (Value.slice A n c).ownBlock = some k := by
  obtain ⟨ad, rfl, rfl⟩ := h
  rfl
/-- The state with one cell more. -/
def Sd.addC (s : Sd) (g cap : Nat) (v : Int) : Sd := { s with cA := some ⟨g, 0, none⟩, cc := cap, cs := s.cs ++ [v] }
theorem Ob.newCell (h : Ob w base T q s acc) (h42 : T ≠ 42) (h44 : T ≠ 44) (hl : s.cs.length < 1100000) {g cap : Nat} {v : Int} (o : Obj)
    (hown : w1.ownsRow base 42 1 (.slice (some ⟨g, 0, none⟩) (s.cs.length + 1) cap) (s.cs.length + 1) (flatR s.cs ++ [.int .i64 v]))
    (hg : (w.alloc o).grownBy w1 (Value.slice s.cA s.cs.length s.cc).ownBlock) (hat : (Value.slice s.cA s.cs.length s.cc).ownBlock = some g ∨ g = w.heap.size + 1) :
    Ob (w1.setCell ⟨q, 1, none⟩ (.slice (some ⟨g, 0, none⟩) (s.cs.length + 1) cap)) base T q (s.addC g cap v) acc ∧ Fr (Mu q s) w (w1.setCell ⟨q, 1, none⟩ (.slice (some ⟨g, 0, none⟩) (s.cs.length + 1) cap)) ∧ (∀ k, Mu q (s.addC g cap v) k → Mu q s k ∨ w.heap.size ≤ k) := by
  have hqlt := h.lt
  have hkeep : ∀ k, k < w.heap.size → (Value.slice s.cA s.cs.length s.cc).ownBlock ≠ some k → k ≠ q → (w1.setCell ⟨q, 1, none⟩ (.slice (some ⟨g, 0, none⟩) (s.cs.length + 1) cap)).heap[k]? = w.heap[k]? := fun k hk h1 h2 =>
    ((Below.heap_setCell w1 ⟨q, 1, none⟩ _ k h2).trans (hg.block k (by simp; omega) (fun e => h1 e.symm))).trans (Below.heap_alloc w o k hk)
  have hgq : g ≠ q := by
    rcases hat with hat | hat
    · exact h.cel_ne h42 hat
    · omega
  have hq1 : w1.heap[q]? = w.heap[q]? := (hg.block q (by simp; omega) (fun e => h.cel_ne h42 e.symm rfl)).trans (Below.heap_alloc w o q hqlt)
  have hMu : ∀ k, Mu q (s.addC g cap v) k → Mu q s k ∨ w.heap.size ≤ k := fun k hk => by
    rcases hk with hk | hk | ⟨ad, e, hk⟩
    · exact .inl (.inl hk)
    · exact .inl (.inr (.inl hk))
    · have e' : some (⟨g, 0, none⟩ : Addr) = some ad := e
      injection e' with e'
      subst e'
      have hk' : g = k := hk
      subst hk'
      rcases hat with hat | hat
      · exact .inl (.inr (.inr (own_some hat)))
      · exact .inr (by omega)
  have hfr : Fr (Mu q s) w (w1.setCell ⟨q, 1, none⟩ (.slice (some ⟨g, 0, none⟩) (s.cs.length + 1) cap)) :=
    ⟨hg.os, hg.tape, hg.output, by have := hg.size; simp at this ⊢; omega, fun k hk hn => hkeep k hk (fun e => hn (.inr (.inr (own_some e)))) (fun e => hn (.inl e))⟩
  have hlen : (s.cs ++ [v]).length = s.cs.length + 1 := by simp
  refine ⟨⟨?_, h.hq, ?_, ?_, fun n hn => (h.l n hn).fr hfr hMu, h.nl, by show (s.cs ++ [v]).length ≤ 1100000; omega⟩, hfr, hMu⟩
  · show _ = some (Obj.cells #[.slice s.nA s.ns.length s.nc, .slice (some ⟨g, 0, none⟩) (s.cs ++ [v]).length cap, .int .i64 s.gen, .int .i64 acc] T (0, 0))
    rw [hlen]
    exact set_block (t := T) (hq1.trans h.blk) 1 _
  · exact h.nod.keepFrom fun k hk hk2 => hkeep k hk2 (fun e => h.rows_ne hk e rfl) (h.nod_ne h44 hk)
  · show (w1.setCell _ _).ownsRow base 42 1 (.slice (some ⟨g, 0, none⟩) (s.cs ++ [v]).length cap) (s.cs ++ [v]).length (flatR (s.cs ++ [v]))
    rw [hlen, flatR_append]
    have ho : OwnR w1 base (.slice (some ⟨g, 0, none⟩) (s.cs.length + 1) cap) (s.cs ++ [v]) := by
      show w1.ownsRow base 42 1 _ (s.cs ++ [v]).length (flatR (s.cs ++ [v]))
      rw [hlen, flatR_append]
      exact hown
    have := ho.keepAt (w' := w1.setCell ⟨q, 1, none⟩ (.slice (some ⟨g, 0, none⟩) (s.cs.length + 1) cap)) fun k hk _ => Below.heap_setCell w1 ⟨q, 1, none⟩ _ k (fun e => by
      injection hk with hk
      exact hgq (hk.trans e))
    have h2 : (w1.setCell ⟨q, 1, none⟩ (.slice (some ⟨g, 0, none⟩) (s.cs.length + 1) cap)).ownsRow base 42 1 _ (s.cs ++ [v]).length (flatR (s.cs ++ [v])) := this
    rw [hlen, flatR_append] at h2
    exact h2
end
def NewCPost (base : Nat) (T : TypeId) (q : Nat) (s : Sd) (acc v : Int) (w : World) (e : Ending) (w' : World) : Prop :=
  ∃ g cap, e = .returned (.int .i64 ((s.cs.length : Int) + 1)) ∧ Ob w' base T q (s.addC g cap v) acc ∧ Fr (Mu q s) w w' ∧ (∀ k, Mu q (s.addC g cap v) k → Mu q s k ∨ w.heap.size ≤ k)
set_option maxHeartbeats 4000000 in
theorem newCell_a (base q : Nat) (s : Sd) (acc v : Int) (w : World) (h : Ob w base 77 q s acc) (hl : s.cs.length < 1100000) :
    Calls Try.prog 30 #[.pointer (some ⟨q, 0, none⟩), .int .i64 v] w (NewCPost base 77 q s acc v w) := by
  have H := Lib.hid h
  have hqw := h.lt
  have hbw : base ≤ w.heap.size := Nat.le_trans h.hq (Nat.le_of_lt hqw)
  obtain ⟨i0, hi0, hz0, hz1, hz2⟩ := info_parts refInfo
  have HI := Lib.hid (⟨hi0, hz0, hz1, hz2⟩ : _ ∧ _ ∧ _ ∧ _)
  have HBW := Lib.hid hbw
  have HQW := Lib.hid hqw
  have c1 := block_cell h.blk (i := 1) (v := .slice s.cA s.cs.length s.cc) rfl
  have hqn : q ≠ w.heap.size := by omega
  have c1' := fun o => (World.cell?_alloc_lt w o ⟨q, 1, none⟩ hqw).trans c1
  clear h hbw hi0 hz0 hz1 hz2 hqw
  go_enter Try.func30, Try.ntmps30
  go_wp2_with (at_builtin
               refine wpList_append_lies _ rfl (.tmp 10) (.tmp 12) 33 rfl base 42 i0 _ 1 8 Try.underlying33 HI.out.1 HI.out.2.1 HI.out.2.2.1 HI.out.2.2.2 rfl (by omega) (.slice s.cA s.cs.length s.cc) s.cs.length (flatR s.cs) rfl (OwnR.alloc H.out.cel _) ⟨w.heap.size, 0, none⟩ 1 1 [.int .i64 v] rfl rfl (fun j u hj => by
                 rw [Addr.add_lit, Nat.zero_add]
                 exact (cell_of_row (w.alloc (.cells #[.int .i64 v] 42)) w.heap.size j #[.int .i64 v] 42 (0, 0) (heap_alloc_new w _)).trans (by simpa using hj)) (fun u hu => by rw [List.mem_singleton.1 hu]; rfl) (by omega) (by simp only [maxLen]; omega) (by omega) (Nat.le_trans HBW.out (by simp)) (w.heap.size + 1) (by simp) ?_
               intro g cap w1 hown hgrow hat hlt
               have N := Lib.hid (H.out.newCell (by decide) (by decide) hl _ hown hgrow hat)
               have hb1 : w1.heap[q]? = w.heap[q]? := (hgrow.block q (by have := HQW.out; simp; omega) (fun e => H.out.cel_ne (by decide) e.symm rfl)).trans (Below.heap_alloc w _ q HQW.out)
               have e1 := block_cell (hb1.trans H.out.blk) (i := 1) (v := .slice s.cA s.cs.length s.cc) rfl
               have f1 := block_frozen (hb1.trans H.out.blk) 1
               clear hown hgrow hat hlt hb1)
  go_ret
  refine ⟨g, cap, ?_, N.out⟩
  first | rfl | exact ret_int (by simp)
set_option maxHeartbeats 4000000 in
theorem newCell_m (base q : Nat) (s : Sd) (acc v : Int) (w : World) (h : Ob w base 37 q s acc) (hl : s.cs.length < 1100000) :
    Calls Try.prog 38 #[.pointer (some ⟨q, 0, none⟩), .int .i64 v] w (NewCPost base 37 q s acc v w) := by
  have H := Lib.hid h
  have hqw := h.lt
  have hbw : base ≤ w.heap.size := Nat.le_trans h.hq (Nat.le_of_lt hqw)
  obtain ⟨i0, hi0, hz0, hz1, hz2⟩ := info_parts refInfo
  have HI := Lib.hid (⟨hi0, hz0, hz1, hz2⟩ : _ ∧ _ ∧ _ ∧ _)
  have HBW := Lib.hid hbw
  have HQW := Lib.hid hqw
  have c1 := block_cell h.blk (i := 1) (v := .slice s.cA s.cs.length s.cc) rfl
  have hqn : q ≠ w.heap.size := by omega
  have c1' := fun o => (World.cell?_alloc_lt w o ⟨q, 1, none⟩ hqw).trans c1
  clear h hbw hi0 hz0 hz1 hz2 hqw
  go_enter Try.func38, Try.ntmps38
  go_wp2_with (at_builtin
               refine wpList_append_lies _ rfl (.tmp 10) (.tmp 12) 33 rfl base 42 i0 _ 1 8 Try.underlying33 HI.out.1 HI.out.2.1 HI.out.2.2.1 HI.out.2.2.2 rfl (by omega) (.slice s.cA s.cs.length s.cc) s.cs.length (flatR s.cs) rfl (OwnR.alloc H.out.cel _) ⟨w.heap.size, 0, none⟩ 1 1 [.int .i64 v] rfl rfl (fun j u hj => by
                 rw [Addr.add_lit, Nat.zero_add]
                 exact (cell_of_row (w.alloc (.cells #[.int .i64 v] 42)) w.heap.size j #[.int .i64 v] 42 (0, 0) (heap_alloc_new w _)).trans (by simpa using hj)) (fun u hu => by rw [List.mem_singleton.1 hu]; rfl) (by omega) (by simp only [maxLen]; omega) (by omega) (Nat.le_trans HBW.out (by simp)) (w.heap.size + 1) (by simp) ?_
               intro g cap w1 hown hgrow hat hlt
               have N := Lib.hid (H.out.newCell (by decide) (by decide) hl _ hown hgrow hat)
               have hb1 : w1.heap[q]? = w.heap[q]? := (hgrow.block q (by have := HQW.out; simp; omega) (fun e => H.out.cel_ne (by decide) e.symm rfl)).trans (Below.heap_alloc w _ q HQW.out)
               have e1 := block_cell (hb1.trans H.out.blk) (i := 1) (v := .slice s.cA s.cs.length s.cc) rfl
               have f1 := block_frozen (hb1.trans H.out.blk) 1
               clear hown hgrow hat hlt hb1)
  go_ret
  refine ⟨g, cap, ?_, N.out⟩
  first | rfl | exact ret_int (by simp)

end Go.Proofs.Ytcmnmimkjkpimaa
