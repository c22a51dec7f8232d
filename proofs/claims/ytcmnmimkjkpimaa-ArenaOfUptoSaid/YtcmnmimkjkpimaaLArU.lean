/-
  State with what it owns, a2, the reference's boxes.
-/
import Derived.Test.YtcmnmimkjkpimaaLArT
set_option linter.unusedVariables false
set_option maxRecDepth 100000
namespace Go.Proofs.Ytcmnmimkjkpimaa
open Go.Shelf Go.RowKit Go.Lib Go.Sort
attribute [local go_sem ↓] exec_load28 exec_store44

def StateC (s : Sd) (w : World) (e : Ending) (w' : World) : Prop :=
  ∃ t : Sd, e = .returned (.agg t.vals) ∧ SameL s.ns t.ns ∧ t.cs = s.cs ∧ t.gen = s.gen ∧ Copy w' w.heap.size t ∧ Below w.heap.size w w'
theorem Copy.mono {w : World} {b b' : Nat} {t : Sd} (h : Copy w b t) (hb : b' ≤ b) : Copy w b' t :=
  ⟨h.nod.mono hb, OwnR.mono h.cel hb, fun n hn => ⟨(h.l n hn).1, fun ad e => Nat.le_trans hb ((h.l n hn).2.1 ad e), fun ad e => Nat.le_trans hb ((h.l n hn).2.2 ad e)⟩, h.nl, h.cl⟩
set_option maxHeartbeats 4000000 in
theorem state_own (base q : Nat) (s : Sd) (acc : Int) (w : World) (h : Ob w base 77 q s acc) : Calls Try.prog 23 #[.pointer (some ⟨q, 0, none⟩)] w (StateC s w) := by
  obtain ⟨W, hW⟩ : ∃ W, W = w.alloc (.cells #[.slice none 0 0, .slice none 0 0, .int .i64 0] 35) := ⟨_, rfl⟩
  have hbox : W.heap[w.heap.size]? = some (.cells #[.slice none 0 0, .slice none 0 0, .int .i64 0] 35 (0, 0)) := by rw [hW]; exact heap_alloc_new w _
  have GW := Lib.hid (show Below w.heap.size w W by rw [hW]; exact (Below.refl _ w).alloc (Nat.le_refl _) _)
  have HL := Lib.hid (show w.heap.size < W.heap.size by rw [hW]; simp)
  have HO := Lib.hid (h.up GW.out)
  have HBX := Lib.hid hbox
  have HW := Lib.hid hW.symm
  have c0 := block_cell HO.out.blk (i := 0) (v := .slice s.nA s.ns.length s.nc) rfl
  have c1 := block_cell HO.out.blk (i := 1) (v := .slice s.cA s.cs.length s.cc) rfl
  have c2 := block_cell HO.out.blk (i := 2) (v := .int .i64 s.gen) rfl
  have CU := Lib.hid (copied_any s W.heap.size W HO.out.srd (Nat.le_refl _))
  unfold Sd.vals at CU
  clear h hbox hW
  go_enter Try.func23, Try.ntmps23
  go_upto_region 1 with (fail)
  rw [HW.out]
  go_wp2_with (go_at_call 34
               refine CU.out.mono ?_
               rintro e w5 ⟨t, rfl, hs, hc, hgn, hcp, hb5⟩
               have K := Lib.hid (⟨hs, hc, hgn, hcp, hb5⟩ : _ ∧ _ ∧ _ ∧ _ ∧ _)
               have Q5 := Lib.hid ((hb5.block _ HL.out).trans HBX.out)
               have e0 := block_cell Q5.out (i := 0) (v := .slice none 0 0) rfl
               have e1 := block_cell Q5.out (i := 1) (v := .slice none 0 0) rfl
               have e2 := block_cell Q5.out (i := 2) (v := .int .i64 0) rfl
               have f0 := block_frozen Q5.out 0
               have f1 := block_frozen Q5.out 1
               have f2 := block_frozen Q5.out 2
               unfold Sd.vals
               clear hs hc hgn hcp hb5)
  obtain ⟨Z, hZ⟩ : ∃ Z, Z = (((w5.setCell ⟨w.heap.size, 0, none⟩ (.slice t.nA t.ns.length t.nc)).setCell ⟨w.heap.size, 1, none⟩ (.slice t.cA t.cs.length t.cc)).setCell ⟨w.heap.size, 2, none⟩ (.int .i64 t.gen)) := ⟨_, rfl⟩
  rw [← hZ]
  have hz : Z.heap[w.heap.size]? = some (.cells #[.slice t.nA t.ns.length t.nc, .slice t.cA t.cs.length t.cc, .int .i64 t.gen] 35 (0, 0)) := by rw [hZ]; exact set_block (set_block (set_block Q5.out 0 _) 1 _) 2 _
  have KZ := Lib.hid (show ∀ k, k ≠ w.heap.size → k < w5.heap.size → Z.heap[k]? = w5.heap[k]? by
    rw [hZ]
    intro k hk _
    exact ((Below.heap_setCell _ ⟨w.heap.size, 2, none⟩ _ k hk).trans (Below.heap_setCell _ ⟨w.heap.size, 1, none⟩ _ k hk)).trans (Below.heap_setCell _ ⟨w.heap.size, 0, none⟩ _ k hk))
  have BZ := Lib.hid (show Below w.heap.size w Z by
    rw [hZ]
    have := GW.out.trans (K.out.2.2.2.2.mono (Nat.le_of_lt HL.out))
    exact ((this.setCell (Nat.le_refl _) _).setCell (Nat.le_refl _) _).setCell (Nat.le_refl _) _)
  have TZ := Lib.hid (show w5.heap.size ≤ Z.heap.size ∧ Z.os = w5.os ∧ Z.tape = w5.tape ∧ Z.output = w5.output by rw [hZ]; exact ⟨by simp, rfl, rfl, rfl⟩)
  clear hZ e0 e1 e2 f0 f1 f2
  have d0 := block_cell hz (i := 0) (v := .slice t.nA t.ns.length t.nc) rfl
  have d1 := block_cell hz (i := 1) (v := .slice t.cA t.cs.length t.cc) rfl
  have d2 := block_cell hz (i := 2) (v := .int .i64 t.gen) rfl
  clear hz
  refine bodyPost_ret (v := .agg t.vals) (by simp [results, Try.results23, go_sem, d0, d1, d2, Sd.vals]) rfl ⟨t, rfl, K.out.1, K.out.2.1, K.out.2.2.1, ?_, BZ.out⟩
  exact Copy.mono (K.out.2.2.2.1.keepLow HL.out KZ.out TZ.out.1 TZ.out.2.1 TZ.out.2.2.1 TZ.out.2.2.2) (Nat.le_of_lt HL.out)

theorem Copy.ob37 {w : World} {base : Nat} {t : Sd} (h : Copy w base t) (hb : base ≤ w.heap.size) (acc : Int) :
    Ob (w.alloc (.cells #[.slice t.nA t.ns.length t.nc, .slice t.cA t.cs.length t.cc, .int .i64 t.gen, .int .i64 acc] 37)) base 37 w.heap.size t acc := by
  have hk : ∀ (o : Obj) (k : Nat), k < w.heap.size → (w.alloc o).heap[k]? = w.heap[k]? := fun o k hk => Below.heap_alloc w o k hk
  refine ⟨heap_alloc_new w _, hb, h.nod.keepFrom fun k _ hk2 => hk _ k hk2, h.cel.keepAt fun k _ hk2 => hk _ k hk2, fun n hn => ?_, h.nl, h.cl⟩
  refine (h.l n hn).1.fr (M' := Mu w.heap.size t) ((Fr.refl _ w).alloc _) fun k hm => ?_
  rcases hm with hm | hm | hm
  · exact .inr (by omega)
  · exact .inl (.inl hm)
  · exact .inl (.inr hm)
def A2Post (s : Sd) (w : World) (e : Ending) (w' : World) : Prop :=
  ∃ (q : Nat) (t : Sd), e = .returned (.pointer (some ⟨q, 0, none⟩)) ∧ SameL s.ns t.ns ∧ t.cs = s.cs ∧ t.gen = s.gen ∧ Ob w' w.heap.size 37 q t 0 ∧ (∀ n ∈ t.ns, FRs w.heap.size n) ∧ Below w.heap.size w w'
set_option maxHeartbeats 4000000 in
theorem a2_any (base q : Nat) (s : Sd) (acc : Int) (w : World) (h : Ob w base 77 q s acc) : Calls Try.prog 28 #[.pointer (some ⟨q, 0, none⟩)] w (A2Post s w) := by
  have C := Lib.hid (state_own base q s acc w h)
  clear h
  go_enter Try.func28, Try.ntmps28
  go_wp2_with (go_at_call 23; refine C.out.mono ?_; rintro e V2 ⟨t, rfl, hs, hc, hgn, hcp, hb⟩; have K2 := Lib.hid (⟨hs, hc, hgn, hcp, hb⟩ : _ ∧ _ ∧ _ ∧ _ ∧ _); unfold Sd.vals; clear hs hc hgn hcp hb)
  go_ret
  exact ⟨V2.heap.size, t, rfl, K2.out.1, K2.out.2.1, K2.out.2.2.1, (K2.out.2.2.2.1).ob37 K2.out.2.2.2.2.size 0, fun n hn => ⟨fun ad e => (K2.out.2.2.2.1.l n hn).2.1 ad e, fun ad e => (K2.out.2.2.2.1.l n hn).2.2 ad e⟩, K2.out.2.2.2.2.alloc K2.out.2.2.2.2.size _⟩

end Go.Proofs.Ytcmnmimkjkpimaa
