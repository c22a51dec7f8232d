/-
  The walks of Of, NewCell, access, Load, CAS, Node, State.
-/
import Derived.Test.YtcmnmimkjkpimaaLArE
import Derived.Test.YtcmnmimkjkpimaaLArF
set_option linter.unusedVariables false
set_option maxRecDepth 100000
namespace Go.Proofs.Ytcmnmimkjkpimaa
open Go.Shelf Go.RowKit Go.Lib Go.Sort
attribute [local go_sem ↓] exec_load28 exec_store44
attribute [local go_sem] run_storeNode_new

theorem Copy.ob {w : World} {base : Nat} {t : Sd} (h : Copy w base t) (hb : base ≤ w.heap.size) (acc : Int) :
    Ob (w.alloc (.cells #[.slice t.nA t.ns.length t.nc, .slice t.cA t.cs.length t.cc, .int .i64 t.gen, .int .i64 acc] 77)) base 77 w.heap.size t acc := by
  have hk : ∀ (o : Obj) (k : Nat), k < w.heap.size → (w.alloc o).heap[k]? = w.heap[k]? := fun o k hk => Below.heap_alloc w o k hk
  refine ⟨heap_alloc_new w _, hb, h.nod.keepFrom fun k _ hk2 => hk _ k hk2, h.cel.keepAt fun k _ hk2 => hk _ k hk2, fun n hn => ?_, h.nl, h.cl⟩
  refine (h.l n hn).1.fr (M' := Mu w.heap.size t) ((Fr.refl _ w).alloc _) fun k hm => ?_
  rcases hm with hm | hm | hm
  · exact .inr (by omega)
  · exact .inl (.inl hm)
  · exact .inl (.inr hm)
def OfPost (s : Sd) (w : World) (e : Ending) (w' : World) : Prop :=
  ∃ (q : Nat) (t : Sd), e = .returned (.tuple #[.pointer (some ⟨q, 0, none⟩), .int .i64 0]) ∧ SameL s.ns t.ns ∧ t.cs = s.cs ∧ t.gen = s.gen ∧ Ob w' w.heap.size 77 q t 0 ∧ Below w.heap.size w w'
set_option maxHeartbeats 4000000 in
theorem of_ok (s : Sd) (B : Nat) (w : World) (h : SRd w B s) (hB : B ≤ w.heap.size) (hp : properB s = true) : Calls Try.prog 10 #[.agg s.vals] w (OfPost s w) := by
  obtain ⟨W, hW⟩ : ∃ W, W = w.alloc (.cells s.vals 35) := ⟨_, rfl⟩
  have GW := Lib.hid (show Below w.heap.size w W by rw [hW]; exact (Below.refl _ w).alloc (Nat.le_refl _) _)
  have HSB := Lib.hid (show Box W w.heap.size s by rw [hW]; exact heap_alloc_new w _)
  have HL := Lib.hid (show w.heap.size < W.heap.size by rw [hW]; simp)
  have HW := Lib.hid hW.symm
  have H := Lib.hid (h.below (GW.out.mono hB))
  have HB := Lib.hid (Nat.le_trans hB GW.out.size)
  have C1 := Lib.hid (proper_any s B W H.out HB.out)
  rw [hp] at C1
  have C2 := Lib.hid (fun (V : World) (hV : Below W.heap.size W V) => copied_any s B V (H.out.below (hV.mono HB.out)) (Nat.le_trans HB.out hV.size))
  unfold Sd.vals at C1 C2
  clear h hB hW hp
  go_enter Try.func10, Try.ntmps10
  go_upto_region 1 with (fail)
  rw [HW.out]
  have q0 := HSB.out.at0
  have q1 := HSB.out.at1
  have q2 := HSB.out.at2
  go_wp2_with (first
    | (go_at_call 33
       refine C1.out.mono ?_
       rintro e V1 ⟨rfl, hg⟩
       have Y1 := Lib.hid hg
       have B1 := Lib.hid (show Box V1 w.heap.size s from (hg.block _ HL.out).trans HSB.out)
       have p0 := B1.out.at0
       have p1 := B1.out.at1
       have p2 := B1.out.at2
       clear hg)
    | (go_at_call 34
       refine (C2.out _ Y1.out).mono ?_
       rintro e V2 ⟨t, rfl, hs, hc, hgn, hcp, hb⟩
       have K2 := Lib.hid (⟨hs, hc, hgn, hcp, hb⟩ : _ ∧ _ ∧ _ ∧ _ ∧ _)
       unfold Sd.vals
       clear hs hc hgn hcp hb))
  have hVs : w.heap.size ≤ V1.heap.size := Nat.le_trans (Nat.le_of_lt HL.out) Y1.out.size
  have hob := (K2.out.2.2.2.1).ob K2.out.2.2.2.2.size 0
  refine bodyPost_ret (v := .tuple #[.pointer (some ⟨V2.heap.size, 0, none⟩), .int .i64 0]) (by simp [results, Try.results10]) rfl ⟨V2.heap.size, t, rfl, K2.out.1, K2.out.2.1, K2.out.2.2.1, ?_, ?_⟩
  · exact ⟨hob.blk, Nat.le_trans hVs hob.hq, hob.nod.mono hVs, OwnR.mono hob.cel hVs, hob.l, hob.nl, hob.cl⟩
  · exact ((GW.out.trans (Y1.out.mono (Nat.le_of_lt HL.out))).trans (K2.out.2.2.2.2.mono hVs)).alloc (Nat.le_trans hVs K2.out.2.2.2.2.size) _

end Go.Proofs.Ytcmnmimkjkpimaa
