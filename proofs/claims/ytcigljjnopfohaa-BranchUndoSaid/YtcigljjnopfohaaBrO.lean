/-
  Layer 6: the walk of the law's awake.
-/
import Derived.Test.YtcigljjnopfohaaBrN
import Derived.Deep.RegionHeld3
set_option linter.unusedVariables false
set_option maxRecDepth 100000
namespace Go.Proofs.Ytcigljjnopfohaa
open Go.Shelf Go.RowKit Go.Lib Go.Sort
attribute [local go_sem ↓] exec_load28 exec_storeN
attribute [local go_sem] run_storeNode_new

theorem row_rdR (w : World) (L : List Int) : RdR (w.alloc (.cells (flatR L).toArray 26)) (w.heap.size + 1) (some ⟨w.heap.size, 0, none⟩) L := fun _ =>
  ⟨_, rfl, Nat.lt_succ_self _, fun j u hj => by
    have := cell_of_row (w.alloc (.cells (flatR L).toArray 26)) w.heap.size j (flatR L).toArray 26 (0, 0) (heap_alloc_new w _)
    rw [Addr.add_lit, Nat.zero_add]
    exact this.trans (by simpa using hj)⟩
theorem gn_lit {w V : World} (bm : Int) (L : List Int) (hb : U64 bm) (hl : L.length ≤ 1000) (hg : Below (w.alloc (.cells (flatR L).toArray 26)).heap.size (w.alloc (.cells (flatR L).toArray 26)) V) : GN V (mkC bm (some ⟨w.heap.size, 0, none⟩) L.length L) :=
  (gn_C (w := w.alloc (.cells (flatR L).toArray 26)) hb ((row_rdR w L).more (by simp)) (fun e => by cases e) (Nat.le_refl _) hl).up hg
theorem aw_ok (A : Option Addr) (c : Nat) : isC (mkC 17 A c [5, 6]) = true := isC_mkC (by decide +kernel) (by intro z hz; simp at hz; omega)
theorem aw_ok2 (A : Option Addr) (c : Nat) : isC (mkC 2 A c [7]) = true := isC_mkC (by decide +kernel) (by intro z hz; simp at hz; omega)
theorem aw_has : hasB 17 3 = false := by decide +kernel
theorem aw_with : withI 17 3 = 25 := by decide +kernel
theorem aw_ins : insL 17 [5, 6] 3 9 = [5, 9, 6] := by decide +kernel
theorem aw_insOk (A : Option Addr) (c : Nat) : insOk (mkC 17 A c [5, 6]) 3 9 = true := by
  unfold insOk
  rw [aw_ok, show (mkC 17 A c [5, 6]).bm = 17 from rfl, aw_has]; rfl
theorem aw_sole (A : Option Addr) (c : Nat) : soleB (mkC 2 A c [7]) = true ∧ soleV (mkC 2 A c [7]) = 7 := by
  have : soleB (mkC 2 A c [7]) = true := by unfold soleB; rw [aw_ok2]; rfl
  exact ⟨this, by unfold soleV; rw [this]; rfl⟩
theorem u17 : U64 17 := by unfold U64; omega
theorem u2 : U64 2 := by unfold U64; omega
theorem u25 : U64 25 := by unfold U64; omega
theorem aw_look (A : Option Addr) (c : Nat) : lookB (mkC 25 A c [5, 9, 6]) 3 = true ∧ lookV (mkC 25 A c [5, 9, 6]) 3 = 9 := by
  have hc : isC (mkC 25 A c [5, 9, 6]) = true := isC_mkC (by decide +kernel) (by intro z hz; simp at hz; omega)
  have hh : hasB 25 3 = true := by decide +kernel
  have hb : lookB (mkC 25 A c [5, 9, 6]) 3 = true := by unfold lookB; rw [hc, show (mkC 25 A c [5, 9, 6]).bm = 25 from rfl, hh]; rfl
  have hp : pN 25 3 = 1 := by decide +kernel
  exact ⟨hb, by unfold lookV; rw [hb, if_pos rfl, show (mkC 25 A c [5, 9, 6]).bm = 25 from rfl, hp]; rfl⟩
theorem aw_end {x z : World} {y : Nd} {b : Nat} {A : Option Addr} {c : Nat} (hy : NB x b y) (ey : y = mkC 25 A c [5, 9, 6]) (hg : Gr ((x.alloc (.cells #[.int .i64 5, .int .i64 9, .int .i64 6] 26)).drew) z) :
    Sem.run Try.prog (loadNode (.pointer (some ⟨b, 0, none⟩))) z = .ok (.agg y.cs) z ∧ Calls Try.prog 17 #[.agg y.cs, .agg (mkC 25 (some ⟨x.heap.size, 0, none⟩) 3 [5, 9, 6]).cs] z (fun e w' => e = .returned (.bool true) ∧ Gr z w') ∧ Below x.heap.size x z := by
  have hb : Below x.heap.size x z := ⟨hg.b.os, hg.b.tape, hg.b.output, Nat.le_trans (by simp) hg.b.size, fun k hk => (hg.b.block k (by simp; omega)).trans (Below.heap_alloc x _ k hk)⟩
  have hz : GN z (mkC 25 (some ⟨x.heap.size, 0, none⟩) 3 [5, 9, 6]) := gn_lit (w := x) 25 [5, 9, 6] u25 (by simp) ⟨hg.b.os, hg.b.tape, hg.b.output, hg.b.size, hg.b.block⟩
  have hE := requal_any y (mkC 25 (some ⟨x.heap.size, 0, none⟩) 3 [5, 9, 6]) z.heap.size z (hy.up hb).2.rd hz.rd (Nat.le_refl _)
  rw [show eqN y (mkC 25 (some ⟨x.heap.size, 0, none⟩) 3 [5, 9, 6]) = true by rw [ey]; exact eqN_mk] at hE
  exact ⟨(hy.up hb).ld, hE, hb⟩
set_option maxHeartbeats 8000000 in
theorem awake_any (w : World) : Calls Try.prog 11 #[] w fun e w' => e = .returned (.bool true) ∧ Below w.heap.size w w' := by
  have mixed := mixedOrders
  obtain ⟨W, hW⟩ : ∃ W, W = w.alloc (.cells (flatR [5, 6]).toArray 26) := ⟨_, rfl⟩
  have BW := Lib.hid (show Below w.heap.size w W by rw [hW]; exact alloc_below w _)
  have CN := Lib.hid (show Calls Try.prog 16 #[.int .u64 17, .slice (some ⟨w.heap.size, 0, none⟩) 2 2] W _ from cnode_any 17 (some ⟨w.heap.size, 0, none⟩) 2 [5, 6] W)
  have CI := Lib.hid (fun V (hV : Gr W V) => inserted_any (mkC 17 (some ⟨w.heap.size, 0, none⟩) 2 [5, 6]) 3 9 V (gn_lit (w := w) 17 [5, 6] u17 (by simp) (by rw [← hW]; exact hV.b)))
  rw [aw_insOk] at CI
  have HW := Lib.hid (show w.alloc (.cells #[.int .i64 5, .int .i64 6] 26) = W from hW.symm)
  clear hW
  go_enter Try.func11, Try.ntmps11
  go_upto_region 1 with (fail)
  go_upto_region 2 with (first
    | (go_at_call 16; rw [HW.out]; refine CN.out.mono ?_; rintro e w1 ⟨rfl, hg⟩; have G1 := Lib.hid hg; clear hg)
    | (go_at_call 13; refine (CI.out _ G1.out).mono ?_; rintro e w2 ⟨y, rfl, _, y1, gy, _, hb⟩; have Y := Lib.hid (⟨y1 rfl, gy, hb⟩ : _ ∧ _ ∧ _); clear y1 gy hb))
  obtain ⟨Ay, cy, ey⟩ := Y.out.1
  have EY := Lib.hid (show y = mkC 25 Ay cy [5, 9, 6] by
    rw [ey]
    show mkC (withI 17 3) Ay cy (insL 17 [5, 6] 3 9) = _
    rw [aw_with, aw_ins])
  clear ey
  obtain ⟨V, hV⟩ : ∃ V, V = w2.alloc (.cells y.cs 28) := ⟨_, rfl⟩
  have NY := Lib.hid (show NB V w2.heap.size y by rw [hV]; exact nb_new Y.out.2.1)
  have BV := Lib.hid (show Below w.heap.size w V by
    rw [hV]
    exact (BW.out.trans ((G1.out.b.trans (Y.out.2.2.mono G1.out.size)).mono BW.out.size)).alloc (Nat.le_trans BW.out.size (Nat.le_trans G1.out.size Y.out.2.2.size)) _)
  rw [← hV]
  clear hV
  generalize w2.heap.size = b at NY ⊢
  have ly := NY.out.ld
  have LK := Lib.hid (lookup_any y 3 V.heap.size V NY.out.2.rd (Nat.le_refl _))
  rw [show lookB y 3 = true by rw [EY.out]; exact (aw_look _ _).1, show lookV y 3 = 9 by rw [EY.out]; exact (aw_look _ _).2] at LK
  go_upto_region 3 with (go_at_call 12; refine LK.out.mono ?_; rintro e v1 ⟨rfl, hg⟩; have G3 := Lib.hid hg; clear hg)
  obtain ⟨U, hU⟩ : ∃ U, U = v1.alloc (.cells (flatR [7]).toArray 26) := ⟨_, rfl⟩
  have GU := Lib.hid (show Gr V U by rw [hU]; exact G3.out.alloc _)
  have CN2 := Lib.hid (show Calls Try.prog 16 #[.int .u64 2, .slice (some ⟨v1.heap.size, 0, none⟩) 1 1] U _ from cnode_any 2 (some ⟨v1.heap.size, 0, none⟩) 1 [7] U)
  have CS := Lib.hid (fun X (hX : Gr U X) => sole_any (mkC 2 (some ⟨v1.heap.size, 0, none⟩) 1 [7]) X.heap.size X (gn_lit (w := v1) 2 [7] u2 (by simp) (by rw [← hU]; exact hX.b)).rd (Nat.le_refl _))
  rw [(aw_sole _ _).1, (aw_sole _ _).2] at CS
  have HU := Lib.hid (show v1.alloc (.cells #[.int .i64 7] 26) = U from hU.symm)
  clear hU
  go_upto_region 4 with (first
    | (go_at_call 16; rw [HU.out]; refine CN2.out.mono ?_; rintro e x1 ⟨rfl, hg⟩; have G4 := Lib.hid (GU.out.trans hg); have CS2 := Lib.hid (CS.out _ hg); clear hg)
    | (go_at_call 25; refine CS2.out.mono ?_; rintro e x2 ⟨rfl, hg⟩; have G5 := Lib.hid (G4.out.trans hg); clear hg))
  have N5 := Lib.hid (NY.out.up G5.out.b)
  have l5 := N5.out.ld
  have BF := Lib.hid (BV.out.trans (G5.out.b.mono BV.out.size))
  clear BV LK CS HW HU CI CN CN2
  go_region_held3 (fun w' => Sem.run Try.prog (loadNode (.pointer (some ⟨b, 0, none⟩))) w' = .ok (.agg y.cs) w')
    (first | exact Z3.out | exact Z1.out.1 | exact run_loadNode N5.out.1 | exact run_loadNode ((Below.heap_alloc x2 _ _ (Array.getElem?_eq_some_iff.1 N5.out.1).1).trans N5.out.1))
    (first
      | (go_at_call 17; refine Z1.out.2.1.mono ?_; rintro e z2 ⟨rfl, hg⟩; have G7 := Lib.hid hg; have Z3 := Lib.hid (run_loadNode (heap_up (heap_up N5.out.1 Z1.out.2.2) hg.b)); clear hg)
      | (go_at_call 16; refine (cnode_any 25 (some ⟨x2.heap.size, 0, none⟩) 3 [5, 9, 6] _).mono ?_; rintro e z1 ⟨rfl, hg⟩; have Z1 := Lib.hid (aw_end N5.out EY.out hg); clear hg))
  all_goals
    go_wp2
    go_ret
    exact ⟨rfl, (BF.out.trans (Z1.out.2.2.mono BF.out.size)).trans (G7.out.b.mono (Nat.le_trans BF.out.size Z1.out.2.2.size))⟩
end Go.Proofs.Ytcigljjnopfohaa
