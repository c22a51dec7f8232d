/-
  Layer 7: the walk of the reference's Shrunk.
-/
import Derived.Test.YtpopoihggomfiaaTbL
import Derived.Deep.RegionHeld3
set_option linter.unusedVariables false
set_option maxRecDepth 100000
namespace Go.Proofs.Ytpopoihggomfiaa
open Go.Shelf Go.RowKit Go.Lib Go.Sort
attribute [local go_sem ↓] exec_load28 exec_storeN
attribute [local go_sem] run_storeNode_new

set_option maxHeartbeats 16000000 in
theorem rshrunk_any (n : Nd) (k : ByteArray) (w : World) (hc : GN w n) : Calls Try.prog 26 #[.agg n.cs, .string k] w (TPost (shrB n k) (shrV n k) w) := by
  obtain ⟨W, hW⟩ : ∃ W, W = (w.alloc (.cells n.cs 28)).alloc (.cells #[.int .i64 0, .int .i64 0, .int .i64 0, .int .u64 0, .slice none 0 0, .int .u64 0, .string ⟨#[]⟩, .int .u64 0, .slice none 0 0, .int .i64 0, .int .i64 0, .int .i64 0, .int .i64 0, .int .i64 0] 28) := ⟨_, rfl⟩
  have BW := Lib.hid (show Below w.heap.size w W by rw [hW]; exact (alloc_below w _).alloc (by simp) _)
  have H1 := Lib.hid (show W.heap[w.heap.size]? = some (.cells n.cs 28 (0, 0)) by rw [hW]; exact (Below.heap_alloc _ _ _ (by simp)).trans (heap_alloc_new w _))
  have H3 := Lib.hid (show W.heap[w.heap.size + 1]? = some (.cells #[.int .i64 0, .int .i64 0, .int .i64 0, .int .u64 0, .slice none 0 0, .int .u64 0, .string ⟨#[]⟩, .int .u64 0, .slice none 0 0, .int .i64 0, .int .i64 0, .int .i64 0, .int .i64 0, .int .i64 0] 28 (0, 0)) by rw [hW]; have := heap_alloc_new (w.alloc (.cells n.cs 28)) (.cells #[.int .i64 0, .int .i64 0, .int .i64 0, .int .u64 0, .slice none 0 0, .int .u64 0, .string ⟨#[]⟩, .int .u64 0, .slice none 0 0, .int .i64 0, .int .i64 0, .int .i64 0, .int .i64 0, .int .i64 0] 28); simpa using this)
  have GC := Lib.hid (hc.up BW.out)
  have WS := Lib.hid (show W.heap.size = w.heap.size + 2 by rw [hW]; simp)
  have HW := Lib.hid hW.symm
  clear hW hc
  obtain ⟨g, b, hgs, hfi⟩ := rfind_l n.pA n.pc n.ps k W GC.out.rd.p GC.out.rd.pl
  have FI := Lib.hid hfi
  have GS := Lib.hid hgs
  clear hgs hfi
  have d8 := node_cellA H1.out (i := 8) (v := .slice n.pA n.ps.length n.pc) rfl
  go_enter Try.func26, Try.ntmps26
  go_upto_region 1 with (fail)
  rw [HW.out]
  clear HW
  go_upto_region 2 with (go_at_call 18; refine FI.out.mono ?_; rintro e w1 ⟨rfl, hb⟩; have B0 := Lib.hid hb; clear hb)
  have K1 := Lib.hid (heap_up H1.out B0.out)
  have K3 := Lib.hid (heap_up H3.out B0.out)
  have GC1 := Lib.hid (GC.out.up B0.out)
  have B1 := Lib.hid (BW.out.trans (B0.out.mono BW.out.size))
  have S1 := Lib.hid (show w.heap.size + 2 ≤ w1.heap.size by have := B0.out.size; have := WS.out; omega)
  clear d8 FI GC
  have l1 := run_loadNode K1.out
  have SO := Lib.hid (rlist_any n w1.heap.size w1 GC1.out.rd (Nat.le_refl _))
  obtain ⟨q, hq⟩ : ∃ q, q = isL n := ⟨_, rfl⟩
  rw [← hq] at SO
  have EQ := Lib.hid hq
  clear hq
  by_cases h1 : q = true ∧ b = true
  · obtain ⟨rfl, rfl⟩ := h1
    have ok := isL_ok EQ.out.symm
    have AS := Lib.hid ok.2.1
    have EE := Lib.hid (show shrB n k = true by simp [shrB, ← EQ.out, ← GS.out AS.out])
    obtain ⟨L, hL⟩ : ∃ L, L = wo n.ps k := ⟨_, rfl⟩
    have HL := Lib.hid hL
    have EV := Lib.hid (show shrV n k = restV n.hash L by simp [shrV, EE.out, hL])
    clear hL ok
    go_upto_region 4 with (go_at_call 45; refine SO.out.mono ?_; rintro e w2 ⟨rfl, hg⟩; have G2 := Lib.hid hg; clear hg)
    have L1 := Lib.hid (heap_up K1.out G2.out.b)
    have L3 := Lib.hid (heap_up K3.out G2.out.b)
    have GC2 := Lib.hid (GC1.out.up G2.out.b)
    have C2 := Lib.hid (B1.out.trans (G2.out.b.mono B1.out.size))
    have S2 := Lib.hid (show w.heap.size + 2 ≤ w2.heap.size by have := S1.out; have := G2.out.size; omega)
    clear GC1 K1 K3 l1
    have d8 := node_cellA L1.out (i := 8) (v := .slice n.pA n.ps.length n.pc) rfl
    have DR := Lib.hid (rdrop_l n.pA n.pc n.ps L k w2 GC2.out.rd.p AS.out GC2.out.rd.pl HL.out)
    go_upto_region 5 with (go_at_call 47; refine DR.out.mono ?_; rintro e w3 ⟨hl, A3, c3, rfl, hr, ha, hc, hf, hb⟩; have P3 := Lib.hid (⟨hr, ha, hc, hl, hf⟩ : _ ∧ _ ∧ _ ∧ _ ∧ _); have B3 := Lib.hid hb; clear hl hr ha hc hf hb)
    clear d8 DR
    have M1 := Lib.hid (heap_up L1.out B3.out)
    have M3 := Lib.hid (heap_up L3.out B3.out)
    have C3 := Lib.hid (C2.out.trans (B3.out.mono C2.out.size))
    by_cases hl1 : L.length = 1
    · match L, hl1, P3, HL, EV with
      | [x], _, P3, HL, EV =>
        have ER := Lib.hid (show restV n.hash [x] = tombX n.hash x from rfl)
        obtain ⟨ad, p, x', hA, hp, hpb, hx, c0, c1⟩ := P3.out.1.at2 (i := 0) (by simp)
        simp at hx
        subst hx hA
        rw [Nat.zero_mul, add_zero_] at hp
        subst hp
        have hlo := Lib.hid (P3.out.2.2.2.2 ad rfl)
        have KS := Lib.hid (show ∀ V, Below w3.heap.size w3 V → V.cell? ⟨w.heap.size, 5, none⟩ = some (.int .u64 n.hash) ∧ V.cell? ad = some (.string x.1) ∧ V.cell? ⟨ad.block, ad.off + 1, none⟩ = some (.int .u64 x.2) from fun V hV =>
          ⟨node_cellA (heap_up M1.out hV) (i := 5) rfl, (hV.cell (p := ad) hpb).trans c0, (hV.cell (p := ⟨ad.block, ad.off + 1, none⟩) hpb).trans c1⟩)
        have KR := Lib.hid (show ∀ V cs, Below w3.heap.size w3 V → (V.setRow (w.heap.size + 1) cs).cell? ⟨w.heap.size, 5, none⟩ = some (.int .u64 n.hash) ∧ (V.setRow (w.heap.size + 1) cs).cell? ad = some (.string x.1) ∧ (V.setRow (w.heap.size + 1) cs).cell? ⟨ad.block, ad.off + 1, none⟩ = some (.int .u64 x.2) from fun V cs hV => by
          have e : (V.setRow (w.heap.size + 1) cs).heap[w.heap.size]? = V.heap[w.heap.size]? := setRow_other _ _ _ _ (by omega)
          have e2 : (V.setRow (w.heap.size + 1) cs).heap[ad.block]? = V.heap[ad.block]? := setRow_other _ _ _ _ (by have := hlo.out; have := S2.out; omega)
          exact ⟨(World.cell?_of_block e).trans (KS.out V hV).1, (World.cell?_of_block e2).trans (KS.out V hV).2.1, (World.cell?_of_block (a := ⟨ad.block, ad.off + 1, none⟩) e2).trans (KS.out V hV).2.2⟩)
        have BD := Lib.hid (show Below w3.heap.size w3 w3.drew from ⟨rfl, rfl, rfl, Nat.le_refl _, fun _ _ => rfl⟩)
        have F4 := Lib.hid (show w3.drew.heap[w.heap.size + 1]? = _ from M3.out)
        have st := run_storeNode (tombX n.hash x) F4.out rfl
        have LIT := Lib.hid (tombX_lit n.hash x)
        rw [LIT.out] at st
        clear c0 c1
        simp only [List.length_cons, List.length_nil, Nat.zero_add] at *
        go_upto_region 6 with (fail)
        go_region_held3 (fun w' => w'.cell? ⟨w.heap.size, 5, none⟩ = some (.int .u64 n.hash) ∧ w'.cell? ad = some (.string x.1) ∧ w'.cell? ⟨ad.block, ad.off + 1, none⟩ = some (.int .u64 x.2))
          (first | exact KR.out _ _ BD.out | exact KS.out _ BD.out)
          (fail)
        all_goals
          go_wp2_with fail
          rw [← LIT.out]
          obtain ⟨X, hX⟩ : ∃ X, X = w3.drew.setRow (w.heap.size + 1) (tombX n.hash x).cs := ⟨_, rfl⟩
          have hg : X.heap[w.heap.size + 1]? = some (.cells (tombX n.hash x).cs 28 (0, 0)) := by rw [hX]; exact setRow_heap w3.drew _ _ _ 28 (0, 0) F4.out
          have BX := Lib.hid (show Below w.heap.size w X by rw [hX]; exact below_setRow (C3.out.trans (BD.out.mono C3.out.size)) (Nat.le_add_right _ 1) _)
          have GX := Lib.hid (show GN X (tombX n.hash x) by rw [hX]; exact gn_tombX _ _ _)
          rw [← hX]
          clear hX st
          obtain ⟨d0, d1, d2, d3, d4, d5, d6, d7, d8, d9, d10, d11, d12, d13⟩ := node_vals hg
          clear hg
          exact bodyPost_ret (v := .tuple #[.agg (tombX n.hash x).cs, .bool true]) (by simp [results, Try.results26, go_sem, d0, d1, d2, d3, d4, d5, d6, d7, d8, d9, d10, d11, d12, d13, Nd.cs]) rfl ⟨_, by rw [EE.out], by rw [EV.out, ER.out]; exact Vw.refl _, GX.out, BX.out⟩
    · have hl' : ¬ (L.length : Int) = 1 := by omega
      have ER := Lib.hid (show restV n.hash L = { Nd.zero with kind := 6, hash := n.hash, ps := L } by unfold restV; rw [if_neg hl1])
      have d5 := node_cellA M1.out (i := 5) (v := .int .u64 n.hash) rfl
      have st := run_storeNode (mkL n.hash A3 c3 L) M3.out rfl
      have LIT := Lib.hid (mkL_lit n.hash A3 c3 L)
      rw [LIT.out] at st
      clear hl1
      go_upto_region 7 with (fail)
      go_wp2_with fail
      rw [← LIT.out]
      obtain ⟨X, hX⟩ : ∃ X, X = w3.setRow (w.heap.size + 1) (mkL n.hash A3 c3 L).cs := ⟨_, rfl⟩
      have hg : X.heap[w.heap.size + 1]? = some (.cells (mkL n.hash A3 c3 L).cs 28 (0, 0)) := by rw [hX]; exact setRow_heap w3 _ _ _ 28 (0, 0) M3.out
      have BX := Lib.hid (show Below w.heap.size w X by rw [hX]; exact below_setRow C3.out (Nat.le_add_right _ 1) _)
      have GX := Lib.hid (show GN X (mkL n.hash A3 c3 L) by rw [hX]; exact gn_setRow (n := mkL n.hash A3 c3 L) ⟨⟨RdR.nil, P3.out.1, u64_zero, Nat.zero_le _, P3.out.2.2.2.1⟩, fun _ => rfl, P3.out.2.1, Nat.le_refl _, P3.out.2.2.1⟩ (fun ad e => by cases e) (fun ad e => by have := P3.out.2.2.2.2 ad e; have := S2.out; omega) _)
      rw [← hX]
      clear hX st
      obtain ⟨d0, d1, d2, d3, d4, d5, d6, d7, d8, d9, d10, d11, d12, d13⟩ := node_vals hg
      clear hg
      exact bodyPost_ret (v := .tuple #[.agg (mkL n.hash A3 c3 L).cs, .bool true]) (by simp [results, Try.results26, go_sem, d0, d1, d2, d3, d4, d5, d6, d7, d8, d9, d10, d11, d12, d13, Nd.cs]) rfl ⟨_, by rw [EE.out], by rw [EV.out, ER.out]; exact ⟨none, 0, A3, c3, rfl⟩, GX.out, BX.out⟩
  · have EE := Lib.hid (show shrB n k = false by
      simp only [shrB, ← EQ.out]
      cases hq : q
      · rfl
      · have h2 : b = false := by
          cases hb : b
          · rfl
          · exact absurd ⟨hq, hb⟩ h1
        rw [← GS.out (isL_ok (EQ.out.symm.trans hq)).2.1, h2]; rfl)
    have EV := Lib.hid (show shrV n k = Nd.zero by simp [shrV, EE.out])
    have hh : q = false ∨ (q = true ∧ b = false) := by
      cases q with
      | false => exact .inl rfl
      | true => cases b with
        | false => exact .inr ⟨rfl, rfl⟩
        | true => exact absurd ⟨rfl, rfl⟩ h1
    clear h1
    rcases hh with rfl | ⟨rfl, rfl⟩
    all_goals
      go_upto_region 3 with (go_at_call 45; refine SO.out.mono ?_; rintro e w2 ⟨rfl, hg⟩; have G2 := Lib.hid hg; clear hg)
      have L3 := Lib.hid (heap_up K3.out G2.out.b)
      have C2 := Lib.hid (B1.out.trans (G2.out.b.mono B1.out.size))
      have st := run_storeNode Nd.zero L3.out rfl
      rw [zero_lit] at st
      go_wp2_with fail
      obtain ⟨X, hX⟩ : ∃ X, X = w2.setRow (w.heap.size + 1) #[.int .i64 0, .int .i64 0, .int .i64 0, .int .u64 0, .slice none 0 0, .int .u64 0, .string ⟨#[]⟩, .int .u64 0, .slice none 0 0, .int .i64 0, .int .i64 0, .int .i64 0, .int .i64 0, .int .i64 0] := ⟨_, rfl⟩
      have hg : X.heap[w.heap.size + 1]? = some (.cells Nd.zero.cs 28 (0, 0)) := by rw [hX]; exact setRow_heap w2 _ _ _ 28 (0, 0) L3.out
      have BX := Lib.hid (show Below w.heap.size w X by rw [hX]; exact below_setRow C2.out (Nat.le_add_right _ 1) _)
      rw [← hX]
      clear hX st
      obtain ⟨d0, d1, d2, d3, d4, d5, d6, d7, d8, d9, d10, d11, d12, d13⟩ := node_vals hg
      clear hg
      exact bodyPost_ret (v := .tuple #[.agg Nd.zero.cs, .bool false]) (by simp [results, Try.results26, go_sem, d0, d1, d2, d3, d4, d5, d6, d7, d8, d9, d10, d11, d12, d13, Nd.cs]) rfl ⟨_, by rw [EE.out], by rw [EV.out]; exact Vw.refl _, gn_zero _, BX.out⟩
end Go.Proofs.Ytpopoihggomfiaa
