/-
  Layer 7: the walks of the reference's Contracted, and of Untombed, the program's and the reference's.
-/
import Derived.Test.YtpopoihggomfiaaTbI
set_option linter.unusedVariables false
set_option maxRecDepth 100000
namespace Go.Proofs.Ytpopoihggomfiaa
open Go.Shelf Go.RowKit Go.Lib Go.Sort
attribute [local go_sem ↓] exec_load28 exec_storeN
attribute [local go_sem] run_storeNode_new

theorem tomb_lit (n : Nd) : (tombN n).cs = #[.int .i64 5, .int .i64 0, .int .i64 0, .int .u64 0, .slice none 0 0, .int .u64 n.hash, .string n.key, .int .u64 n.val, .slice none 0 0, .int .i64 0, .int .i64 0, .int .i64 0, .int .i64 0, .int .i64 0] := rfl
theorem sing_lit (n : Nd) : (singN n).cs = #[.int .i64 4, .int .i64 0, .int .i64 0, .int .u64 0, .slice none 0 0, .int .u64 n.hash, .string n.key, .int .u64 n.val, .slice none 0 0, .int .i64 0, .int .i64 0, .int .i64 0, .int .i64 0, .int .i64 0] := rfl
theorem zero_lit : Nd.zero.cs = #[.int .i64 0, .int .i64 0, .int .i64 0, .int .u64 0, .slice none 0 0, .int .u64 0, .string ⟨#[]⟩, .int .u64 0, .slice none 0 0, .int .i64 0, .int .i64 0, .int .i64 0, .int .i64 0, .int .i64 0] := rfl
set_option maxHeartbeats 8000000 in
theorem rcontracted_any (c s : Nd) (l : Int) (w : World) (hc : GN w c) : Calls Try.prog 27 #[.agg c.cs, .int .i64 l, .agg s.cs] w (VPost (ctrV c l s) w) := by
  obtain ⟨W, hW⟩ : ∃ W, W = ((w.alloc (.cells c.cs 28)).alloc (.cells s.cs 28)).alloc (.cells #[.int .i64 0, .int .i64 0, .int .i64 0, .int .u64 0, .slice none 0 0, .int .u64 0, .string ⟨#[]⟩, .int .u64 0, .slice none 0 0, .int .i64 0, .int .i64 0, .int .i64 0, .int .i64 0, .int .i64 0] 28) := ⟨_, rfl⟩
  have BW := Lib.hid (show Below w.heap.size w W by rw [hW]; exact ((alloc_below w _).alloc (by simp) _).alloc (by simp; omega) _)
  have HH := heap_new2 w (.cells c.cs 28) (.cells s.cs 28) (.cells #[.int .i64 0, .int .i64 0, .int .i64 0, .int .u64 0, .slice none 0 0, .int .u64 0, .string ⟨#[]⟩, .int .u64 0, .slice none 0 0, .int .i64 0, .int .i64 0, .int .i64 0, .int .i64 0, .int .i64 0] 28)
  rw [← hW] at HH
  have H1 := Lib.hid HH.1
  have H2 := Lib.hid HH.2.1
  have H3 := Lib.hid HH.2.2
  have GC := Lib.hid (hc.up BW.out)
  have GC0 := Lib.hid hc
  have WS := Lib.hid (show W.heap.size = w.heap.size + 3 by rw [hW]; simp)
  have HW := Lib.hid hW.symm
  clear hW HH hc
  have l1 := run_loadNode H1.out
  have SO := Lib.hid (rsole_any c W.heap.size W GC.out.rd (Nat.le_refl _))
  obtain ⟨b, hb⟩ : ∃ b, b = soleB c := ⟨_, rfl⟩
  rw [← hb] at SO
  have EB := Lib.hid hb
  clear hb
  go_enter Try.func27, Try.ntmps27
  go_upto_region 1 with (fail)
  rw [HW.out]
  clear HW
  go_upto_region 2 with (go_at_call 48; refine SO.out.mono ?_; rintro e w1 ⟨rfl, hg⟩; have G1 := Lib.hid hg; clear hg)
  have K1 := Lib.hid (heap_up H1.out G1.out.b)
  have K2 := Lib.hid (heap_up H2.out G1.out.b)
  have K3 := Lib.hid (heap_up H3.out G1.out.b)
  have R1 := Lib.hid (show NRd w1 w.heap.size c from GC0.out.rd.below (BW.out.trans (G1.out.b.mono BW.out.size)))
  have B1 := Lib.hid (BW.out.trans (G1.out.b.mono BW.out.size))
  have S1 := Lib.hid (show w.heap.size + 3 ≤ w1.heap.size by have := G1.out.size; have := WS.out; omega)
  clear l1 H1 H2 H3 GC SO
  have k1 := run_loadNode K1.out
  have d0 := node_cellA K2.out (i := 0) (v := .int .i64 s.kind) rfl
  have d5 := node_cellA K2.out (i := 5) (v := .int .u64 s.hash) rfl
  have d6 := node_cellA K2.out (i := 6) (v := .string s.key) rfl
  have d7 := node_cellA K2.out (i := 7) (v := .int .u64 s.val) rfl
  by_cases h1 : b = true ∧ 0 < l ∧ s.kind = 4
  · obtain ⟨rfl, hl, hk⟩ := h1
    have E := Lib.hid (show ctrV c l s = tombN s by simp [ctrV, ctrB, ← EB.out, hl, hk])
    have hl' : l > 0 := hl
    rw [hk] at d0
    have st := run_storeNode (tombN s) K3.out rfl
    have TL := Lib.hid (tomb_lit s)
    have st' := st
    rw [TL.out] at st'
    clear st
    go_wp2_with fail
    rw [← TL.out]
    obtain ⟨X, hX⟩ : ∃ X, X = w1.setRow (w.heap.size + 1 + 1) (tombN s).cs := ⟨_, rfl⟩
    have hg : X.heap[w.heap.size + 1 + 1]? = some (.cells (tombN s).cs 28 (0, 0)) := by rw [hX]; exact setRow_heap w1 _ _ _ 28 (0, 0) K3.out
    have BX := Lib.hid (show Below w.heap.size w X by rw [hX]; exact below_setRow B1.out (Nat.le_trans (Nat.le_add_right _ 1) (Nat.le_add_right _ 1)) _)
    rw [← hX]
    clear hX st' d0 d5 d6 d7
    obtain ⟨d0, d1, d2, d3, d4, d5, d6, d7, d8, d9, d10, d11, d12, d13⟩ := node_vals hg
    clear hg
    exact bodyPost_ret (v := .agg (tombN s).cs) (by simp [results, Try.results27, go_sem, d0, d1, d2, d3, d4, d5, d6, d7, d8, d9, d10, d11, d12, d13, Nd.cs]) rfl ⟨_, rfl, by rw [E.out]; exact Vw.refl _, gn_tomb _ s, BX.out⟩
  · have E := Lib.hid (show ctrV c l s = c by
      have : ctrB c l s = false := by
        simp only [ctrB, ← EB.out]
        cases hb : b <;> simp
        intro hl hk
        exact h1 ⟨hb, hl, hk⟩
      simp [ctrV, this])
    have hh : b = false ∨ (b = true ∧ l ≤ 0) ∨ (b = true ∧ ¬ l ≤ 0 ∧ s.kind ≠ 4) := by
      cases b with
      | false => exact .inl rfl
      | true =>
        by_cases hl : l ≤ 0
        · exact .inr (.inl ⟨rfl, hl⟩)
        · exact .inr (.inr ⟨rfl, hl, fun hk => h1 ⟨rfl, by omega, hk⟩⟩)
    clear h1
    have st := run_storeNode c K3.out rfl
    rcases hh with rfl | ⟨rfl, hl⟩ | ⟨rfl, hl, hk⟩
    all_goals
      have hl0 : True := trivial
      try (have hl1 : ¬ l > 0 := by omega)
      try (have hl2 : l > 0 := by omega)
      go_wp2_with fail
      obtain ⟨X, hX⟩ : ∃ X, X = w1.setRow (w.heap.size + 1 + 1) c.cs := ⟨_, rfl⟩
      have hg : X.heap[w.heap.size + 1 + 1]? = some (.cells c.cs 28 (0, 0)) := by rw [hX]; exact setRow_heap w1 _ _ _ 28 (0, 0) K3.out
      have BX := Lib.hid (show Below w.heap.size w X by rw [hX]; exact below_setRow B1.out (Nat.le_trans (Nat.le_add_right _ 1) (Nat.le_add_right _ 1)) _)
      have GX := Lib.hid (show GN X c by rw [hX]; exact gn_setRow' R1.out GC0.out.ba GC0.out.pa GC0.out.bc GC0.out.pc (Nat.le_trans (Nat.le_add_right _ 1) (Nat.le_add_right _ 1)) B1.out.size _)
      rw [← hX]
      clear hX st d0 d5 d6 d7
      obtain ⟨d0, d1, d2, d3, d4, d5, d6, d7, d8, d9, d10, d11, d12, d13⟩ := node_vals hg
      clear hg
      exact bodyPost_ret (v := .agg c.cs) (by simp [results, Try.results27, go_sem, d0, d1, d2, d3, d4, d5, d6, d7, d8, d9, d10, d11, d12, d13, Nd.cs]) rfl ⟨_, rfl, by rw [E.out]; exact Vw.refl _, GX.out, BX.out⟩
set_option maxHeartbeats 8000000 in
theorem untombed_any (t : Nd) (w : World) : Calls Try.prog 14 #[.agg t.cs] w (TPost (untB t) (untV t) w) := by
  obtain ⟨W, hW⟩ : ∃ W, W = (w.alloc (.cells t.cs 28)).alloc (.cells #[.int .i64 0, .int .i64 0, .int .i64 0, .int .u64 0, .slice none 0 0, .int .u64 0, .string ⟨#[]⟩, .int .u64 0, .slice none 0 0, .int .i64 0, .int .i64 0, .int .i64 0, .int .i64 0, .int .i64 0] 28) := ⟨_, rfl⟩
  have BW := Lib.hid (show Below w.heap.size w W by rw [hW]; exact (alloc_below w _).alloc (by simp) _)
  have H1 := Lib.hid (show W.heap[w.heap.size]? = some (.cells t.cs 28 (0, 0)) by rw [hW]; exact (Below.heap_alloc _ _ _ (by simp)).trans (heap_alloc_new w _))
  have H3 := Lib.hid (show W.heap[w.heap.size + 1]? = some (.cells #[.int .i64 0, .int .i64 0, .int .i64 0, .int .u64 0, .slice none 0 0, .int .u64 0, .string ⟨#[]⟩, .int .u64 0, .slice none 0 0, .int .i64 0, .int .i64 0, .int .i64 0, .int .i64 0, .int .i64 0] 28 (0, 0)) by rw [hW]; have := heap_alloc_new (w.alloc (.cells t.cs 28)) (.cells #[.int .i64 0, .int .i64 0, .int .i64 0, .int .u64 0, .slice none 0 0, .int .u64 0, .string ⟨#[]⟩, .int .u64 0, .slice none 0 0, .int .i64 0, .int .i64 0, .int .i64 0, .int .i64 0, .int .i64 0] 28); simpa using this)
  have HW := Lib.hid hW.symm
  clear hW
  have d0 := node_cellA H1.out (i := 0) (v := .int .i64 t.kind) rfl
  have d5 := node_cellA H1.out (i := 5) (v := .int .u64 t.hash) rfl
  have d6 := node_cellA H1.out (i := 6) (v := .string t.key) rfl
  have d7 := node_cellA H1.out (i := 7) (v := .int .u64 t.val) rfl
  by_cases hk : t.kind = 5
  · have E1 := Lib.hid (show untB t = true by simp [untB, hk])
    have E2 := Lib.hid (show untV t = singN t by simp [untV, untB, hk])
    rw [hk] at d0
    have SG := Lib.hid (sing_n t W)
    go_enter Try.func14, Try.ntmps14
    go_upto_region 1 with (fail)
    rw [HW.out]
    go_wp2_with (go_at_call 30; refine SG.out.mono ?_; rintro e w2 ⟨rfl, hg⟩; have G2 := Lib.hid hg; have st := run_storeNode (singN t) (heap_up H3.out hg.b) rfl; clear hg)
    obtain ⟨X, hX⟩ : ∃ X, X = w2.setRow (w.heap.size + 1) (singN t).cs := ⟨_, rfl⟩
    have hg : X.heap[w.heap.size + 1]? = some (.cells (singN t).cs 28 (0, 0)) := by rw [hX]; exact setRow_heap w2 _ _ _ 28 (0, 0) (heap_up H3.out G2.out.b)
    have BX := Lib.hid (show Below w.heap.size w X by rw [hX]; exact below_setRow (BW.out.trans (G2.out.b.mono BW.out.size)) (Nat.le_add_right _ 1) _)
    rw [← hX]
    clear hX st d0 d5 d6 d7
    obtain ⟨d0, d1, d2, d3, d4, d5, d6, d7, d8, d9, d10, d11, d12, d13⟩ := node_vals hg
    clear hg
    exact bodyPost_ret (v := .tuple #[.agg (singN t).cs, .bool true]) (by simp [results, Try.results14, go_sem, d0, d1, d2, d3, d4, d5, d6, d7, d8, d9, d10, d11, d12, d13, Nd.cs]) rfl ⟨_, by rw [E1.out], by rw [E2.out]; exact Vw.refl _, gn_sing _ t, BX.out⟩
  · have E1 := Lib.hid (show untB t = false by simp [untB, hk])
    have E2 := Lib.hid (show untV t = Nd.zero by simp [untV, untB, hk])
    have st := run_storeNode Nd.zero H3.out rfl
    rw [zero_lit] at st
    go_enter Try.func14, Try.ntmps14
    go_upto_region 1 with (fail)
    rw [HW.out]
    go_wp2_with fail
    obtain ⟨X, hX⟩ : ∃ X, X = W.setRow (w.heap.size + 1) #[.int .i64 0, .int .i64 0, .int .i64 0, .int .u64 0, .slice none 0 0, .int .u64 0, .string ⟨#[]⟩, .int .u64 0, .slice none 0 0, .int .i64 0, .int .i64 0, .int .i64 0, .int .i64 0, .int .i64 0] := ⟨_, rfl⟩
    have hg : X.heap[w.heap.size + 1]? = some (.cells Nd.zero.cs 28 (0, 0)) := by rw [hX]; exact setRow_heap W _ _ _ 28 (0, 0) H3.out
    have BX := Lib.hid (show Below w.heap.size w X by rw [hX]; exact below_setRow BW.out (Nat.le_add_right _ 1) _)
    rw [← hX]
    clear hX st d0 d5 d6 d7
    obtain ⟨d0, d1, d2, d3, d4, d5, d6, d7, d8, d9, d10, d11, d12, d13⟩ := node_vals hg
    clear hg
    exact bodyPost_ret (v := .tuple #[.agg Nd.zero.cs, .bool false]) (by simp [results, Try.results14, go_sem, d0, d1, d2, d3, d4, d5, d6, d7, d8, d9, d10, d11, d12, d13, Nd.cs]) rfl ⟨_, by rw [E1.out], by rw [E2.out]; exact Vw.refl _, gn_zero _, BX.out⟩
set_option maxHeartbeats 8000000 in
theorem runtombed_any (t : Nd) (w : World) : Calls Try.prog 24 #[.agg t.cs] w (TPost (untB t) (untV t) w) := by
  obtain ⟨W, hW⟩ : ∃ W, W = (w.alloc (.cells t.cs 28)).alloc (.cells #[.int .i64 0, .int .i64 0, .int .i64 0, .int .u64 0, .slice none 0 0, .int .u64 0, .string ⟨#[]⟩, .int .u64 0, .slice none 0 0, .int .i64 0, .int .i64 0, .int .i64 0, .int .i64 0, .int .i64 0] 28) := ⟨_, rfl⟩
  have BW := Lib.hid (show Below w.heap.size w W by rw [hW]; exact (alloc_below w _).alloc (by simp) _)
  have H1 := Lib.hid (show W.heap[w.heap.size]? = some (.cells t.cs 28 (0, 0)) by rw [hW]; exact (Below.heap_alloc _ _ _ (by simp)).trans (heap_alloc_new w _))
  have H3 := Lib.hid (show W.heap[w.heap.size + 1]? = some (.cells #[.int .i64 0, .int .i64 0, .int .i64 0, .int .u64 0, .slice none 0 0, .int .u64 0, .string ⟨#[]⟩, .int .u64 0, .slice none 0 0, .int .i64 0, .int .i64 0, .int .i64 0, .int .i64 0, .int .i64 0] 28 (0, 0)) by rw [hW]; have := heap_alloc_new (w.alloc (.cells t.cs 28)) (.cells #[.int .i64 0, .int .i64 0, .int .i64 0, .int .u64 0, .slice none 0 0, .int .u64 0, .string ⟨#[]⟩, .int .u64 0, .slice none 0 0, .int .i64 0, .int .i64 0, .int .i64 0, .int .i64 0, .int .i64 0] 28); simpa using this)
  have HW := Lib.hid hW.symm
  clear hW
  have d0 := node_cellA H1.out (i := 0) (v := .int .i64 t.kind) rfl
  have d5 := node_cellA H1.out (i := 5) (v := .int .u64 t.hash) rfl
  have d6 := node_cellA H1.out (i := 6) (v := .string t.key) rfl
  have d7 := node_cellA H1.out (i := 7) (v := .int .u64 t.val) rfl
  by_cases hk : t.kind = 5
  · have E1 := Lib.hid (show untB t = true by simp [untB, hk])
    have E2 := Lib.hid (show untV t = singN t by simp [untV, untB, hk])
    rw [hk] at d0
    have TL := Lib.hid (sing_lit t)
    have st := run_storeNode (singN t) H3.out rfl
    rw [TL.out] at st
    go_enter Try.func24, Try.ntmps24
    go_upto_region 1 with (fail)
    rw [HW.out]
    go_wp2_with fail
    rw [← TL.out]
    obtain ⟨X, hX⟩ : ∃ X, X = W.setRow (w.heap.size + 1) (singN t).cs := ⟨_, rfl⟩
    have hg : X.heap[w.heap.size + 1]? = some (.cells (singN t).cs 28 (0, 0)) := by rw [hX]; exact setRow_heap W _ _ _ 28 (0, 0) H3.out
    have BX := Lib.hid (show Below w.heap.size w X by rw [hX]; exact below_setRow BW.out (Nat.le_add_right _ 1) _)
    rw [← hX]
    clear hX st d0 d5 d6 d7
    obtain ⟨d0, d1, d2, d3, d4, d5, d6, d7, d8, d9, d10, d11, d12, d13⟩ := node_vals hg
    clear hg
    exact bodyPost_ret (v := .tuple #[.agg (singN t).cs, .bool true]) (by simp [results, Try.results24, go_sem, d0, d1, d2, d3, d4, d5, d6, d7, d8, d9, d10, d11, d12, d13, Nd.cs]) rfl ⟨_, by rw [E1.out], by rw [E2.out]; exact Vw.refl _, gn_sing _ t, BX.out⟩
  · have E1 := Lib.hid (show untB t = false by simp [untB, hk])
    have E2 := Lib.hid (show untV t = Nd.zero by simp [untV, untB, hk])
    have st := run_storeNode Nd.zero H3.out rfl
    rw [zero_lit] at st
    go_enter Try.func24, Try.ntmps24
    go_upto_region 1 with (fail)
    rw [HW.out]
    go_wp2_with fail
    obtain ⟨X, hX⟩ : ∃ X, X = W.setRow (w.heap.size + 1) #[.int .i64 0, .int .i64 0, .int .i64 0, .int .u64 0, .slice none 0 0, .int .u64 0, .string ⟨#[]⟩, .int .u64 0, .slice none 0 0, .int .i64 0, .int .i64 0, .int .i64 0, .int .i64 0, .int .i64 0] := ⟨_, rfl⟩
    have hg : X.heap[w.heap.size + 1]? = some (.cells Nd.zero.cs 28 (0, 0)) := by rw [hX]; exact setRow_heap W _ _ _ 28 (0, 0) H3.out
    have BX := Lib.hid (show Below w.heap.size w X by rw [hX]; exact below_setRow BW.out (Nat.le_add_right _ 1) _)
    rw [← hX]
    clear hX st d0 d5 d6 d7
    obtain ⟨d0, d1, d2, d3, d4, d5, d6, d7, d8, d9, d10, d11, d12, d13⟩ := node_vals hg
    clear hg
    exact bodyPost_ret (v := .tuple #[.agg Nd.zero.cs, .bool false]) (by simp [results, Try.results24, go_sem, d0, d1, d2, d3, d4, d5, d6, d7, d8, d9, d10, d11, d12, d13, Nd.cs]) rfl ⟨_, by rw [E1.out], by rw [E2.out]; exact Vw.refl _, gn_zero _, BX.out⟩
end Go.Proofs.Ytpopoihggomfiaa
