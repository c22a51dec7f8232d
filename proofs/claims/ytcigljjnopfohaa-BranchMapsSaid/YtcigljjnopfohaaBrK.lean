/-
  Layer 6: the walks of the reference's Inserted, Updated and Removed.
-/
import Derived.Test.YtcigljjnopfohaaBrH
import Derived.Test.YtcigljjnopfohaaBrI
import Derived.Test.YtcigljjnopfohaaBrJ
set_option linter.unusedVariables false
set_option maxRecDepth 100000
namespace Go.Proofs.Ytcigljjnopfohaa
open Go.Shelf Go.RowKit Go.Lib Go.Sort
attribute [local go_sem ↓] exec_load28 exec_storeN

theorem bv_ins {n : Nd} {i r : Int} (h : Ok n.bm n.bs) (hi : inr i = true) (hn : hasB n.bm i = false) (hr : 0 < r) : BV n i r (withI n.bm i) (insL n.bm n.bs i r) := fun j hj => by
  rw [lk_ins h hi hn j hj, if_pos hr]
theorem bv_upd {n : Nd} {i r : Int} (h : Ok n.bm n.bs) (hi : hasB n.bm i = true) (hr : 0 < r) : BV n i r n.bm (updL n.bm n.bs i r) := fun j hj => by
  rw [lk_upd h hi j hj, if_pos hr]
theorem bv_rem {n : Nd} {i : Int} (h : Ok n.bm n.bs) (hi : hasB n.bm i = true) : BV n i 0 (wtoI n.bm i) (remL n.bm n.bs i) := fun j hj => by
  rw [lk_rem h hi j hj, if_neg (show ¬ (0 : Int) < 0 by omega)]
/-- What is known once build has returned. -/
theorem build_st (w1 : World) (s : Nat) (n : Nd) (i r T : Int) (L : List Int) (h : GN w1 n) (hc : isC n = true) (hT : Ok T L) (hv : BV n i r T L) (hl : L.length ≤ 1000) (hz : w1.heap[s]? = some (.cells zV 28 (0, 0))) :
    Calls Try.prog 46 #[.agg n.cs, .int .i64 i, .int .i64 r] w1 fun e w' => ∃ A c, e = .returned (.agg (mkC T A c L).cs) ∧ Sem.run Try.prog (storeNode (.pointer (some ⟨s, 0, none⟩)) (.agg (mkC T A c L).cs)) w' = .ok () (w'.setRow s (mkC T A c L).cs) ∧
      (w'.setRow s (mkC T A c L).cs).heap[s]? = some (.cells (mkC T A c L).cs 28 (0, 0)) ∧ GN (w'.setRow s (mkC T A c L).cs) (mkC T A c L) ∧ (∀ ad, A = some ad → w1.heap.size ≤ ad.block) ∧ Below w1.heap.size w1 w' :=
  (build_any n i r T L w1 h hc hT hv).mono fun e w' ⟨A, c, he, hr, ha, hc, hf, hb⟩ => by
    have hs := (Array.getElem?_eq_some_iff.1 hz).1
    have h6 : w'.heap[s]? = some (.cells zV 28 (0, 0)) := (hb.block s hs).trans hz
    exact ⟨A, c, he, run_storeNode _ h6 rfl, setRow_heap w' s _ _ 28 (0, 0) h6, gn_C hT.1 (rdR_setRow hr (fun ad e => by have := hf ad e; omega) _) ha hc hl, hf, hb⟩

theorem sp_ins {n : Nd} {i r : Int} (h : isC n = false ∨ hasB n.bm i = true ∨ i < 0 ∨ 63 < i ∨ r < 1) :
    isC n = false ∨ (isC n = true ∧ hasB n.bm i = true) ∨ (isC n = true ∧ hasB n.bm i = false ∧ i < 0) ∨ (isC n = true ∧ hasB n.bm i = false ∧ ¬ i < 0 ∧ 63 < i) ∨ (isC n = true ∧ hasB n.bm i = false ∧ ¬ i < 0 ∧ ¬ 63 < i ∧ r < 1) := by
  cases a : isC n <;> cases c : hasB n.bm i <;> simp [a, c] at h ⊢; omega
theorem no_ins {n : Nd} {i r : Int} (h : isC n = false ∨ hasB n.bm i = true ∨ i < 0 ∨ 63 < i ∨ r < 1) : insOk n i r = false := by
  refine gt_ins_no ?_
  rcases h with h | h | h | h | h
  · exact .inl h
  · exact .inr (.inr (.inl h))
  · exact .inr (.inl ((inr_not i).2 (by omega)))
  · exact .inr (.inl ((inr_not i).2 (by omega)))
  · exact .inr (.inr (.inr h))
theorem yes_ins {n : Nd} {i r : Int} (h : ¬ (isC n = false ∨ hasB n.bm i = true ∨ i < 0 ∨ 63 < i ∨ r < 1)) : isC n = true ∧ hasB n.bm i = false ∧ ¬ i < 0 ∧ ¬ 63 < i ∧ ¬ r < 1 := by
  cases a : isC n <;> cases c : hasB n.bm i <;> simp [a, c] at h ⊢; omega
theorem sp_upd {n : Nd} {i r : Int} (h : isC n = false ∨ hasB n.bm i = false ∨ r < 1) : isC n = false ∨ (isC n = true ∧ hasB n.bm i = false) ∨ (isC n = true ∧ hasB n.bm i = true ∧ r < 1) := by
  cases a : isC n <;> cases c : hasB n.bm i <;> simp [a, c] at h ⊢; exact h
theorem yes_upd {n : Nd} {i r : Int} (h : ¬ (isC n = false ∨ hasB n.bm i = false ∨ r < 1)) : isC n = true ∧ hasB n.bm i = true ∧ ¬ r < 1 := by
  cases a : isC n <;> cases c : hasB n.bm i <;> simp [a, c] at h ⊢; exact h
theorem sp_rem {n : Nd} {i : Int} (h : isC n = false ∨ hasB n.bm i = false) : isC n = false ∨ (isC n = true ∧ hasB n.bm i = false) := by
  cases a : isC n <;> cases c : hasB n.bm i <;> simp [a, c] at h ⊢
theorem yes_rem {n : Nd} {i : Int} (h : ¬ (isC n = false ∨ hasB n.bm i = false)) : isC n = true ∧ hasB n.bm i = true := by
  cases a : isC n <;> cases c : hasB n.bm i <;> simp [a, c] at h ⊢
set_option maxHeartbeats 8000000 in
theorem rinserted_any (n : Nd) (i r : Int) (w : World) (h : GN w n) : Calls Try.prog 27 #[.agg n.cs, .int .i64 i, .int .i64 r] w (CPost (insOk n i r) (withI n.bm i) (insL n.bm n.bs i r) w) := by
  obtain ⟨W, hW⟩ : ∃ W, W = (w.alloc (.cells n.cs 28)).alloc (.cells zV 28) := ⟨_, rfl⟩
  have GW := Lib.hid (show Gr w W by rw [hW]; exact ((Gr.refl w).alloc _).alloc _)
  have hg : W.heap[w.heap.size]? = some (.cells n.cs 28 (0, 0)) := by rw [hW]; exact (Below.heap_alloc _ _ _ (by simp)).trans (heap_alloc_new w _)
  have hz : W.heap[w.heap.size + 1]? = some (.cells zV 28 (0, 0)) := by rw [hW]; have := heap_alloc_new (w.alloc (.cells n.cs 28)) (.cells zV 28); simpa using this
  have HZ := Lib.hid hz
  have HGB := Lib.hid hg
  have lv := run_loadNode hg
  have LK := Lib.hid (rlookup_any n i w.heap.size W (h.rd.gr (Nat.le_refl _) GW.out) GW.out.size)
  have IS := Lib.hid (fun V (hV : Gr W V) => is_any n w.heap.size V ((h.rd.gr (Nat.le_refl _) GW.out).gr GW.out.size hV) (Nat.le_trans GW.out.size hV.size))
  have SZ := Lib.hid (fun V (hV : Gr W V) => run_storeZ (heap_up hz hV.b))
  have LV := Lib.hid (fun V (hV : Gr W V) => run_loadNode (heap_up hg hV.b))
  have HW := Lib.hid (show (w.alloc (.cells n.cs 28)).alloc (.cells #[.int .i64 0, .int .i64 0, .int .i64 0, .int .u64 0, .slice none 0 0, .int .u64 0, .string ⟨#[]⟩, .int .u64 0, .slice none 0 0, .int .i64 0, .int .i64 0, .int .i64 0, .int .i64 0, .int .i64 0] 28) = W from hW.symm)
  have HH := Lib.hid h
  have EL := Lib.hid (show lookB n i = (isC n && hasB n.bm i) from rfl)
  clear h hg hz hW
  by_cases hno : isC n = false ∨ hasB n.bm i = true ∨ i < 0 ∨ 63 < i ∨ r < 1
  · have E := Lib.hid (show (insOk n i r) = false from no_ins hno)
    clear HH
    rcases (sp_ins hno) with h1 | ⟨h1, h3⟩ | ⟨h1, h3, h4⟩ | ⟨h1, h3, h4, h5⟩ | ⟨h1, h3, h4, h5, h6⟩
    all_goals
      rw [h1] at EL
      try rw [h1] at IS
      try rw [h3] at EL
      rw [EL.out] at LK
      go_enter Try.func27, Try.ntmps27
      go_upto_region 1 with (fail)
      rw [HW.out]
      go_wp2_with (first
        | (go_at_call 24; refine LK.out.mono ?_; rintro e w1 ⟨rfl, hg⟩; have G := Lib.hid hg; have st := SZ.out w1 hg; have lw := LV.out w1 hg; clear hg)
        | (go_at_call 44; refine (IS.out _ G.out).mono ?_; rintro e w2 ⟨rfl, hg⟩; have G := Lib.hid (G.out.trans hg); have st := SZ.out w2 G.out; have lw := LV.out w2 G.out; clear hg))
      have hX := setRow_heap w2 (w.heap.size + 1) _ zV 28 (0, 0) (heap_up HZ.out G.out.b)
      have BX := Lib.hid (below_setRow (w := w) (V := w2) (b := w.heap.size + 1) (GW.out.b.trans (G.out.b.mono GW.out.size)) (by omega) zV)
      generalize w2.setRow (w.heap.size + 1) zV = X at hX BX ⊢
      obtain ⟨d0, d1, d2, d3', d4, d5, d6, d7, d8, d9, d10, d11, d12, d13⟩ := node_vals (n := Nd.zero) hX
      clear hX
      exact bodyPost_ret (v := .tuple #[.agg Nd.zero.cs, .bool false]) (by simp [results, Try.results27, go_sem, d0, d1, d2, d3', d4, d5, d6, d7, d8, d9, d10, d11, d12, d13, Nd.cs, Nd.zero]) rfl (gn_none BX.out rfl E.out)
  · obtain ⟨h1, h3, h4, h5, h6⟩ := yes_ins hno
    have E := Lib.hid (show (insOk n i r) = true by unfold insOk; rw [h1, h3, (inr_iff i).2 (by omega), show decide (1 ≤ r) = true from decide_eq_true (by omega)]; rfl)
    have HO := Lib.hid (isC_Ok h1 HH.out.rd)
    have hl64 : n.bs.length ≤ 64 := by have := HO.out.2; have := (cnt_range n.bm).2; omega
    have OKI := Lib.hid (ok_ins (r := r) HO.out ((inr_iff i).2 (by omega)) h3)
    have LI := Lib.hid (len_ins (i := i) (r := r) HO.out)
    have BVF := Lib.hid (bv_ins (r := r) HO.out ((inr_iff i).2 (by omega)) h3 (by omega))
    have BS := Lib.hid (fun V (hV : Gr W V) => build_st V (w.heap.size + 1) n i r (withI n.bm i) (insL n.bm n.bs i r) (HH.out.up (GW.out.b.trans (hV.b.mono GW.out.size))) h1 OKI.out BVF.out (by have := LI.out; omega) (heap_up HZ.out hV.b))
    rw [h1, h3] at EL
    rw [EL.out] at LK
    rw [h1] at IS
    clear hno h1 h3 HH EL
    go_enter Try.func27, Try.ntmps27
    go_upto_region 1 with (fail)
    rw [HW.out]
    go_wp2_with (first
        | (go_at_call 24; refine LK.out.mono ?_; rintro e w1 ⟨rfl, hg⟩; have G := Lib.hid hg; have st := SZ.out w1 hg; have lw := LV.out w1 hg; clear hg)
        | (go_at_call 44; refine (IS.out _ G.out).mono ?_; rintro e w2 ⟨rfl, hg⟩; have G := Lib.hid (G.out.trans hg); have st := SZ.out w2 G.out; have lw := LV.out w2 G.out; clear hg)
        | (go_at_call 46; refine (BS.out _ G.out).mono ?_; rintro e w6 ⟨A5, c5, rfl, st6, hX6, g6, hf6, hb6⟩; have F6 := Lib.hid hf6; have HX := Lib.hid hX6; have G6 := Lib.hid g6; have B6 := Lib.hid hb6; clear hX6 g6 hb6 hf6))
    have hX := HX.out
    have PX := Lib.hid (gn_made (w := w) (below_setRow (w := w) (V := w6) (b := w.heap.size + 1) ((GW.out.b.trans (G.out.b.mono GW.out.size)).trans (B6.out.mono (Nat.le_trans GW.out.size G.out.size))) (by omega) _) rfl E.out G6.out (fun ad e => Nat.le_trans (Nat.le_trans GW.out.size G.out.size) (F6.out ad e)))
    clear st6 HX G6
    generalize (w6.setRow (w.heap.size + 1) (mkC (withI n.bm i) A5 c5 (insL n.bm n.bs i r)).cs) = X at hX PX ⊢
    obtain ⟨d0, d1, d2, d3', d4', d5, d6, d7, d8, d9, d10, d11, d12, d13⟩ := node_vals hX
    clear hX
    exact bodyPost_ret (v := .tuple #[.agg (mkC (withI n.bm i) A5 c5 (insL n.bm n.bs i r)).cs, .bool true]) (by simp [results, Try.results27, go_sem, d0, d1, d2, d3', d4', d5, d6, d7, d8, d9, d10, d11, d12, d13, Nd.cs]) rfl PX.out
set_option maxHeartbeats 8000000 in
theorem rupdated_any (n : Nd) (i r : Int) (w : World) (h : GN w n) : Calls Try.prog 28 #[.agg n.cs, .int .i64 i, .int .i64 r] w (CPost (updOk n i r) n.bm (updL n.bm n.bs i r) w) := by
  obtain ⟨W, hW⟩ : ∃ W, W = (w.alloc (.cells n.cs 28)).alloc (.cells zV 28) := ⟨_, rfl⟩
  have GW := Lib.hid (show Gr w W by rw [hW]; exact ((Gr.refl w).alloc _).alloc _)
  have hg : W.heap[w.heap.size]? = some (.cells n.cs 28 (0, 0)) := by rw [hW]; exact (Below.heap_alloc _ _ _ (by simp)).trans (heap_alloc_new w _)
  have hz : W.heap[w.heap.size + 1]? = some (.cells zV 28 (0, 0)) := by rw [hW]; have := heap_alloc_new (w.alloc (.cells n.cs 28)) (.cells zV 28); simpa using this
  have HZ := Lib.hid hz
  have HGB := Lib.hid hg
  have lv := run_loadNode hg
  have LK := Lib.hid (rlookup_any n i w.heap.size W (h.rd.gr (Nat.le_refl _) GW.out) GW.out.size)
  have IS := Lib.hid (fun V (hV : Gr W V) => is_any n w.heap.size V ((h.rd.gr (Nat.le_refl _) GW.out).gr GW.out.size hV) (Nat.le_trans GW.out.size hV.size))
  have SZ := Lib.hid (fun V (hV : Gr W V) => run_storeZ (heap_up hz hV.b))
  have LV := Lib.hid (fun V (hV : Gr W V) => run_loadNode (heap_up hg hV.b))
  have HW := Lib.hid (show (w.alloc (.cells n.cs 28)).alloc (.cells #[.int .i64 0, .int .i64 0, .int .i64 0, .int .u64 0, .slice none 0 0, .int .u64 0, .string ⟨#[]⟩, .int .u64 0, .slice none 0 0, .int .i64 0, .int .i64 0, .int .i64 0, .int .i64 0, .int .i64 0] 28) = W from hW.symm)
  have HH := Lib.hid h
  have EL := Lib.hid (show lookB n i = (isC n && hasB n.bm i) from rfl)
  clear h hg hz hW
  by_cases hno : isC n = false ∨ hasB n.bm i = false ∨ r < 1
  · have E := Lib.hid (show (updOk n i r) = false from gt_upd_no hno)
    clear HH
    rcases (sp_upd hno) with h1 | ⟨h1, h3⟩ | ⟨h1, h3, h4⟩
    all_goals
      rw [h1] at EL
      try rw [h1] at IS
      try rw [h3] at EL
      rw [EL.out] at LK
      go_enter Try.func28, Try.ntmps28
      go_upto_region 1 with (fail)
      rw [HW.out]
      go_wp2_with (first
        | (go_at_call 24; refine LK.out.mono ?_; rintro e w1 ⟨rfl, hg⟩; have G := Lib.hid hg; have st := SZ.out w1 hg; have lw := LV.out w1 hg; clear hg))
      have hX := setRow_heap w1 (w.heap.size + 1) _ zV 28 (0, 0) (heap_up HZ.out G.out.b)
      have BX := Lib.hid (below_setRow (w := w) (V := w1) (b := w.heap.size + 1) (GW.out.b.trans (G.out.b.mono GW.out.size)) (by omega) zV)
      generalize w1.setRow (w.heap.size + 1) zV = X at hX BX ⊢
      obtain ⟨d0, d1, d2, d3', d4, d5, d6, d7, d8, d9, d10, d11, d12, d13⟩ := node_vals (n := Nd.zero) hX
      clear hX
      exact bodyPost_ret (v := .tuple #[.agg Nd.zero.cs, .bool false]) (by simp [results, Try.results28, go_sem, d0, d1, d2, d3', d4, d5, d6, d7, d8, d9, d10, d11, d12, d13, Nd.cs, Nd.zero]) rfl (gn_none BX.out rfl E.out)
  · obtain ⟨h1, h3, h4⟩ := yes_upd hno
    have E := Lib.hid (show (updOk n i r) = true by unfold updOk; rw [h1, h3, show decide (1 ≤ r) = true from decide_eq_true (by omega)]; rfl)
    have HO := Lib.hid (isC_Ok h1 HH.out.rd)
    have hl64 : n.bs.length ≤ 64 := by have := HO.out.2; have := (cnt_range n.bm).2; omega
    have OKI := Lib.hid (ok_upd (r := r) HO.out h3)
    have LI := Lib.hid (len_upd (i := i) (r := r) HO.out h3)
    have BVF := Lib.hid (bv_upd (r := r) HO.out h3 (by omega))
    have BS := Lib.hid (fun V (hV : Gr W V) => build_st V (w.heap.size + 1) n i r n.bm (updL n.bm n.bs i r) (HH.out.up (GW.out.b.trans (hV.b.mono GW.out.size))) h1 OKI.out BVF.out (by have := LI.out; omega) (heap_up HZ.out hV.b))
    rw [h1, h3] at EL
    rw [EL.out] at LK
    rw [h1] at IS
    clear hno h1 h3 HH EL
    go_enter Try.func28, Try.ntmps28
    go_upto_region 1 with (fail)
    rw [HW.out]
    go_wp2_with (first
        | (go_at_call 24; refine LK.out.mono ?_; rintro e w1 ⟨rfl, hg⟩; have G := Lib.hid hg; have st := SZ.out w1 hg; have lw := LV.out w1 hg; clear hg)
        | (go_at_call 46; refine (BS.out _ G.out).mono ?_; rintro e w6 ⟨A5, c5, rfl, st6, hX6, g6, hf6, hb6⟩; have F6 := Lib.hid hf6; have HX := Lib.hid hX6; have G6 := Lib.hid g6; have B6 := Lib.hid hb6; clear hX6 g6 hb6 hf6))
    have hX := HX.out
    have PX := Lib.hid (gn_made (w := w) (below_setRow (w := w) (V := w6) (b := w.heap.size + 1) ((GW.out.b.trans (G.out.b.mono GW.out.size)).trans (B6.out.mono (Nat.le_trans GW.out.size G.out.size))) (by omega) _) rfl E.out G6.out (fun ad e => Nat.le_trans (Nat.le_trans GW.out.size G.out.size) (F6.out ad e)))
    clear st6 HX G6
    generalize (w6.setRow (w.heap.size + 1) (mkC n.bm A5 c5 (updL n.bm n.bs i r)).cs) = X at hX PX ⊢
    obtain ⟨d0, d1, d2, d3', d4', d5, d6, d7, d8, d9, d10, d11, d12, d13⟩ := node_vals hX
    clear hX
    exact bodyPost_ret (v := .tuple #[.agg (mkC n.bm A5 c5 (updL n.bm n.bs i r)).cs, .bool true]) (by simp [results, Try.results28, go_sem, d0, d1, d2, d3', d4', d5, d6, d7, d8, d9, d10, d11, d12, d13, Nd.cs]) rfl PX.out
set_option maxHeartbeats 8000000 in
theorem rremoved_any (n : Nd) (i : Int) (w : World) (h : GN w n) : Calls Try.prog 29 #[.agg n.cs, .int .i64 i] w (CPost (remOk n i) (wtoI n.bm i) (remL n.bm n.bs i) w) := by
  obtain ⟨W, hW⟩ : ∃ W, W = (w.alloc (.cells n.cs 28)).alloc (.cells zV 28) := ⟨_, rfl⟩
  have GW := Lib.hid (show Gr w W by rw [hW]; exact ((Gr.refl w).alloc _).alloc _)
  have hg : W.heap[w.heap.size]? = some (.cells n.cs 28 (0, 0)) := by rw [hW]; exact (Below.heap_alloc _ _ _ (by simp)).trans (heap_alloc_new w _)
  have hz : W.heap[w.heap.size + 1]? = some (.cells zV 28 (0, 0)) := by rw [hW]; have := heap_alloc_new (w.alloc (.cells n.cs 28)) (.cells zV 28); simpa using this
  have HZ := Lib.hid hz
  have HGB := Lib.hid hg
  have lv := run_loadNode hg
  have LK := Lib.hid (rlookup_any n i w.heap.size W (h.rd.gr (Nat.le_refl _) GW.out) GW.out.size)
  have IS := Lib.hid (fun V (hV : Gr W V) => is_any n w.heap.size V ((h.rd.gr (Nat.le_refl _) GW.out).gr GW.out.size hV) (Nat.le_trans GW.out.size hV.size))
  have SZ := Lib.hid (fun V (hV : Gr W V) => run_storeZ (heap_up hz hV.b))
  have LV := Lib.hid (fun V (hV : Gr W V) => run_loadNode (heap_up hg hV.b))
  have HW := Lib.hid (show (w.alloc (.cells n.cs 28)).alloc (.cells #[.int .i64 0, .int .i64 0, .int .i64 0, .int .u64 0, .slice none 0 0, .int .u64 0, .string ⟨#[]⟩, .int .u64 0, .slice none 0 0, .int .i64 0, .int .i64 0, .int .i64 0, .int .i64 0, .int .i64 0] 28) = W from hW.symm)
  have HH := Lib.hid h
  have EL := Lib.hid (show lookB n i = (isC n && hasB n.bm i) from rfl)
  clear h hg hz hW
  by_cases hno : isC n = false ∨ hasB n.bm i = false
  · have E := Lib.hid (show (remOk n i) = false from gt_rem_no hno)
    clear HH
    rcases (sp_rem hno) with h1 | ⟨h1, h3⟩
    all_goals
      rw [h1] at EL
      try rw [h1] at IS
      try rw [h3] at EL
      rw [EL.out] at LK
      go_enter Try.func29, Try.ntmps29
      go_upto_region 1 with (fail)
      rw [HW.out]
      go_wp2_with (first
        | (go_at_call 24; refine LK.out.mono ?_; rintro e w1 ⟨rfl, hg⟩; have G := Lib.hid hg; have st := SZ.out w1 hg; have lw := LV.out w1 hg; clear hg))
      have hX := setRow_heap w1 (w.heap.size + 1) _ zV 28 (0, 0) (heap_up HZ.out G.out.b)
      have BX := Lib.hid (below_setRow (w := w) (V := w1) (b := w.heap.size + 1) (GW.out.b.trans (G.out.b.mono GW.out.size)) (by omega) zV)
      generalize w1.setRow (w.heap.size + 1) zV = X at hX BX ⊢
      obtain ⟨d0, d1, d2, d3', d4, d5, d6, d7, d8, d9, d10, d11, d12, d13⟩ := node_vals (n := Nd.zero) hX
      clear hX
      exact bodyPost_ret (v := .tuple #[.agg Nd.zero.cs, .bool false]) (by simp [results, Try.results29, go_sem, d0, d1, d2, d3', d4, d5, d6, d7, d8, d9, d10, d11, d12, d13, Nd.cs, Nd.zero]) rfl (gn_none BX.out rfl E.out)
  · obtain ⟨h1, h3⟩ := yes_rem hno
    have E := Lib.hid (show (remOk n i) = true by unfold remOk; rw [h1, h3]; rfl)
    have HO := Lib.hid (isC_Ok h1 HH.out.rd)
    have hl64 : n.bs.length ≤ 64 := by have := HO.out.2; have := (cnt_range n.bm).2; omega
    have OKI := Lib.hid (ok_rem HO.out h3)
    have LI := Lib.hid (len_rem HO.out h3)
    have BVF := Lib.hid (bv_rem HO.out h3)
    have BS := Lib.hid (fun V (hV : Gr W V) => build_st V (w.heap.size + 1) n i 0 (wtoI n.bm i) (remL n.bm n.bs i) (HH.out.up (GW.out.b.trans (hV.b.mono GW.out.size))) h1 OKI.out BVF.out (by have := LI.out; omega) (heap_up HZ.out hV.b))
    rw [h1, h3] at EL
    rw [EL.out] at LK
    rw [h1] at IS
    clear hno h1 h3 HH EL
    go_enter Try.func29, Try.ntmps29
    go_upto_region 1 with (fail)
    rw [HW.out]
    go_wp2_with (first
        | (go_at_call 24; refine LK.out.mono ?_; rintro e w1 ⟨rfl, hg⟩; have G := Lib.hid hg; have st := SZ.out w1 hg; have lw := LV.out w1 hg; clear hg)
        | (go_at_call 46; refine (BS.out _ G.out).mono ?_; rintro e w6 ⟨A5, c5, rfl, st6, hX6, g6, hf6, hb6⟩; have F6 := Lib.hid hf6; have HX := Lib.hid hX6; have G6 := Lib.hid g6; have B6 := Lib.hid hb6; clear hX6 g6 hb6 hf6))
    have hX := HX.out
    have PX := Lib.hid (gn_made (w := w) (below_setRow (w := w) (V := w6) (b := w.heap.size + 1) ((GW.out.b.trans (G.out.b.mono GW.out.size)).trans (B6.out.mono (Nat.le_trans GW.out.size G.out.size))) (by omega) _) rfl E.out G6.out (fun ad e => Nat.le_trans (Nat.le_trans GW.out.size G.out.size) (F6.out ad e)))
    clear st6 HX G6
    generalize (w6.setRow (w.heap.size + 1) (mkC (wtoI n.bm i) A5 c5 (remL n.bm n.bs i)).cs) = X at hX PX ⊢
    obtain ⟨d0, d1, d2, d3', d4', d5, d6, d7, d8, d9, d10, d11, d12, d13⟩ := node_vals hX
    clear hX
    exact bodyPost_ret (v := .tuple #[.agg (mkC (wtoI n.bm i) A5 c5 (remL n.bm n.bs i)).cs, .bool true]) (by simp [results, Try.results29, go_sem, d0, d1, d2, d3', d4', d5, d6, d7, d8, d9, d10, d11, d12, d13, Nd.cs]) rfl PX.out
end Go.Proofs.Ytcigljjnopfohaa
