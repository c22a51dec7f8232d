/-
  Layer 6: the walk of Inserted.
-/
import Derived.Test.YtbknbjabkhhlfaaBrF
import Derived.Deep.RegionHeld3
import Derived.Test.YtbknbjabkhhlfaaWalksC1
set_option linter.unusedVariables false
set_option maxRecDepth 100000
namespace Go.Proofs.Ytbknbjabkhhlfaa
open Go.Shelf Go.RowKit Go.Lib Go.Sort
attribute [local go_sem ↓] exec_load28 exec_store44
theorem heap_up {w w' : World} {b : Nat} {o : Obj} (h : w.heap[b]? = some o) (hb : Below w.heap.size w w') : w'.heap[b]? = some o := (hb.block b (Array.getElem?_eq_some_iff.1 h).1).trans h
theorem gt_ins_no {n : Nd} {i r : Int} (h : isC n = false ∨ inr i = false ∨ hasB n.bm i = true ∨ r < 1) : insOk n i r = false := by
  unfold insOk
  rcases h with h | h | h | h
  · rw [h]; rfl
  · rw [h]; simp
  · rw [h]; simp
  · rw [show decide (1 ≤ r) = false from decide_eq_false (by omega)]; simp
set_option maxHeartbeats 8000000 in
theorem inserted_any (n : Nd) (i r : Int) (w : World) (h : GN w n) : Calls Try.prog 57 #[.agg n.cs, .int .i64 i, .int .i64 r] w (CPost (insOk n i r) (withI n.bm i) (insL n.bm n.bs i r) w) := by
  have mixed := mixedOrders
  obtain ⟨W, hW⟩ : ∃ W, W = (w.alloc (.cells n.cs 35)).alloc (.cells zV 35) := ⟨_, rfl⟩
  have GW := Lib.hid (show Gr w W by rw [hW]; exact ((Gr.refl w).alloc _).alloc _)
  have hg : W.heap[w.heap.size]? = some (.cells n.cs 35 (0, 0)) := by rw [hW]; exact (Below.heap_alloc _ _ _ (by simp)).trans (heap_alloc_new w _)
  have hz : W.heap[w.heap.size + 1]? = some (.cells zV 35 (0, 0)) := by rw [hW]; have := heap_alloc_new (w.alloc (.cells n.cs 35)) (.cells zV 35); simpa using this
  have HZ := Lib.hid hz
  have lv := run_loadNode hg
  have CV := Lib.hid (validC_any n w.heap.size W (h.rd.gr (Nat.le_refl _) GW.out) GW.out.size)
  have CI := Lib.hid (fun V => inRange_any i V)
  have CH := Lib.hid (fun V => has_any n.bm i h.rd.bm V)
  have HU := Lib.hid h.rd.bm
  have SZ := Lib.hid (fun V (hV : Gr W V) => run_storeZ (heap_up hz hV.b))
  have C3 := Lib.hid (fun V (hV : Gr W V) => node_cell (heap_up hg hV.b) (i := 3) (v := .int .u64 n.bm) rfl)
  have HW := Lib.hid (show (w.alloc (.cells n.cs 35)).alloc (.cells #[.int .i64 0, .int .i64 0, .int .i64 0, .int .u64 0, .slice none 0 0, .int .u64 0, .string ⟨#[]⟩, .int .u64 0, .slice none 0 0, .int .i64 0, .int .i64 0, .int .i64 0, .int .i64 0, .int .i64 0] 35) = W from hW.symm)
  by_cases hno : isC n = false ∨ inr i = false ∨ hasB n.bm i = true ∨ r < 1
  · have E := Lib.hid (gt_ins_no hno)
    have hrd := h
    clear h hg hz hW
    rcases (show isC n = false ∨ (isC n = true ∧ inr i = false) ∨ (isC n = true ∧ inr i = true ∧ hasB n.bm i = true) ∨ (isC n = true ∧ inr i = true ∧ hasB n.bm i = false ∧ r < 1) by
      cases a : isC n <;> cases b : inr i <;> cases c : hasB n.bm i <;> simp [a, b, c] at hno ⊢; exact hno) with h1 | ⟨h1, h2⟩ | ⟨h1, h2, h3⟩ | ⟨h1, h2, h3, h4⟩
    all_goals
      rw [h1] at CV
      try rw [h2] at CI
      try rw [h3] at CH
      clear hno hrd h1
      try clear h2
      try clear h3
      go_enter Try.func57, Try.ntmps57
      go_upto_region 1 with (fail)
      rw [HW.out]
      go_wp2_with (first
        | (go_at_call 68; refine CV.out.mono ?_; rintro e w1 ⟨rfl, hg⟩; have G := Lib.hid hg; have d3 := C3.out w1 hg; have st := SZ.out w1 hg; clear hg)
        | (go_at_call 69; refine (CI.out _).mono ?_; rintro e w2 ⟨rfl, rfl⟩)
        | (go_at_call 70; refine (CH.out _).mono ?_; rintro e w2 ⟨rfl, rfl⟩))
      have hX := setRow_heap w1 (w.heap.size + 1) _ zV 35 (0, 0) (heap_up HZ.out G.out.b)
      have BX := Lib.hid (below_setRow (w := w) (V := w1) (b := w.heap.size + 1) (GW.out.b.trans (G.out.b.mono GW.out.size)) (by omega) zV)
      generalize w1.setRow (w.heap.size + 1) zV = X at hX BX ⊢
      obtain ⟨d0, d1, d2, d3', d4, d5, d6, d7, d8, d9, d10, d11, d12, d13⟩ := node_vals (n := Nd.zero) hX
      clear hX
      exact bodyPost_ret (v := .tuple #[.agg Nd.zero.cs, .bool false]) (by simp [results, Try.results57, go_sem, d0, d1, d2, d3', d4, d5, d6, d7, d8, d9, d10, d11, d12, d13, Nd.cs, Nd.zero]) rfl (gn_none BX.out rfl E.out)
  · have h1 : isC n = true := by cases a : isC n <;> simp [a] at hno ⊢
    have h2 : inr i = true := by cases a : inr i <;> simp [a] at hno ⊢
    have h3 : hasB n.bm i = false := by cases a : hasB n.bm i <;> simp [a] at hno ⊢
    have h4 : ¬ r < 1 := fun hr => hno (.inr (.inr (.inr hr)))
    have E := Lib.hid (show insOk n i r = true by unfold insOk; rw [h1, h2, h3, show decide (1 ≤ r) = true from decide_eq_true (by omega)]; rfl)
    have HO := Lib.hid (isC_Ok h1 h.rd)
    have hp := HO.out.pn' i
    have hl64 : n.bs.length ≤ 64 := by have := HO.out.2; have := (cnt_range n.bm).2; omega
    have hpc : pN n.bm i ≤ n.bc := Nat.le_trans hp h.bc
    have OKI := Lib.hid (ok_ins (r := r) HO.out h2 h3)
    have LI := Lib.hid (len_ins (i := i) (r := r) HO.out)
    have CP := Lib.hid (fun V => position_any n.bm i HU.out V)
    have CW := Lib.hid (fun V => bwith_any n.bm i HU.out V)
    rw [← pN_cast] at CP
    have RW := Lib.hid (show RdR W W.heap.size n.bA n.bs from ((h.rd.gr (Nat.le_refl _) GW.out).more GW.out.size).r)
    have C4 := Lib.hid (fun V (hV : Gr W V) => node_cell (heap_up hg hV.b) (i := 4) (v := .slice n.bA n.bs.length n.bc) rfl)
    have HA := Lib.hid h.ba
    have EI := Lib.hid (show insL n.bm n.bs i r = n.bs.take (pN n.bm i) ++ r :: n.bs.drop (pN n.bm i) from rfl)
    have hbc := h.bc
    rw [h1] at CV
    rw [h2] at CI
    rw [h3] at CH
    clear hno h1 h2 h3 h hg hz hW
    generalize pN n.bm i = p at hp hpc EI CP
    have hp0 : (0 : Int) ≤ (p : Int) := by omega
    have hp1 : (p : Int) ≤ (n.bs.length : Int) := by omega
    have hp2 : (p : Int) ≤ (n.bc : Int) := by omega
    have hp3 : ((p : Int)).toNat = p := by omega
    go_enter Try.func57, Try.ntmps57
    go_upto_region 1 with (fail)
    rw [HW.out]
    go_upto_region 3 with (first
      | (go_at_call 68; refine CV.out.mono ?_; rintro e w1 ⟨rfl, hg⟩; have G := Lib.hid hg; have d3 := C3.out w1 hg; have d4 := C4.out w1 hg; clear hg)
      | (go_at_call 69; refine (CI.out _).mono ?_; rintro e w2 ⟨rfl, rfl⟩)
      | (go_at_call 70; refine (CH.out _).mono ?_; rintro e w2 ⟨rfl, rfl⟩))
    go_quiet ((go_at_call 71; exact (CP.out _).mono fun _ _ hh => ⟨hh.1, _, hh.2.symm⟩))
    have R1 := Lib.hid (RW.out.up G.out.b)
    have RT := Lib.hid (show RdR w1 w1.heap.size n.bA (n.bs.take p) from R1.out.take p)
    have lt1 := Lib.hid (show p = (n.bs.take p).length by simp; omega)
    have HZ1 := Lib.hid (heap_up HZ.out G.out.b)
    obtain ⟨L, hL⟩ : ∃ L, L = n.bs.take p ++ r :: n.bs.drop p := ⟨_, rfl⟩
    have HL := Lib.hid hL
    have HLI := Lib.hid (EI.out.trans hL.symm)
    rw [HLI.out] at OKI LI
    clear hL EI
    go_upto_region 4 with (fail)
    have RE := Lib.hid (show ∀ (w5 w6 : World) (A5 : Option Addr) (c5 : Nat), RdR w5 w5.heap.size A5 L → (A5 = none → c5 = 0) → L.length ≤ c5 → (∀ ad, A5 = some ad → w1.heap.size ≤ ad.block) → Below w1.heap.size w1 w5 → Gr w5 w6 →
        (w6.setRow (w.heap.size + 1) (mkC (withI n.bm i) A5 c5 L).cs).heap[w.heap.size + 1]? = some (.cells (mkC (withI n.bm i) A5 c5 L).cs 35 (0, 0)) ∧
        CPost (insOk n i r) (withI n.bm i) L w (.returned (.tuple #[.agg (mkC (withI n.bm i) A5 c5 L).cs, .bool true])) (w6.setRow (w.heap.size + 1) (mkC (withI n.bm i) A5 c5 L).cs) from fun w5 w6 A5 c5 hr5 ha5 hc5 hf5 hb5 hg6 => by
      have hs1 := (Array.getElem?_eq_some_iff.1 HZ1.out).1
      have hz6 := heap_up (heap_up HZ1.out hb5) hg6.b
      refine ⟨setRow_heap w6 _ _ _ 35 (0, 0) hz6, gn_made (below_setRow ?_ (by omega) _) rfl E.out (gn_C OKI.out.1 (rdR_setRow (hr5.up hg6.b) (fun ad e => by have := hf5 ad e; omega) _) ha5 hc5 (by rw [LI.out]; omega)) (fun ad e => Nat.le_trans (Nat.le_trans GW.out.size G.out.size) (hf5 ad e))⟩
      exact (GW.out.b.trans (G.out.b.mono GW.out.size)).trans ((hb5.mono (Nat.le_trans GW.out.size G.out.size)).trans (hg6.b.mono (Nat.le_trans (Nat.le_trans GW.out.size G.out.size) hb5.size))))
    have KS := Lib.hid (show ∀ V, RowKit.Below w1.heap.size w1 V → V.cell? ⟨w.heap.size, 3, none⟩ = some (.int .u64 n.bm) from fun V hV => (hV.cell (p := ⟨w.heap.size, 3, none⟩) (block_of_cell' d3)).trans d3)
    have K6F := Lib.hid (show ∀ (V : World) (cs : Array Value), RowKit.Below w1.heap.size w1 V → (V.setRow (w.heap.size + 1) cs).cell? ⟨w.heap.size, 3, none⟩ = some (.int .u64 n.bm) from fun V cs hV => (World.cell?_of_block (setRow_other _ _ _ _ (show w.heap.size ≠ w.heap.size + 1 by omega))).trans (KS.out V hV))
    have BD := Lib.hid (show RowKit.Below w1.heap.size w1 (w1.drewN nq).drew from ⟨rfl, rfl, rfl, Nat.le_refl _, fun _ _ => rfl⟩)
    have BE := Lib.hid (show RowKit.Below w1.heap.size w1 (w1.drewN (nq + 1)) from ⟨rfl, rfl, rfl, Nat.le_refl _, fun _ _ => rfl⟩)
    have BDA := Lib.hid (fun o => BE.out.alloc (Nat.le_refl w1.heap.size) o)
    have BDAA := Lib.hid (fun o o' => (BDA.out o).alloc (by simp) o')
    by_cases q2 : n.bc = p
    · have ed := Lib.hid (show n.bs.drop p = [] from List.drop_eq_nil_of_le (by omega))
      have lt3 := Lib.hid (show 0 = (n.bs.drop p).length by simp; omega)
      have hl2 := Lib.hid (show (n.bs.take p).length + (n.bs.drop p).length ≤ 1000 by simp; omega)
      have J := Lib.hid (show Calls Try.prog 74 _ _ (JoinPost L w1) by rw [HL.out]; exact join3d w1 (nq + 1) n.bA n.bA n.bc 0 p 0 (n.bs.take p) (n.bs.drop p) r RT.out (by rw [ed.out]; exact RdR.nil) HA.out (fun _ => rfl) lt1.out lt3.out hl2.out)
      clear R1 lt3 hl2 ed
      subst q2
      go_region_held3 (fun w' => w'.cell? ⟨w.heap.size, 3, none⟩ = some (.int .u64 n.bm))
        (first | with_reducible exact K6.out | with_reducible exact KS.out _ B6.out | with_reducible exact KS.out _ B5.out | with_reducible exact KS.out _ (BDAA.out _ _) | with_reducible exact KS.out _ (BDA.out _) | with_reducible exact KS.out _ BD.out | with_reducible exact KS.out _ BE.out)
        (first
          | (go_at_call 72; refine MS.out.mono ?_; rintro e w6 ⟨rfl, hg6, st, hz6⟩; have G6 := Lib.hid hg6; have B6 := Lib.hid (B5.out.trans (hg6.b.mono B5.out.size)); have K6 := Lib.hid (K6F.out w6 (mkC (withI n.bm i) A5 c5 L).cs B6.out); clear hg6 hz6)
          | (go_at_call 74; refine J.out.mono ?_; rintro e w5 ⟨A5, c5, rfl, hr5, ha5, hc5, hf5, hb5⟩; have B5 := Lib.hid hb5; have MS := Lib.hid (made_st w1 w5 (w.heap.size + 1) (withI n.bm i) A5 c5 L hb5 HZ1.out); have R5 := Lib.hid (fun w6 hg6 => RE.out w5 w6 A5 c5 hr5 ha5 hc5 hf5 hb5 hg6); clear hr5 ha5 hc5 hf5 hb5)
          | (go_at_call 73; refine (CW.out _).mono ?_; rintro e w4 ⟨rfl, rfl⟩))
      all_goals
        go_wp2_with fail
        have hX := (R5.out w6 G6.out).1
        have PX := Lib.hid (R5.out w6 G6.out).2
        clear st R5
        generalize (w6.setRow (w.heap.size + 1) (mkC (withI n.bm i) A5 c5 L).cs) = X at hX PX ⊢
        obtain ⟨d0, d1, d2, d3', d4', d5, d6, d7, d8, d9, d10, d11, d12, d13⟩ := node_vals hX
        clear hX
        exact bodyPost_ret (v := .tuple #[.agg (mkC (withI n.bm i) A5 c5 L).cs, .bool true]) (by simp [results, Try.results57, go_sem, d0, d1, d2, d3', d4', d5, d6, d7, d8, d9, d10, d11, d12, d13, Nd.cs]) rfl (by rw [HLI.out]; exact PX.out)
    · have q2' : ¬ p = n.bc := fun e => q2 e.symm
      have lt3 := Lib.hid (show n.bs.length - p = (n.bs.drop p).length by simp)
      have hl2 := Lib.hid (show (n.bs.take p).length + (n.bs.drop p).length ≤ 1000 by simp; omega)
      have J := Lib.hid (show Calls Try.prog 74 _ _ (JoinPost L w1) by rw [HL.out]; exact join3d w1 (nq + 1) n.bA (n.bA.map (·.add p)) n.bc (n.bc - p) p (n.bs.length - p) (n.bs.take p) (n.bs.drop p) r RT.out (R1.out.cut hp) HA.out (fun e => by rw [HA.out (by simpa using e)]; omega) lt1.out lt3.out hl2.out)
      clear R1 lt3 hl2
      go_region_held3 (fun w' => w'.cell? ⟨w.heap.size, 3, none⟩ = some (.int .u64 n.bm))
        (first | with_reducible exact K6.out | with_reducible exact KS.out _ B6.out | with_reducible exact KS.out _ B5.out | with_reducible exact KS.out _ (BDAA.out _ _) | with_reducible exact KS.out _ (BDA.out _) | with_reducible exact KS.out _ BD.out | with_reducible exact KS.out _ BE.out)
        (first
          | (go_at_call 72; refine MS.out.mono ?_; rintro e w6 ⟨rfl, hg6, st, hz6⟩; have G6 := Lib.hid hg6; have B6 := Lib.hid (B5.out.trans (hg6.b.mono B5.out.size)); have K6 := Lib.hid (K6F.out w6 (mkC (withI n.bm i) A5 c5 L).cs B6.out); clear hg6 hz6)
          | (go_at_call 74; refine J.out.mono ?_; rintro e w5 ⟨A5, c5, rfl, hr5, ha5, hc5, hf5, hb5⟩; have B5 := Lib.hid hb5; have MS := Lib.hid (made_st w1 w5 (w.heap.size + 1) (withI n.bm i) A5 c5 L hb5 HZ1.out); have R5 := Lib.hid (fun w6 hg6 => RE.out w5 w6 A5 c5 hr5 ha5 hc5 hf5 hb5 hg6); clear hr5 ha5 hc5 hf5 hb5)
          | (go_at_call 73; refine (CW.out _).mono ?_; rintro e w4 ⟨rfl, rfl⟩))
      all_goals
        go_wp2_with fail
        have hX := (R5.out w6 G6.out).1
        have PX := Lib.hid (R5.out w6 G6.out).2
        clear st R5
        generalize (w6.setRow (w.heap.size + 1) (mkC (withI n.bm i) A5 c5 L).cs) = X at hX PX ⊢
        obtain ⟨d0, d1, d2, d3', d4', d5, d6, d7, d8, d9, d10, d11, d12, d13⟩ := node_vals hX
        clear hX
        exact bodyPost_ret (v := .tuple #[.agg (mkC (withI n.bm i) A5 c5 L).cs, .bool true]) (by simp [results, Try.results57, go_sem, d0, d1, d2, d3', d4', d5, d6, d7, d8, d9, d10, d11, d12, d13, Nd.cs]) rfl (by rw [HLI.out]; exact PX.out)
end Go.Proofs.Ytbknbjabkhhlfaa
