/-
  Layer 6: the walks of the reference's Lookup, and of both Soles.
-/
import Derived.Test.YtcigljjnopfohaaBrC
set_option linter.unusedVariables false
set_option maxRecDepth 100000
namespace Go.Proofs.Ytcigljjnopfohaa
open Go.Shelf Go.RowKit Go.Lib Go.Sort
attribute [local go_sem ↓] exec_load28
set_option maxHeartbeats 4000000 in
theorem rlookup_any (n : Nd) (i : Int) (B : Nat) (w : World) (h : NRd w B n) (hB : B ≤ w.heap.size) :
    Calls Try.prog 24 #[.agg n.cs, .int .i64 i] w fun e w' => e = .returned (.tuple #[.int .i64 (lookV n i), .bool (lookB n i)]) ∧ Gr w w' := by
  obtain ⟨W, hW⟩ : ∃ W, W = w.alloc (.cells n.cs 28) := ⟨_, rfl⟩
  have GW := Lib.hid (show Gr w W by rw [hW]; exact (Gr.refl w).alloc _)
  have hg : W.heap[w.heap.size]? = some (.cells n.cs 28 (0, 0)) := by rw [hW]; exact heap_alloc_new w _
  have lv := run_loadNode hg
  have CV := Lib.hid (is_any n B W (h.gr hB GW.out) (Nat.le_trans hB GW.out.size))
  have RW := Lib.hid (show RdR W B n.bA n.bs from (h.gr hB GW.out).r)
  have hlt : B ≤ W.heap.size := Nat.le_trans hB GW.out.size
  have HW := Lib.hid hW.symm
  cases hc : isC n with
  | false =>
    have E := Lib.hid (show lookB n i = false by simp [lookB, hc])
    have E2 := Lib.hid (show lookV n i = 0 by simp [lookV, E.out])
    rw [E.out, E2.out]
    rw [hc] at CV
    clear h hB hg hW hc hlt
    go_enter Try.func24, Try.ntmps24
    go_upto_region 1 with (fail)
    rw [HW.out]
    go_wp2_with (go_at_call 44; refine CV.out.mono ?_; rintro e w' ⟨rfl, hg⟩; have G := Lib.hid hg; clear hg)
    exact bodyPost_ret (v := .tuple #[.int .i64 0, .bool false]) (by simp [results, Try.results24]) rfl ⟨rfl, GW.out.trans G.out⟩
  | true =>
    have HO := Lib.hid (isC_Ok hc h)
    have HU := Lib.hid h.bm
    cases hh : hasB n.bm i with
    | false =>
      have E := Lib.hid (show lookB n i = false by simp [lookB, hh])
      have E2 := Lib.hid (show lookV n i = 0 by simp [lookV, E.out])
      rw [E.out, E2.out]
      rw [hc] at CV
      have CH := Lib.hid (fun V => rhas_any n.bm i HU.out V)
      rw [hh] at CH
      have c3 := fun V (hV : Gr W V) => node_cell ((hV.b.block w.heap.size (Array.getElem?_eq_some_iff.1 hg).1).trans hg) (i := 3) (v := .int .u64 n.bm) rfl
      have C3 := Lib.hid c3
      clear h hB hg hW hc hlt hh c3
      go_enter Try.func24, Try.ntmps24
      go_upto_region 1 with (fail)
      rw [HW.out]
      go_wp2_with (first | (go_at_call 44; refine CV.out.mono ?_; rintro e w1 ⟨rfl, hg⟩; have G := Lib.hid hg; have d3 := C3.out w1 hg; clear hg) | (go_at_call 45; refine (CH.out _).mono ?_; rintro e w2 ⟨rfl, rfl⟩))
      exact bodyPost_ret (v := .tuple #[.int .i64 0, .bool false]) (by simp [results, Try.results24]) rfl ⟨rfl, GW.out.trans G.out⟩
    | true =>
      have hp := HO.out.pn hh
      obtain ⟨ad, z, hA, hb, hz, hcell⟩ := RW.out.at_ hp
      have E := Lib.hid (show lookB n i = true by simp [lookB, hh, hc])
      have E2 := Lib.hid (show lookV n i = z by simp [lookV, E.out, List.getD, hz])
      rw [E.out, E2.out]
      rw [hc] at CV
      have CH := Lib.hid (fun V => rhas_any n.bm i HU.out V)
      have CP := Lib.hid (fun V => rposition_any n.bm i HU.out V)
      rw [← pN_cast] at CP
      rw [hh] at CH
      generalize pN n.bm i = p at hp hcell CP
      have C3 := Lib.hid (fun V (hV : Gr W V) => node_cell ((hV.b.block w.heap.size (Array.getElem?_eq_some_iff.1 hg).1).trans hg) (i := 3) (v := .int .u64 n.bm) rfl)
      have C4 := Lib.hid (fun V (hV : Gr W V) => node_cell ((hV.b.block w.heap.size (Array.getElem?_eq_some_iff.1 hg).1).trans hg) (i := 4) (v := .slice n.bA n.bs.length n.bc) rfl)
      have C5 := Lib.hid (fun V (hV : Gr W V) => (hV.b.cell (p := ad.add p) (by rw [block_add]; omega)).trans hcell)
      have hp0 : (0 : Int) ≤ (p : Int) := by omega
      have hp1 : (p : Int) < (n.bs.length : Int) := by omega
      have hp2 : ((p : Int)).toNat = p := by omega
      rw [hA] at C4
      clear h hB hg hW hc hlt hh hcell hb hA
      go_enter Try.func24, Try.ntmps24
      go_upto_region 1 with (fail)
      rw [HW.out]
      go_upto_region 3 with (first | (go_at_call 44; refine CV.out.mono ?_; rintro e w1 ⟨rfl, hg⟩; have G := Lib.hid hg; have d3 := C3.out w1 hg; have d4 := C4.out w1 hg; have d5 := C5.out w1 hg; clear hg) | (go_at_call 45; refine (CH.out _).mono ?_; rintro e w2 ⟨rfl, rfl⟩))
      go_quiet ((go_at_call 43; exact (CP.out _).mono fun _ _ hh => ⟨hh.1, _, hh.2.symm⟩))
      go_wp2
      exact bodyPost_ret (v := .tuple #[.int .i64 z, .bool true]) (by simp [results, Try.results24]) rfl ⟨rfl, (GW.out.trans G.out).drewN _⟩
set_option maxHeartbeats 4000000 in
theorem sole_any (n : Nd) (B : Nat) (w : World) (h : NRd w B n) (hB : B ≤ w.heap.size) :
    Calls Try.prog 25 #[.agg n.cs] w fun e w' => e = .returned (.tuple #[.int .i64 (soleV n), .bool (soleB n)]) ∧ Gr w w' := by
  obtain ⟨W, hW⟩ : ∃ W, W = w.alloc (.cells n.cs 28) := ⟨_, rfl⟩
  have GW := Lib.hid (show Gr w W by rw [hW]; exact (Gr.refl w).alloc _)
  have hg : W.heap[w.heap.size]? = some (.cells n.cs 28 (0, 0)) := by rw [hW]; exact heap_alloc_new w _
  have lv := run_loadNode hg
  have CV := Lib.hid (validC_any n B W (h.gr hB GW.out) (Nat.le_trans hB GW.out.size))
  have RW := Lib.hid (show RdR W B n.bA n.bs from (h.gr hB GW.out).r)
  have hlt : B ≤ W.heap.size := Nat.le_trans hB GW.out.size
  have HW := Lib.hid hW.symm
  have hbl := h.bl
  cases hc : isC n with
  | false =>
    have E := Lib.hid (show soleB n = false by simp [soleB, hc])
    have E2 := Lib.hid (show soleV n = 0 by simp [soleV, E.out])
    rw [E.out, E2.out]
    rw [hc] at CV
    clear h hB hg hW hc hlt
    go_enter Try.func25, Try.ntmps25
    go_upto_region 1 with (fail)
    rw [HW.out]
    go_wp2_with (go_at_call 30; refine CV.out.mono ?_; rintro e w' ⟨rfl, hg⟩; have G := Lib.hid hg; clear hg)
    exact bodyPost_ret (v := .tuple #[.int .i64 0, .bool false]) (by simp [results, Try.results25]) rfl ⟨rfl, GW.out.trans G.out⟩
  | true =>
    have C4 := Lib.hid (fun V (hV : Gr W V) => node_cell ((hV.b.block w.heap.size (Array.getElem?_eq_some_iff.1 hg).1).trans hg) (i := 4) (v := .slice n.bA n.bs.length n.bc) rfl)
    by_cases hl : n.bs.length = 1
    · obtain ⟨ad, z, hA, hb, hz, hcell⟩ := RW.out.at_ (i := 0) (by omega)
      have E := Lib.hid (show soleB n = true by simp [soleB, hc, hl])
      have E2 := Lib.hid (show soleV n = z by simp [soleV, E.out, List.getD, hz])
      rw [E.out, E2.out]
      rw [hc] at CV
      have C5 := Lib.hid (fun V (hV : Gr W V) => (hV.b.cell (p := ad.add 0) (by rw [block_add]; omega)).trans hcell)
      rw [hA, hl] at C4
      rw [add_zero_] at C5
      clear h hB hg hW hc hlt hcell hb hA
      go_enter Try.func25, Try.ntmps25
      go_upto_region 1 with (fail)
      rw [HW.out]
      go_wp2_with (go_at_call 30; refine CV.out.mono ?_; rintro e w1 ⟨rfl, hg⟩; have G := Lib.hid hg; have d4 := C4.out w1 hg; have d5 := C5.out w1 hg; clear hg)
      exact bodyPost_ret (v := .tuple #[.int .i64 z, .bool true]) (by simp [results, Try.results25]) rfl ⟨rfl, GW.out.trans G.out⟩
    · have E := Lib.hid (show soleB n = false by simp [soleB, hl])
      have E2 := Lib.hid (show soleV n = 0 by simp [soleV, E.out])
      rw [E.out, E2.out]
      rw [hc] at CV
      have hl' : ¬ (n.bs.length : Int) = 1 := by omega
      clear h hB hg hW hc hlt hl
      go_enter Try.func25, Try.ntmps25
      go_upto_region 1 with (fail)
      rw [HW.out]
      go_wp2_with (go_at_call 30; refine CV.out.mono ?_; rintro e w1 ⟨rfl, hg⟩; have G := Lib.hid hg; have d4 := C4.out w1 hg; clear hg)
      exact bodyPost_ret (v := .tuple #[.int .i64 0, .bool false]) (by simp [results, Try.results25]) rfl ⟨rfl, GW.out.trans G.out⟩
set_option maxHeartbeats 4000000 in
theorem rsole_any (n : Nd) (B : Nat) (w : World) (h : NRd w B n) (hB : B ≤ w.heap.size) :
    Calls Try.prog 26 #[.agg n.cs] w fun e w' => e = .returned (.tuple #[.int .i64 (soleV n), .bool (soleB n)]) ∧ Gr w w' := by
  obtain ⟨W, hW⟩ : ∃ W, W = w.alloc (.cells n.cs 28) := ⟨_, rfl⟩
  have GW := Lib.hid (show Gr w W by rw [hW]; exact (Gr.refl w).alloc _)
  have hg : W.heap[w.heap.size]? = some (.cells n.cs 28 (0, 0)) := by rw [hW]; exact heap_alloc_new w _
  have lv := run_loadNode hg
  have CV := Lib.hid (is_any n B W (h.gr hB GW.out) (Nat.le_trans hB GW.out.size))
  have RW := Lib.hid (show RdR W B n.bA n.bs from (h.gr hB GW.out).r)
  have hlt : B ≤ W.heap.size := Nat.le_trans hB GW.out.size
  have HW := Lib.hid hW.symm
  have hbl := h.bl
  cases hc : isC n with
  | false =>
    have E := Lib.hid (show soleB n = false by simp [soleB, hc])
    have E2 := Lib.hid (show soleV n = 0 by simp [soleV, E.out])
    rw [E.out, E2.out]
    rw [hc] at CV
    clear h hB hg hW hc hlt
    go_enter Try.func26, Try.ntmps26
    go_upto_region 1 with (fail)
    rw [HW.out]
    go_wp2_with (go_at_call 44; refine CV.out.mono ?_; rintro e w' ⟨rfl, hg⟩; have G := Lib.hid hg; clear hg)
    exact bodyPost_ret (v := .tuple #[.int .i64 0, .bool false]) (by simp [results, Try.results26]) rfl ⟨rfl, GW.out.trans G.out⟩
  | true =>
    have C4 := Lib.hid (fun V (hV : Gr W V) => node_cell ((hV.b.block w.heap.size (Array.getElem?_eq_some_iff.1 hg).1).trans hg) (i := 4) (v := .slice n.bA n.bs.length n.bc) rfl)
    by_cases hl : n.bs.length = 1
    · obtain ⟨ad, z, hA, hb, hz, hcell⟩ := RW.out.at_ (i := 0) (by omega)
      have E := Lib.hid (show soleB n = true by simp [soleB, hc, hl])
      have E2 := Lib.hid (show soleV n = z by simp [soleV, E.out, List.getD, hz])
      rw [E.out, E2.out]
      rw [hc] at CV
      have C5 := Lib.hid (fun V (hV : Gr W V) => (hV.b.cell (p := ad.add 0) (by rw [block_add]; omega)).trans hcell)
      rw [hA, hl] at C4
      rw [add_zero_] at C5
      clear h hB hg hW hc hlt hcell hb hA
      go_enter Try.func26, Try.ntmps26
      go_upto_region 1 with (fail)
      rw [HW.out]
      go_wp2_with (go_at_call 44; refine CV.out.mono ?_; rintro e w1 ⟨rfl, hg⟩; have G := Lib.hid hg; have d4 := C4.out w1 hg; have d5 := C5.out w1 hg; clear hg)
      exact bodyPost_ret (v := .tuple #[.int .i64 z, .bool true]) (by simp [results, Try.results26]) rfl ⟨rfl, GW.out.trans G.out⟩
    · have E := Lib.hid (show soleB n = false by simp [soleB, hl])
      have E2 := Lib.hid (show soleV n = 0 by simp [soleV, E.out])
      rw [E.out, E2.out]
      rw [hc] at CV
      have hl' : ¬ (n.bs.length : Int) = 1 := by omega
      clear h hB hg hW hc hlt hl
      go_enter Try.func26, Try.ntmps26
      go_upto_region 1 with (fail)
      rw [HW.out]
      go_wp2_with (go_at_call 44; refine CV.out.mono ?_; rintro e w1 ⟨rfl, hg⟩; have G := Lib.hid hg; have d4 := C4.out w1 hg; clear hg)
      exact bodyPost_ret (v := .tuple #[.int .i64 0, .bool false]) (by simp [results, Try.results26]) rfl ⟨rfl, GW.out.trans G.out⟩
end Go.Proofs.Ytcigljjnopfohaa
