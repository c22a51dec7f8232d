/-
  Layer 6: what a C-node is; the walks of the small functions and of Lookup and Sole.
-/
import Derived.Test.YtcigljjnopfohaaBrB
import Derived.Test.YtcigljjnopfohaaWalksG
import Derived.Test.YtcigljjnopfohaaWalksH
import Derived.Test.YtcigljjnopfohaaWalksI
import Derived.Test.YtcigljjnopfohaaWalksZ
set_option linter.unusedVariables false
set_option maxRecDepth 100000
namespace Go.Proofs.Ytcigljjnopfohaa
open Go.Shelf Go.RowKit Go.Lib Go.Sort
attribute [local go_sem ↓] exec_load28

/-- A valid C-node. -/
noncomputable def isC (n : Nd) : Bool := n.kind == 3 && validN n
theorem isC_ok {n : Nd} (h : isC n = true) : n.kind = 3 ∧ (n.bs.length : Int) = cntI n.bm ∧ (∀ z ∈ n.bs, 1 ≤ z) := by
  unfold isC at h
  rw [Bool.and_eq_true, beq_iff_eq] at h
  obtain ⟨hk, hv⟩ := h
  unfold validN at hv
  rw [Bool.and_eq_true, Bool.and_eq_true] at hv
  obtain ⟨_, _, hf⟩ := hv
  unfold fieldsB at hf
  rw [hk] at hf
  simp at hf
  refine ⟨hk, hf.1, fun z hz => ?_⟩
  have := List.any_eq_false.1 hf.2 z hz
  unfold lowK at this
  simpa using this
theorem isC_Ok {n : Nd} {w : World} {B : Nat} (h : isC n = true) (hR : NRd w B n) : Ok n.bm n.bs := ⟨hR.bm, (isC_ok h).2.1⟩
noncomputable def lookB (n : Nd) (i : Int) : Bool := isC n && hasB n.bm i
noncomputable def lookV (n : Nd) (i : Int) : Int := if lookB n i then n.bs.getD (pN n.bm i) 0 else 0
noncomputable def soleB (n : Nd) : Bool := isC n && decide (n.bs.length = 1)
noncomputable def soleV (n : Nd) : Int := if soleB n then n.bs.getD 0 0 else 0

set_option maxHeartbeats 2000000 in
theorem validC_any (n : Nd) (B : Nat) (w : World) (h : NRd w B n) (hB : B ≤ w.heap.size) :
    Calls Try.prog 30 #[.agg n.cs] w fun e w' => e = .returned (.bool (isC n)) ∧ Gr w w' := by
  obtain ⟨W, hW⟩ : ∃ W, W = w.alloc (.cells n.cs 28) := ⟨_, rfl⟩
  have GW := Lib.hid (show Gr w W by rw [hW]; exact (Gr.refl w).alloc _)
  have hg : W.heap[w.heap.size]? = some (.cells n.cs 28 (0, 0)) := by rw [hW]; exact heap_alloc_new w _
  have c0 := node_cell hg (i := 0) (v := .int .i64 n.kind) rfl
  have lv := run_loadNode hg
  have CV := Lib.hid (valid_any n B W (h.gr hB GW.out) (Nat.le_trans hB GW.out.size))
  have HW := Lib.hid hW.symm
  have E := Lib.hid (show isC n = (n.kind == 3 && validN n) from rfl)
  clear h hB hg hW
  cases hk : n.kind == 3
  all_goals
    go_enter Try.func30, Try.ntmps30
    go_upto_region 1 with (fail)
    rw [HW.out]
    go_wp2_with (go_at_call 47; refine CV.out.mono ?_; rintro e w' ⟨rfl, hg⟩; have G := Lib.hid hg; clear hg)
    go_ret
  · exact ⟨ret_bool (by rw [E.out, hk]; rfl), GW.out⟩
  · exact ⟨ret_bool (by rw [E.out, hk]; rfl), GW.out.trans G.out⟩
set_option maxHeartbeats 2000000 in
theorem is_any (n : Nd) (B : Nat) (w : World) (h : NRd w B n) (hB : B ≤ w.heap.size) :
    Calls Try.prog 44 #[.agg n.cs] w fun e w' => e = .returned (.bool (isC n)) ∧ Gr w w' := by
  obtain ⟨W, hW⟩ : ∃ W, W = w.alloc (.cells n.cs 28) := ⟨_, rfl⟩
  have GW := Lib.hid (show Gr w W by rw [hW]; exact (Gr.refl w).alloc _)
  have hg : W.heap[w.heap.size]? = some (.cells n.cs 28 (0, 0)) := by rw [hW]; exact heap_alloc_new w _
  have c0 := node_cell hg (i := 0) (v := .int .i64 n.kind) rfl
  have lv := run_loadNode hg
  have CV := Lib.hid (rvalid_any n B W (h.gr hB GW.out) (Nat.le_trans hB GW.out.size))
  have HW := Lib.hid hW.symm
  have E := Lib.hid (show isC n = (n.kind == 3 && validN n) from rfl)
  clear h hB hg hW
  cases hk : n.kind == 3
  all_goals
    go_enter Try.func44, Try.ntmps44
    go_upto_region 1 with (fail)
    rw [HW.out]
    go_wp2_with (go_at_call 19; refine CV.out.mono ?_; rintro e w' ⟨rfl, hg⟩; have G := Lib.hid hg; clear hg)
    go_ret
  · exact ⟨ret_bool (by rw [E.out, hk]; rfl), GW.out⟩
  · exact ⟨ret_bool (by rw [E.out, hk]; rfl), GW.out.trans G.out⟩
theorem inRange_any (i : Int) (w : World) : Calls Try.prog 33 #[.int .i64 i] w fun e w' => e = .returned (.bool (inr i)) ∧ w = w' := by
  by_cases h : 0 ≤ i
  · by_cases h2 : i ≤ 63
    · have E := Lib.hid ((inr_iff i).2 (by omega))
      go_enter Try.func33, Try.ntmps33
      go_wp2
      go_ret
      exact ⟨ret_bool E.out.symm, rfl⟩
    · have E := Lib.hid ((inr_not i).2 (by omega))
      go_enter Try.func33, Try.ntmps33
      go_wp2
      go_ret
      exact ⟨ret_bool E.out.symm, rfl⟩
  · have E := Lib.hid ((inr_not i).2 (by omega))
    go_enter Try.func33, Try.ntmps33
    go_wp2
    go_ret
    exact ⟨ret_bool E.out.symm, rfl⟩

set_option maxHeartbeats 4000000 in
theorem lookup_any (n : Nd) (i : Int) (B : Nat) (w : World) (h : NRd w B n) (hB : B ≤ w.heap.size) :
    Calls Try.prog 12 #[.agg n.cs, .int .i64 i] w fun e w' => e = .returned (.tuple #[.int .i64 (lookV n i), .bool (lookB n i)]) ∧ Gr w w' := by
  obtain ⟨W, hW⟩ : ∃ W, W = w.alloc (.cells n.cs 28) := ⟨_, rfl⟩
  have GW := Lib.hid (show Gr w W by rw [hW]; exact (Gr.refl w).alloc _)
  have hg : W.heap[w.heap.size]? = some (.cells n.cs 28 (0, 0)) := by rw [hW]; exact heap_alloc_new w _
  have lv := run_loadNode hg
  have CV := Lib.hid (validC_any n B W (h.gr hB GW.out) (Nat.le_trans hB GW.out.size))
  have RW := Lib.hid (show RdR W B n.bA n.bs from (h.gr hB GW.out).r)
  have hlt : B ≤ W.heap.size := Nat.le_trans hB GW.out.size
  have HW := Lib.hid hW.symm
  cases hc : isC n with
  | false =>
    have E := Lib.hid (show lookB n i = false by simp [lookB, hc])
    have E2 := Lib.hid (show lookV n i = 0 by simp [lookV, E.out])
    rw [E.out, E2.out]
    rw [hc] at CV
    clear h hB hg hW hc hlt
    go_enter Try.func12, Try.ntmps12
    go_upto_region 1 with (fail)
    rw [HW.out]
    go_wp2_with (go_at_call 30; refine CV.out.mono ?_; rintro e w' ⟨rfl, hg⟩; have G := Lib.hid hg; clear hg)
    exact bodyPost_ret (v := .tuple #[.int .i64 0, .bool false]) (by simp [results, Try.results12]) rfl ⟨rfl, GW.out.trans G.out⟩
  | true =>
    have HO := Lib.hid (isC_Ok hc h)
    have HU := Lib.hid h.bm
    cases hh : hasB n.bm i with
    | false =>
      have E := Lib.hid (show lookB n i = false by simp [lookB, hh])
      have E2 := Lib.hid (show lookV n i = 0 by simp [lookV, E.out])
      rw [E.out, E2.out]
      rw [hc] at CV
      have CH := Lib.hid (fun V => has_any n.bm i HU.out V)
      rw [hh] at CH
      have c3 := fun V (hV : Gr W V) => node_cell ((hV.b.block w.heap.size (Array.getElem?_eq_some_iff.1 hg).1).trans hg) (i := 3) (v := .int .u64 n.bm) rfl
      have C3 := Lib.hid c3
      clear h hB hg hW hc hlt hh c3
      go_enter Try.func12, Try.ntmps12
      go_upto_region 1 with (fail)
      rw [HW.out]
      go_wp2_with (first | (go_at_call 30; refine CV.out.mono ?_; rintro e w1 ⟨rfl, hg⟩; have G := Lib.hid hg; have d3 := C3.out w1 hg; clear hg) | (go_at_call 31; refine (CH.out _).mono ?_; rintro e w2 ⟨rfl, rfl⟩))
      exact bodyPost_ret (v := .tuple #[.int .i64 0, .bool false]) (by simp [results, Try.results12]) rfl ⟨rfl, GW.out.trans G.out⟩
    | true =>
      have hp := HO.out.pn hh
      obtain ⟨ad, z, hA, hb, hz, hcell⟩ := RW.out.at_ hp
      have E := Lib.hid (show lookB n i = true by simp [lookB, hh, hc])
      have E2 := Lib.hid (show lookV n i = z by simp [lookV, E.out, List.getD, hz])
      rw [E.out, E2.out]
      rw [hc] at CV
      have CH := Lib.hid (fun V => has_any n.bm i HU.out V)
      have CP := Lib.hid (fun V => position_any n.bm i HU.out V)
      rw [← pN_cast] at CP
      rw [hh] at CH
      generalize pN n.bm i = p at hp hcell CP
      have C3 := Lib.hid (fun V (hV : Gr W V) => node_cell ((hV.b.block w.heap.size (Array.getElem?_eq_some_iff.1 hg).1).trans hg) (i := 3) (v := .int .u64 n.bm) rfl)
      have C4 := Lib.hid (fun V (hV : Gr W V) => node_cell ((hV.b.block w.heap.size (Array.getElem?_eq_some_iff.1 hg).1).trans hg) (i := 4) (v := .slice n.bA n.bs.length n.bc) rfl)
      have C5 := Lib.hid (fun V (hV : Gr W V) => (hV.b.cell (p := ad.add p) (by rw [block_add]; omega)).trans hcell)
      have hp0 : (0 : Int) ≤ (p : Int) := by omega
      have hp1 : (p : Int) < (n.bs.length : Int) := by omega
      have hp2 : ((p : Int)).toNat = p := by omega
      rw [hA] at C4
      clear h hB hg hW hc hlt hh hcell hb hA
      go_enter Try.func12, Try.ntmps12
      go_upto_region 1 with (fail)
      rw [HW.out]
      go_upto_region 3 with (first | (go_at_call 30; refine CV.out.mono ?_; rintro e w1 ⟨rfl, hg⟩; have G := Lib.hid hg; have d3 := C3.out w1 hg; have d4 := C4.out w1 hg; have d5 := C5.out w1 hg; clear hg) | (go_at_call 31; refine (CH.out _).mono ?_; rintro e w2 ⟨rfl, rfl⟩))
      go_quiet ((go_at_call 32; exact (CP.out _).mono fun _ _ hh => ⟨hh.1, _, hh.2.symm⟩))
      go_wp2
      exact bodyPost_ret (v := .tuple #[.int .i64 z, .bool true]) (by simp [results, Try.results12]) rfl ⟨rfl, (GW.out.trans G.out).drewN _⟩
end Go.Proofs.Ytcigljjnopfohaa
