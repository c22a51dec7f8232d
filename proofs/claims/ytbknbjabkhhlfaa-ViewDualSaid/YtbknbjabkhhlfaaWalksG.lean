/-
  The walk of Valid, of the program.
-/
import Derived.Test.YtbknbjabkhhlfaaWalksF
import Derived.Test.YtbknbjabkhhlfaaOwnB
import Derived.Test.YtbknbjabkhhlfaaEqP
set_option linter.unusedVariables false
set_option maxRecDepth 100000
namespace Go.Proofs.Ytbknbjabkhhlfaa
open Go.Shelf Go.RowKit Go.Lib Go.Sort

theorem node_cell {V : World} {b : Nat} {n : Nd} (h : V.heap[b]? = some (.cells n.cs 35 (0, 0))) {i : Nat} {v : Value} (hv : n.cs[i]? = some v) : V.cell? ⟨b, i, none⟩ = some v := by
  rw [cell_of_row V b i n.cs 35 (0, 0) h]; exact hv
theorem heap_grown {W : World} {b : Nat} {o : Obj} (h : W.heap[b]? = some o) (m : Nat) (os : Array Obj) : (grow (W.drewN m) os).heap[b]? = some o := by
  exact (heap_grow_old (W.drewN m) os (show b < W.heap.size from (Array.getElem?_eq_some_iff.1 h).1)).trans h
theorem valid_ff {n : Nd} (h : eqN n (own n) = false) : validN n = false := by simp [validN, h]
theorem valid_tf {n : Nd} (h : cellsB n = false) : validN n = false := by simp [validN, h]
theorem valid_tt {n : Nd} (h : eqN n (own n) = true) (k : cellsB n = true) : validN n = fieldsB n := by simp [validN, h, k]

set_option maxHeartbeats 4000000 in
theorem valid_eF (n : Nd) (B : Nat) (w : World) (h : NRd w B n) (hB : B ≤ w.heap.size) (he : eqN n (own n) = false) :
    Calls Try.prog 51 #[.agg n.cs] w fun e w' => e = .returned (.bool (validN n)) ∧ Gr w w' := by
  rw [valid_ff he]
  have mixed := mixedOrders
  obtain ⟨W, hW⟩ : ∃ W, W = w.alloc (.cells n.cs 35) := ⟨_, rfl⟩
  have GW := Lib.hid (show Gr w W by rw [hW]; exact (Gr.refl w).alloc _)
  have hg : W.heap[w.heap.size]? = some (.cells n.cs 35 (0, 0)) := by rw [hW]; exact heap_alloc_new w _
  have c0 := fun m os => node_cell (heap_grown hg m os) (i := 0) (v := .int .i64 n.kind) rfl
  have c1 := fun m os => node_cell (heap_grown hg m os) (i := 1) (v := .int .i64 n.gen) rfl
  have c2 := fun m os => node_cell (heap_grown hg m os) (i := 2) (v := .int .i64 n.main) rfl
  have c3 := fun m os => node_cell (heap_grown hg m os) (i := 3) (v := .int .u64 n.bm) rfl
  have c4 := fun m os => node_cell (heap_grown hg m os) (i := 4) (v := .slice n.bA n.bs.length n.bc) rfl
  have c5 := fun m os => node_cell (heap_grown hg m os) (i := 5) (v := .int .u64 n.hash) rfl
  have c6 := fun m os => node_cell (heap_grown hg m os) (i := 6) (v := .string n.key) rfl
  have c7 := fun m os => node_cell (heap_grown hg m os) (i := 7) (v := .int .u64 n.val) rfl
  have c8 := fun m os => node_cell (heap_grown hg m os) (i := 8) (v := .slice n.pA n.ps.length n.pc) rfl
  have c9 := fun m os => node_cell (heap_grown hg m os) (i := 9) (v := .int .i64 n.prev) rfl
  have c10 := fun m os => node_cell (heap_grown hg m os) (i := 10) (v := .int .i64 n.old) rfl
  have c11 := fun m os => node_cell (heap_grown hg m os) (i := 11) (v := .int .i64 n.exp) rfl
  have c12 := fun m os => node_cell (heap_grown hg m os) (i := 12) (v := .int .i64 n.new) rfl
  have c13 := fun m os => node_cell (heap_grown hg m os) (i := 13) (v := .int .i64 n.status) rfl
  have CO := Lib.hid (fun V => own_any n V)
  have CE := Lib.hid (fun (V : World) (hV : Gr w V) => equal_any n (own n) B V (h.gr hB hV) (own_rd (h.gr hB hV)) (Nat.le_trans hB hV.size))
  have CC := Lib.hid (fun V => cells_any n V)
  have CF := Lib.hid (fun (V : World) (hV : Gr w V) => fields_any n B V (h.gr hB hV) (Nat.le_trans hB hV.size))
  rw [he] at CE
  
  have HW := Lib.hid hW.symm
  clear h hB hg hW
  go_enter Try.func51, Try.ntmps51
  go_wp2_with fail
  rw [HW.out]
  go_quiet_grown (first | (go_at_call 62; exact Gr.called (CO.out _)) | (go_at_call 61; exact Gr.called (CE.out _ (GW.out.grow _ _))))
  go_wp2
  go_ret
  exact ⟨rfl, GW.out.grow _ _⟩

set_option maxHeartbeats 4000000 in
theorem valid_cF (n : Nd) (B : Nat) (w : World) (h : NRd w B n) (hB : B ≤ w.heap.size) (he : eqN n (own n) = true) (hc : cellsB n = false) :
    Calls Try.prog 51 #[.agg n.cs] w fun e w' => e = .returned (.bool (validN n)) ∧ Gr w w' := by
  rw [valid_tf hc]
  have mixed := mixedOrders
  obtain ⟨W, hW⟩ : ∃ W, W = w.alloc (.cells n.cs 35) := ⟨_, rfl⟩
  have GW := Lib.hid (show Gr w W by rw [hW]; exact (Gr.refl w).alloc _)
  have hg : W.heap[w.heap.size]? = some (.cells n.cs 35 (0, 0)) := by rw [hW]; exact heap_alloc_new w _
  have c0 := fun m os => node_cell (heap_grown hg m os) (i := 0) (v := .int .i64 n.kind) rfl
  have c1 := fun m os => node_cell (heap_grown hg m os) (i := 1) (v := .int .i64 n.gen) rfl
  have c2 := fun m os => node_cell (heap_grown hg m os) (i := 2) (v := .int .i64 n.main) rfl
  have c3 := fun m os => node_cell (heap_grown hg m os) (i := 3) (v := .int .u64 n.bm) rfl
  have c4 := fun m os => node_cell (heap_grown hg m os) (i := 4) (v := .slice n.bA n.bs.length n.bc) rfl
  have c5 := fun m os => node_cell (heap_grown hg m os) (i := 5) (v := .int .u64 n.hash) rfl
  have c6 := fun m os => node_cell (heap_grown hg m os) (i := 6) (v := .string n.key) rfl
  have c7 := fun m os => node_cell (heap_grown hg m os) (i := 7) (v := .int .u64 n.val) rfl
  have c8 := fun m os => node_cell (heap_grown hg m os) (i := 8) (v := .slice n.pA n.ps.length n.pc) rfl
  have c9 := fun m os => node_cell (heap_grown hg m os) (i := 9) (v := .int .i64 n.prev) rfl
  have c10 := fun m os => node_cell (heap_grown hg m os) (i := 10) (v := .int .i64 n.old) rfl
  have c11 := fun m os => node_cell (heap_grown hg m os) (i := 11) (v := .int .i64 n.exp) rfl
  have c12 := fun m os => node_cell (heap_grown hg m os) (i := 12) (v := .int .i64 n.new) rfl
  have c13 := fun m os => node_cell (heap_grown hg m os) (i := 13) (v := .int .i64 n.status) rfl
  have CO := Lib.hid (fun V => own_any n V)
  have CE := Lib.hid (fun (V : World) (hV : Gr w V) => equal_any n (own n) B V (h.gr hB hV) (own_rd (h.gr hB hV)) (Nat.le_trans hB hV.size))
  have CC := Lib.hid (fun V => cells_any n V)
  have CF := Lib.hid (fun (V : World) (hV : Gr w V) => fields_any n B V (h.gr hB hV) (Nat.le_trans hB hV.size))
  rw [he] at CE
  rw [hc] at CC
  have HW := Lib.hid hW.symm
  clear h hB hg hW
  go_enter Try.func51, Try.ntmps51
  go_wp2_with fail
  rw [HW.out]
  go_quiet_grown (first | (go_at_call 62; exact Gr.called (CO.out _)) | (go_at_call 61; exact Gr.called (CE.out _ (GW.out.grow _ _))) | (go_at_call 63; exact Gr.called (CC.out _)))
  go_wp2
  go_ret
  exact ⟨rfl, GW.out.grow _ _⟩

set_option maxHeartbeats 4000000 in
theorem valid_on (n : Nd) (B : Nat) (w : World) (h : NRd w B n) (hB : B ≤ w.heap.size) (he : eqN n (own n) = true) (hc : cellsB n = true) :
    Calls Try.prog 51 #[.agg n.cs] w fun e w' => e = .returned (.bool (validN n)) ∧ Gr w w' := by
  rw [valid_tt he hc]
  have mixed := mixedOrders
  obtain ⟨W, hW⟩ : ∃ W, W = w.alloc (.cells n.cs 35) := ⟨_, rfl⟩
  have GW := Lib.hid (show Gr w W by rw [hW]; exact (Gr.refl w).alloc _)
  have hg : W.heap[w.heap.size]? = some (.cells n.cs 35 (0, 0)) := by rw [hW]; exact heap_alloc_new w _
  have c0 := fun m os => node_cell (heap_grown hg m os) (i := 0) (v := .int .i64 n.kind) rfl
  have c1 := fun m os => node_cell (heap_grown hg m os) (i := 1) (v := .int .i64 n.gen) rfl
  have c2 := fun m os => node_cell (heap_grown hg m os) (i := 2) (v := .int .i64 n.main) rfl
  have c3 := fun m os => node_cell (heap_grown hg m os) (i := 3) (v := .int .u64 n.bm) rfl
  have c4 := fun m os => node_cell (heap_grown hg m os) (i := 4) (v := .slice n.bA n.bs.length n.bc) rfl
  have c5 := fun m os => node_cell (heap_grown hg m os) (i := 5) (v := .int .u64 n.hash) rfl
  have c6 := fun m os => node_cell (heap_grown hg m os) (i := 6) (v := .string n.key) rfl
  have c7 := fun m os => node_cell (heap_grown hg m os) (i := 7) (v := .int .u64 n.val) rfl
  have c8 := fun m os => node_cell (heap_grown hg m os) (i := 8) (v := .slice n.pA n.ps.length n.pc) rfl
  have c9 := fun m os => node_cell (heap_grown hg m os) (i := 9) (v := .int .i64 n.prev) rfl
  have c10 := fun m os => node_cell (heap_grown hg m os) (i := 10) (v := .int .i64 n.old) rfl
  have c11 := fun m os => node_cell (heap_grown hg m os) (i := 11) (v := .int .i64 n.exp) rfl
  have c12 := fun m os => node_cell (heap_grown hg m os) (i := 12) (v := .int .i64 n.new) rfl
  have c13 := fun m os => node_cell (heap_grown hg m os) (i := 13) (v := .int .i64 n.status) rfl
  have CO := Lib.hid (fun V => own_any n V)
  have CE := Lib.hid (fun (V : World) (hV : Gr w V) => equal_any n (own n) B V (h.gr hB hV) (own_rd (h.gr hB hV)) (Nat.le_trans hB hV.size))
  have CC := Lib.hid (fun V => cells_any n V)
  have CF := Lib.hid (fun (V : World) (hV : Gr w V) => fields_any n B V (h.gr hB hV) (Nat.le_trans hB hV.size))
  rw [he] at CE
  rw [hc] at CC
  have HW := Lib.hid hW.symm
  clear h hB hg hW
  go_enter Try.func51, Try.ntmps51
  go_wp2_with fail
  rw [HW.out]
  go_quiet_grown (first | (go_at_call 62; exact Gr.called (CO.out _)) | (go_at_call 61; exact Gr.called (CE.out _ (GW.out.grow _ _))) | (go_at_call 63; exact Gr.called (CC.out _)) | (go_at_call 64; exact Gr.called (CF.out _ (GW.out.grow _ _))))
  go_wp2
  go_ret
  exact ⟨rfl, GW.out.grow _ _⟩

theorem valid_any (n : Nd) (B : Nat) (w : World) (h : NRd w B n) (hB : B ≤ w.heap.size) : Calls Try.prog 51 #[.agg n.cs] w fun e w' => e = .returned (.bool (validN n)) ∧ Gr w w' := by
  cases he : eqN n (own n) with
  | false => exact valid_eF n B w h hB he
  | true =>
    cases hc : cellsB n with
    | false => exact valid_cF n B w h hB he hc
    | true => exact valid_on n B w h hB he hc

end Go.Proofs.Ytbknbjabkhhlfaa
