/-
  The walk of Valid, of the reference.
-/
import Derived.Test.YtcmnmimkjkpimaaLWalksG
import Derived.Test.YtcmnmimkjkpimaaLOwnC
import Derived.Test.YtcmnmimkjkpimaaLEqR
set_option linter.unusedVariables false
set_option maxRecDepth 100000
namespace Go.Proofs.Ytcmnmimkjkpimaa
open Go.Shelf Go.RowKit Go.Lib Go.Sort


set_option maxRecDepth 100000 in
set_option maxHeartbeats 4000000 in
theorem rvalid_lo (n : Nd) (w : World) (hk : n.kind < 1) : Calls Try.prog 45 #[.agg n.cs] w fun e w' => e = .returned (.bool (validN n)) ∧ Gr w w' := by
  rw [show validN n = false by
    have e : fieldsB n = false := by
      unfold fieldsB
      rw [if_neg (by omega), if_neg (by omega), if_neg (by omega), if_neg (by omega), if_neg (by omega), if_neg (by omega), if_neg (by omega), if_neg (by omega)]
    simp [validN, e]]
  have d0 : decide (n.kind < 1) = true := decide_eq_true hk
  clear hk
  have mixed := mixedOrders
  obtain ⟨W, hW⟩ : ∃ W, W = w.alloc (.cells n.cs 44) := ⟨_, rfl⟩
  have GW := Lib.hid (show Gr w W by rw [hW]; exact (Gr.refl w).alloc _)
  have hg : W.heap[w.heap.size]? = some (.cells n.cs 44 (0, 0)) := by rw [hW]; exact heap_alloc_new w _
  have HG := Lib.hid hg
  have c0 := fun m os => node_cell (heap_grown hg m os) (i := 0) (v := .int .i64 n.kind) rfl
  have c1 := fun m os => node_cell (heap_grown hg m os) (i := 1) (v := .int .i64 n.gen) rfl
  have c2 := fun m os => node_cell (heap_grown hg m os) (i := 2) (v := .int .i64 n.main) rfl
  have c3 := fun m os => node_cell (heap_grown hg m os) (i := 3) (v := .int .u64 n.bm) rfl
  have c4 := fun m os => node_cell (heap_grown hg m os) (i := 4) (v := .slice n.bA n.bs.length n.bc) rfl
  have c5 := fun m os => node_cell (heap_grown hg m os) (i := 5) (v := .int .u64 n.hash) rfl
  have c6 := fun m os => node_cell (heap_grown hg m os) (i := 6) (v := .string n.key) rfl
  have c7 := fun m os => node_cell (heap_grown hg m os) (i := 7) (v := .int .u64 n.val) rfl
  have c8 := fun m os => node_cell (heap_grown hg m os) (i := 8) (v := .slice n.pA n.ps.length n.pc) rfl
  have c9 := fun m os => node_cell (heap_grown hg m os) (i := 9) (v := .int .i64 n.prev) rfl
  have c10 := fun m os => node_cell (heap_grown hg m os) (i := 10) (v := .int .i64 n.old) rfl
  have c11 := fun m os => node_cell (heap_grown hg m os) (i := 11) (v := .int .i64 n.exp) rfl
  have c12 := fun m os => node_cell (heap_grown hg m os) (i := 12) (v := .int .i64 n.new) rfl
  have c13 := fun m os => node_cell (heap_grown hg m os) (i := 13) (v := .int .i64 n.status) rfl
  have HW := Lib.hid hW.symm
  clear hg hW
  go_enter Try.func45, Try.ntmps45
  go_wp2_with fail
  rw [HW.out]
  go_quiet_grown (fail)
  go_wp2
  go_ret
  exact ⟨rfl, GW.out.grow _ _⟩

set_option maxRecDepth 100000 in
set_option maxHeartbeats 4000000 in
theorem rvalid_hi (n : Nd) (w : World) (hk : 8 < n.kind) : Calls Try.prog 45 #[.agg n.cs] w fun e w' => e = .returned (.bool (validN n)) ∧ Gr w w' := by
  rw [show validN n = false by
    have e : fieldsB n = false := by
      unfold fieldsB
      rw [if_neg (by omega), if_neg (by omega), if_neg (by omega), if_neg (by omega), if_neg (by omega), if_neg (by omega), if_neg (by omega), if_neg (by omega)]
    simp [validN, e]]
  have d0 : decide (n.kind < 1) = false := decide_eq_false (by omega)
  have d1 : decide (n.kind > 8) = true := decide_eq_true hk
  clear hk
  have mixed := mixedOrders
  obtain ⟨W, hW⟩ : ∃ W, W = w.alloc (.cells n.cs 44) := ⟨_, rfl⟩
  have GW := Lib.hid (show Gr w W by rw [hW]; exact (Gr.refl w).alloc _)
  have hg : W.heap[w.heap.size]? = some (.cells n.cs 44 (0, 0)) := by rw [hW]; exact heap_alloc_new w _
  have HG := Lib.hid hg
  have c0 := fun m os => node_cell (heap_grown hg m os) (i := 0) (v := .int .i64 n.kind) rfl
  have c1 := fun m os => node_cell (heap_grown hg m os) (i := 1) (v := .int .i64 n.gen) rfl
  have c2 := fun m os => node_cell (heap_grown hg m os) (i := 2) (v := .int .i64 n.main) rfl
  have c3 := fun m os => node_cell (heap_grown hg m os) (i := 3) (v := .int .u64 n.bm) rfl
  have c4 := fun m os => node_cell (heap_grown hg m os) (i := 4) (v := .slice n.bA n.bs.length n.bc) rfl
  have c5 := fun m os => node_cell (heap_grown hg m os) (i := 5) (v := .int .u64 n.hash) rfl
  have c6 := fun m os => node_cell (heap_grown hg m os) (i := 6) (v := .string n.key) rfl
  have c7 := fun m os => node_cell (heap_grown hg m os) (i := 7) (v := .int .u64 n.val) rfl
  have c8 := fun m os => node_cell (heap_grown hg m os) (i := 8) (v := .slice n.pA n.ps.length n.pc) rfl
  have c9 := fun m os => node_cell (heap_grown hg m os) (i := 9) (v := .int .i64 n.prev) rfl
  have c10 := fun m os => node_cell (heap_grown hg m os) (i := 10) (v := .int .i64 n.old) rfl
  have c11 := fun m os => node_cell (heap_grown hg m os) (i := 11) (v := .int .i64 n.exp) rfl
  have c12 := fun m os => node_cell (heap_grown hg m os) (i := 12) (v := .int .i64 n.new) rfl
  have c13 := fun m os => node_cell (heap_grown hg m os) (i := 13) (v := .int .i64 n.status) rfl
  have HW := Lib.hid hW.symm
  clear hg hW
  go_enter Try.func45, Try.ntmps45
  go_wp2_with fail
  rw [HW.out]
  go_quiet_grown (fail)
  go_wp2
  go_ret
  exact ⟨rfl, GW.out.grow _ _⟩

theorem valid_off_e {n : Nd} (h : eqN n (own n) = false) : validN n = false := by simp [validN, h]
theorem valid_off_m {n : Nd} (h : n.main < 0) : validN n = false := by
  have : cellsB n = false := by rw [cellsB, decide_eq_false (by omega)]; rfl
  simp [validN, this]
theorem valid_off_p {n : Nd} (h : n.prev < 0) : validN n = false := by
  have : cellsB n = false := by rw [cellsB, decide_eq_false (show ¬ 0 ≤ n.prev by omega)]; simp
  simp [validN, this]
theorem valid_off_s {n : Nd} (h : n.status < 0) : validN n = false := by
  have : cellsB n = false := by rw [cellsB, decide_eq_false (show ¬ 0 ≤ n.status by omega)]; simp
  simp [validN, this]
theorem valid_okk {n : Nd} (e : eqN n (own n) = true) (h1 : 0 ≤ n.main) (h2 : 0 ≤ n.prev) (h3 : 0 ≤ n.status) : validN n = fieldsB n := by
  simp [validN, e, cellsB, h1, h2, h3]

set_option maxRecDepth 100000 in
set_option maxHeartbeats 4000000 in
theorem rvalid_e (n : Nd) (B : Nat) (w : World) (h : NRd w B n) (hB : B ≤ w.heap.size) (h1 : 1 ≤ n.kind) (h8 : n.kind ≤ 8) (he : eqN n (own n) = false) : Calls Try.prog 45 #[.agg n.cs] w fun e w' => e = .returned (.bool (validN n)) ∧ Gr w w' := by
  rw [valid_off_e he]
  have d0 : decide (n.kind < 1) = false := decide_eq_false (by omega)
  have d1 : decide (n.kind > 8) = false := decide_eq_false (by omega)
  have mixed := mixedOrders
  obtain ⟨W, hW⟩ : ∃ W, W = w.alloc (.cells n.cs 44) := ⟨_, rfl⟩
  have GW := Lib.hid (show Gr w W by rw [hW]; exact (Gr.refl w).alloc _)
  have hg : W.heap[w.heap.size]? = some (.cells n.cs 44 (0, 0)) := by rw [hW]; exact heap_alloc_new w _
  have HG := Lib.hid hg
  have c0 := fun m os => node_cell (heap_grown hg m os) (i := 0) (v := .int .i64 n.kind) rfl
  have c1 := fun m os => node_cell (heap_grown hg m os) (i := 1) (v := .int .i64 n.gen) rfl
  have c2 := fun m os => node_cell (heap_grown hg m os) (i := 2) (v := .int .i64 n.main) rfl
  have c3 := fun m os => node_cell (heap_grown hg m os) (i := 3) (v := .int .u64 n.bm) rfl
  have c4 := fun m os => node_cell (heap_grown hg m os) (i := 4) (v := .slice n.bA n.bs.length n.bc) rfl
  have c5 := fun m os => node_cell (heap_grown hg m os) (i := 5) (v := .int .u64 n.hash) rfl
  have c6 := fun m os => node_cell (heap_grown hg m os) (i := 6) (v := .string n.key) rfl
  have c7 := fun m os => node_cell (heap_grown hg m os) (i := 7) (v := .int .u64 n.val) rfl
  have c8 := fun m os => node_cell (heap_grown hg m os) (i := 8) (v := .slice n.pA n.ps.length n.pc) rfl
  have c9 := fun m os => node_cell (heap_grown hg m os) (i := 9) (v := .int .i64 n.prev) rfl
  have c10 := fun m os => node_cell (heap_grown hg m os) (i := 10) (v := .int .i64 n.old) rfl
  have c11 := fun m os => node_cell (heap_grown hg m os) (i := 11) (v := .int .i64 n.exp) rfl
  have c12 := fun m os => node_cell (heap_grown hg m os) (i := 12) (v := .int .i64 n.new) rfl
  have c13 := fun m os => node_cell (heap_grown hg m os) (i := 13) (v := .int .i64 n.status) rfl
  have HW := Lib.hid hW.symm
  have CO := Lib.hid (fun V => only_any n V h1 h8)
  have CE := Lib.hid (fun (V : World) (hV : Gr w V) => requal_any n (own n) B V (h.gr hB hV) (own_rd (h.gr hB hV)) (Nat.le_trans hB hV.size))
  rw [he] at CE
  clear h hB h1 h8
  clear hg hW
  go_enter Try.func45, Try.ntmps45
  go_wp2_with fail
  rw [HW.out]
  go_quiet_grown (first | (go_at_call 60; exact Gr.called (CO.out _)) | (go_at_call 29; exact Gr.called (CE.out _ (GW.out.grow _ _))))
  go_wp2
  go_ret
  exact ⟨rfl, GW.out.grow _ _⟩

set_option maxRecDepth 100000 in
set_option maxHeartbeats 4000000 in
theorem rvalid_m (n : Nd) (B : Nat) (w : World) (h : NRd w B n) (hB : B ≤ w.heap.size) (h1 : 1 ≤ n.kind) (h8 : n.kind ≤ 8) (he : eqN n (own n) = true) (hm : n.main < 0) : Calls Try.prog 45 #[.agg n.cs] w fun e w' => e = .returned (.bool (validN n)) ∧ Gr w w' := by
  rw [valid_off_m hm]
  have d0 : decide (n.kind < 1) = false := decide_eq_false (by omega)
  have d1 : decide (n.kind > 8) = false := decide_eq_false (by omega)
  have dm : decide (n.main < 0) = true := decide_eq_true hm
  clear hm
  have mixed := mixedOrders
  obtain ⟨W, hW⟩ : ∃ W, W = w.alloc (.cells n.cs 44) := ⟨_, rfl⟩
  have GW := Lib.hid (show Gr w W by rw [hW]; exact (Gr.refl w).alloc _)
  have hg : W.heap[w.heap.size]? = some (.cells n.cs 44 (0, 0)) := by rw [hW]; exact heap_alloc_new w _
  have HG := Lib.hid hg
  have c0 := fun m os => node_cell (heap_grown hg m os) (i := 0) (v := .int .i64 n.kind) rfl
  have c1 := fun m os => node_cell (heap_grown hg m os) (i := 1) (v := .int .i64 n.gen) rfl
  have c2 := fun m os => node_cell (heap_grown hg m os) (i := 2) (v := .int .i64 n.main) rfl
  have c3 := fun m os => node_cell (heap_grown hg m os) (i := 3) (v := .int .u64 n.bm) rfl
  have c4 := fun m os => node_cell (heap_grown hg m os) (i := 4) (v := .slice n.bA n.bs.length n.bc) rfl
  have c5 := fun m os => node_cell (heap_grown hg m os) (i := 5) (v := .int .u64 n.hash) rfl
  have c6 := fun m os => node_cell (heap_grown hg m os) (i := 6) (v := .string n.key) rfl
  have c7 := fun m os => node_cell (heap_grown hg m os) (i := 7) (v := .int .u64 n.val) rfl
  have c8 := fun m os => node_cell (heap_grown hg m os) (i := 8) (v := .slice n.pA n.ps.length n.pc) rfl
  have c9 := fun m os => node_cell (heap_grown hg m os) (i := 9) (v := .int .i64 n.prev) rfl
  have c10 := fun m os => node_cell (heap_grown hg m os) (i := 10) (v := .int .i64 n.old) rfl
  have c11 := fun m os => node_cell (heap_grown hg m os) (i := 11) (v := .int .i64 n.exp) rfl
  have c12 := fun m os => node_cell (heap_grown hg m os) (i := 12) (v := .int .i64 n.new) rfl
  have c13 := fun m os => node_cell (heap_grown hg m os) (i := 13) (v := .int .i64 n.status) rfl
  have HW := Lib.hid hW.symm
  have CO := Lib.hid (fun V => only_any n V h1 h8)
  have CE := Lib.hid (fun (V : World) (hV : Gr w V) => requal_any n (own n) B V (h.gr hB hV) (own_rd (h.gr hB hV)) (Nat.le_trans hB hV.size))
  rw [he] at CE
  clear h hB h1 h8
  clear hg hW
  go_enter Try.func45, Try.ntmps45
  go_wp2_with fail
  rw [HW.out]
  go_quiet_grown (first | (go_at_call 60; exact Gr.called (CO.out _)) | (go_at_call 29; exact Gr.called (CE.out _ (GW.out.grow _ _))))
  go_wp2
  go_ret
  exact ⟨rfl, GW.out.grow _ _⟩

set_option maxRecDepth 100000 in
set_option maxHeartbeats 4000000 in
theorem rvalid_p (n : Nd) (B : Nat) (w : World) (h : NRd w B n) (hB : B ≤ w.heap.size) (h1 : 1 ≤ n.kind) (h8 : n.kind ≤ 8) (he : eqN n (own n) = true) (hm : 0 ≤ n.main) (hp : n.prev < 0) : Calls Try.prog 45 #[.agg n.cs] w fun e w' => e = .returned (.bool (validN n)) ∧ Gr w w' := by
  rw [valid_off_p hp]
  have d0 : decide (n.kind < 1) = false := decide_eq_false (by omega)
  have d1 : decide (n.kind > 8) = false := decide_eq_false (by omega)
  have dm : decide (n.main < 0) = false := decide_eq_false (by omega)
  have dp : decide (n.prev < 0) = true := decide_eq_true hp
  clear hm hp
  have mixed := mixedOrders
  obtain ⟨W, hW⟩ : ∃ W, W = w.alloc (.cells n.cs 44) := ⟨_, rfl⟩
  have GW := Lib.hid (show Gr w W by rw [hW]; exact (Gr.refl w).alloc _)
  have hg : W.heap[w.heap.size]? = some (.cells n.cs 44 (0, 0)) := by rw [hW]; exact heap_alloc_new w _
  have HG := Lib.hid hg
  have c0 := fun m os => node_cell (heap_grown hg m os) (i := 0) (v := .int .i64 n.kind) rfl
  have c1 := fun m os => node_cell (heap_grown hg m os) (i := 1) (v := .int .i64 n.gen) rfl
  have c2 := fun m os => node_cell (heap_grown hg m os) (i := 2) (v := .int .i64 n.main) rfl
  have c3 := fun m os => node_cell (heap_grown hg m os) (i := 3) (v := .int .u64 n.bm) rfl
  have c4 := fun m os => node_cell (heap_grown hg m os) (i := 4) (v := .slice n.bA n.bs.length n.bc) rfl
  have c5 := fun m os => node_cell (heap_grown hg m os) (i := 5) (v := .int .u64 n.hash) rfl
  have c6 := fun m os => node_cell (heap_grown hg m os) (i := 6) (v := .string n.key) rfl
  have c7 := fun m os => node_cell (heap_grown hg m os) (i := 7) (v := .int .u64 n.val) rfl
  have c8 := fun m os => node_cell (heap_grown hg m os) (i := 8) (v := .slice n.pA n.ps.length n.pc) rfl
  have c9 := fun m os => node_cell (heap_grown hg m os) (i := 9) (v := .int .i64 n.prev) rfl
  have c10 := fun m os => node_cell (heap_grown hg m os) (i := 10) (v := .int .i64 n.old) rfl
  have c11 := fun m os => node_cell (heap_grown hg m os) (i := 11) (v := .int .i64 n.exp) rfl
  have c12 := fun m os => node_cell (heap_grown hg m os) (i := 12) (v := .int .i64 n.new) rfl
  have c13 := fun m os => node_cell (heap_grown hg m os) (i := 13) (v := .int .i64 n.status) rfl
  have HW := Lib.hid hW.symm
  have CO := Lib.hid (fun V => only_any n V h1 h8)
  have CE := Lib.hid (fun (V : World) (hV : Gr w V) => requal_any n (own n) B V (h.gr hB hV) (own_rd (h.gr hB hV)) (Nat.le_trans hB hV.size))
  rw [he] at CE
  clear h hB h1 h8
  clear hg hW
  go_enter Try.func45, Try.ntmps45
  go_wp2_with fail
  rw [HW.out]
  go_quiet_grown (first | (go_at_call 60; exact Gr.called (CO.out _)) | (go_at_call 29; exact Gr.called (CE.out _ (GW.out.grow _ _))))
  go_wp2
  go_ret
  exact ⟨rfl, GW.out.grow _ _⟩

set_option maxRecDepth 100000 in
set_option maxHeartbeats 4000000 in
theorem rvalid_s (n : Nd) (B : Nat) (w : World) (h : NRd w B n) (hB : B ≤ w.heap.size) (h1 : 1 ≤ n.kind) (h8 : n.kind ≤ 8) (he : eqN n (own n) = true) (hm : 0 ≤ n.main) (hp : 0 ≤ n.prev) (hs : n.status < 0) : Calls Try.prog 45 #[.agg n.cs] w fun e w' => e = .returned (.bool (validN n)) ∧ Gr w w' := by
  rw [valid_off_s hs]
  have d0 : decide (n.kind < 1) = false := decide_eq_false (by omega)
  have d1 : decide (n.kind > 8) = false := decide_eq_false (by omega)
  have dm : decide (n.main < 0) = false := decide_eq_false (by omega)
  have dp : decide (n.prev < 0) = false := decide_eq_false (by omega)
  have ds : decide (n.status < 0) = true := decide_eq_true hs
  clear hm hp hs
  have mixed := mixedOrders
  obtain ⟨W, hW⟩ : ∃ W, W = w.alloc (.cells n.cs 44) := ⟨_, rfl⟩
  have GW := Lib.hid (show Gr w W by rw [hW]; exact (Gr.refl w).alloc _)
  have hg : W.heap[w.heap.size]? = some (.cells n.cs 44 (0, 0)) := by rw [hW]; exact heap_alloc_new w _
  have HG := Lib.hid hg
  have c0 := fun m os => node_cell (heap_grown hg m os) (i := 0) (v := .int .i64 n.kind) rfl
  have c1 := fun m os => node_cell (heap_grown hg m os) (i := 1) (v := .int .i64 n.gen) rfl
  have c2 := fun m os => node_cell (heap_grown hg m os) (i := 2) (v := .int .i64 n.main) rfl
  have c3 := fun m os => node_cell (heap_grown hg m os) (i := 3) (v := .int .u64 n.bm) rfl
  have c4 := fun m os => node_cell (heap_grown hg m os) (i := 4) (v := .slice n.bA n.bs.length n.bc) rfl
  have c5 := fun m os => node_cell (heap_grown hg m os) (i := 5) (v := .int .u64 n.hash) rfl
  have c6 := fun m os => node_cell (heap_grown hg m os) (i := 6) (v := .string n.key) rfl
  have c7 := fun m os => node_cell (heap_grown hg m os) (i := 7) (v := .int .u64 n.val) rfl
  have c8 := fun m os => node_cell (heap_grown hg m os) (i := 8) (v := .slice n.pA n.ps.length n.pc) rfl
  have c9 := fun m os => node_cell (heap_grown hg m os) (i := 9) (v := .int .i64 n.prev) rfl
  have c10 := fun m os => node_cell (heap_grown hg m os) (i := 10) (v := .int .i64 n.old) rfl
  have c11 := fun m os => node_cell (heap_grown hg m os) (i := 11) (v := .int .i64 n.exp) rfl
  have c12 := fun m os => node_cell (heap_grown hg m os) (i := 12) (v := .int .i64 n.new) rfl
  have c13 := fun m os => node_cell (heap_grown hg m os) (i := 13) (v := .int .i64 n.status) rfl
  have HW := Lib.hid hW.symm
  have CO := Lib.hid (fun V => only_any n V h1 h8)
  have CE := Lib.hid (fun (V : World) (hV : Gr w V) => requal_any n (own n) B V (h.gr hB hV) (own_rd (h.gr hB hV)) (Nat.le_trans hB hV.size))
  rw [he] at CE
  clear h hB h1 h8
  clear hg hW
  go_enter Try.func45, Try.ntmps45
  go_wp2_with fail
  rw [HW.out]
  go_quiet_grown (first | (go_at_call 60; exact Gr.called (CO.out _)) | (go_at_call 29; exact Gr.called (CE.out _ (GW.out.grow _ _))))
  go_wp2
  go_ret
  exact ⟨rfl, GW.out.grow _ _⟩

set_option maxRecDepth 100000 in
set_option maxHeartbeats 4000000 in
theorem rvalid_on (n : Nd) (B : Nat) (w : World) (h : NRd w B n) (hB : B ≤ w.heap.size) (h1 : 1 ≤ n.kind) (h8 : n.kind ≤ 8) (he : eqN n (own n) = true) (hm : 0 ≤ n.main) (hp : 0 ≤ n.prev) (hs : 0 ≤ n.status) : Calls Try.prog 45 #[.agg n.cs] w fun e w' => e = .returned (.bool (validN n)) ∧ Gr w w' := by
  rw [valid_okk he hm hp hs]
  have d0 : decide (n.kind < 1) = false := decide_eq_false (by omega)
  have d1 : decide (n.kind > 8) = false := decide_eq_false (by omega)
  have dm : decide (n.main < 0) = false := decide_eq_false (by omega)
  have dp : decide (n.prev < 0) = false := decide_eq_false (by omega)
  have ds : decide (n.status < 0) = false := decide_eq_false (by omega)
  clear hm hp hs
  have mixed := mixedOrders
  obtain ⟨W, hW⟩ : ∃ W, W = w.alloc (.cells n.cs 44) := ⟨_, rfl⟩
  have GW := Lib.hid (show Gr w W by rw [hW]; exact (Gr.refl w).alloc _)
  have hg : W.heap[w.heap.size]? = some (.cells n.cs 44 (0, 0)) := by rw [hW]; exact heap_alloc_new w _
  have HG := Lib.hid hg
  have c0 := fun m os => node_cell (heap_grown hg m os) (i := 0) (v := .int .i64 n.kind) rfl
  have c1 := fun m os => node_cell (heap_grown hg m os) (i := 1) (v := .int .i64 n.gen) rfl
  have c2 := fun m os => node_cell (heap_grown hg m os) (i := 2) (v := .int .i64 n.main) rfl
  have c3 := fun m os => node_cell (heap_grown hg m os) (i := 3) (v := .int .u64 n.bm) rfl
  have c4 := fun m os => node_cell (heap_grown hg m os) (i := 4) (v := .slice n.bA n.bs.length n.bc) rfl
  have c5 := fun m os => node_cell (heap_grown hg m os) (i := 5) (v := .int .u64 n.hash) rfl
  have c6 := fun m os => node_cell (heap_grown hg m os) (i := 6) (v := .string n.key) rfl
  have c7 := fun m os => node_cell (heap_grown hg m os) (i := 7) (v := .int .u64 n.val) rfl
  have c8 := fun m os => node_cell (heap_grown hg m os) (i := 8) (v := .slice n.pA n.ps.length n.pc) rfl
  have c9 := fun m os => node_cell (heap_grown hg m os) (i := 9) (v := .int .i64 n.prev) rfl
  have c10 := fun m os => node_cell (heap_grown hg m os) (i := 10) (v := .int .i64 n.old) rfl
  have c11 := fun m os => node_cell (heap_grown hg m os) (i := 11) (v := .int .i64 n.exp) rfl
  have c12 := fun m os => node_cell (heap_grown hg m os) (i := 12) (v := .int .i64 n.new) rfl
  have c13 := fun m os => node_cell (heap_grown hg m os) (i := 13) (v := .int .i64 n.status) rfl
  have HW := Lib.hid hW.symm
  have CO := Lib.hid (fun V => only_any n V h1 h8)
  have CE := Lib.hid (fun (V : World) (hV : Gr w V) => requal_any n (own n) B V (h.gr hB hV) (own_rd (h.gr hB hV)) (Nat.le_trans hB hV.size))
  rw [he] at CE
  have CC := Lib.hid (fun V => rcount_any n.bm h.bm V)
  have CV := Lib.hid (fun (V : World) (hV : Gr w V) => prvalid_any n.pA n.pc n.ps B V (h.p.gr hB hV) (Nat.lt_of_le_of_lt h.pl (by omega)))
  have CK := Lib.hid (fun (V : World) (hV : Gr w V) => rkeys_any n.pA n.pc n.ps B V (h.p.gr hB hV) (Nat.le_trans h.pl (by omega)))
  have RR := Lib.hid (fun (V : World) (hV : Gr w V) => h.r.gr hB hV)
  have bl := h.bl
  have pl := h.pl
  clear h hB
  clear hg hW
  go_enter Try.func45, Try.ntmps45
  go_wp2_with fail
  rw [HW.out]
  go_quiet_grown (first | (go_at_call 60; exact Gr.called (CO.out _)) | (go_at_call 29; exact Gr.called (CE.out _ (GW.out.grow _ _))))
  have GV := Lib.hid (GW.out.grow nq osq)
  have HV := Lib.hid (heap_grown HG.out nq osq)
  clear c0 c1 c2 c3 c4 c5 c6 c7 c8 c9 c10 c11 c12 c13 dm dp ds d0 d1 CO CE
  generalize grow (W.drewN nq) osq = V at GV HV ⊢
  have c0 := node_cell HV.out (i := 0) (v := .int .i64 n.kind) rfl
  have c1 := node_cell HV.out (i := 1) (v := .int .i64 n.gen) rfl
  have c3 := node_cell HV.out (i := 3) (v := .int .u64 n.bm) rfl
  have c4 := node_cell HV.out (i := 4) (v := .slice n.bA n.bs.length n.bc) rfl
  have c6 := node_cell HV.out (i := 6) (v := .string n.key) rfl
  have c8 := node_cell HV.out (i := 8) (v := .slice n.pA n.ps.length n.pc) rfl
  have c10 := node_cell HV.out (i := 10) (v := .int .i64 n.old) rfl
  have c11 := node_cell HV.out (i := 11) (v := .int .i64 n.exp) rfl
  have c12 := node_cell HV.out (i := 12) (v := .int .i64 n.new) rfl
  by_cases hk : n.kind = 1
  · have S := Lib.hid (show fieldsB n = (true) by simp [fieldsB, hk])
    have f2 : (n.kind == 2) = false := beq_eq_false_iff_ne.2 (by omega)
    have f3 : (n.kind == 3) = false := beq_eq_false_iff_ne.2 (by omega)
    have f4 : (n.kind == 4) = false := beq_eq_false_iff_ne.2 (by omega)
    have f5 : (n.kind == 5) = false := beq_eq_false_iff_ne.2 (by omega)
    have f6 : (n.kind == 6) = false := beq_eq_false_iff_ne.2 (by omega)
    have f7 : (n.kind == 7) = false := beq_eq_false_iff_ne.2 (by omega)
    have f8 : (n.kind == 8) = false := beq_eq_false_iff_ne.2 (by omega)
    clear hk h1 h8
    go_wp2
    go_ret
    exact ⟨ret_bool S.out.symm, GV.out⟩
  by_cases hk : n.kind = 2
  · have S := Lib.hid (show fieldsB n = (decide (1 ≤ n.gen)) by simp [fieldsB, hk])
    have f2 : (n.kind == 2) = true := beq_iff_eq.2 hk
    clear hk h1 h8
    go_wp2
    go_ret
    exact ⟨ret_bool S.out.symm, GV.out⟩
  by_cases hk : n.kind = 3
  · have S := Lib.hid (show fieldsB n = (((n.bs.length : Int) == cntI n.bm) && !lowB n.bs) by simp [fieldsB, hk])
    have f2 : (n.kind == 2) = false := beq_eq_false_iff_ne.2 (by omega)
    have f3 : (n.kind == 3) = true := beq_iff_eq.2 hk
    clear hk h1 h8
    have hr := RR.out V GV.out
    have R := Lib.hid hr
    clear hr RR CV CK c1 c6 c8 c10 c11 c12
    have c3' := Lib.hid c3
    clear c3
    go_wp2_with fail
    go_loopg [3] n.bs.length (fun kx s3 wr => ∃ i : Nat, s3 = .int .i64 i ∧ i ≤ n.bs.length ∧ n.bs.length - i ≤ kx ∧ V = wr ∧ Aside (∀ j z, j < i → n.bs[j]? = some z → lowK z = false))
    case atStart => exact ⟨0, rfl, Nat.zero_le _, by omega, rfl, (fun j z hj => absurd hj (Nat.not_lt_zero _))⟩
    case round =>
      obtain ⟨i, rfl, hi, hkx, rfl, I⟩ := hrel
      by_cases hlt : i < n.bs.length
      · have hltz : (i : Int) < (n.bs.length : Int) := by omega
        obtain ⟨ad, z, hA, hb, hx, d0⟩ := R.out.at_ hlt
        rw [hA] at c4
        have X := Lib.hid hx
        have HA := Lib.hid hA
        clear hx hA
        by_cases hz : z < 1
        · have HZ := Lib.hid (show lowK z = true from decide_eq_true hz)
          go_wp2
          go_ret
          exact ⟨ret_bool (by rw [S.out, lowB_true X.out HZ.out]; simp), GV.out⟩
        · have HZ := Lib.hid (show lowK z = false from decide_eq_false hz)
          go_wp2
          go_roundg (n.bs.length - (i + 1))
          case measure => omega
          case rel =>
            refine ⟨i + 1, by go_num, by omega, Nat.le_refl _, rfl, (show ∀ j z, _ from fun j y hj hx => ?_)⟩
            by_cases e : j = i
            · subst e; rw [X.out] at hx; injection hx with hx; rw [← hx]; exact HZ.out
            · exact I.out j y (by omega) hx
      · obtain rfl : i = n.bs.length := by omega
        have c3 := c3'.out
        go_wp2_with fail
        go_quiet ((go_at_call 61; exact Calls.quiet_of ((CC.out _).mono fun _ _ ⟨h1, h2⟩ => ⟨h1, 0, h2.symm⟩)))
        go_wp2
        go_ret
        exact ⟨ret_bool (by rw [S.out, lowB_false I.out]; simp), GV.out.drewN _⟩
  by_cases hk : n.kind = 4
  · have S0 := show fieldsB n = !longK n.key by simp [fieldsB, hk]
    have f2 : (n.kind == 2) = false := beq_eq_false_iff_ne.2 (by omega)
    have f3 : (n.kind == 3) = false := beq_eq_false_iff_ne.2 (by omega)
    have f4 : (n.kind == 4) = true := beq_iff_eq.2 hk
    clear hk h1 h8
    by_cases hl : (64 : Int) < (n.key.size : Int)
    · rw [show longK n.key = true from decide_eq_true hl] at S0
      have S := Lib.hid S0
      clear S0
      have d : decide ((n.key.size : Int) ≤ 64) = false := decide_eq_false (by omega)
      go_wp2
      go_ret
      exact ⟨ret_bool S.out.symm, GV.out⟩
    · rw [show longK n.key = false from decide_eq_false hl] at S0
      have S := Lib.hid S0
      clear S0
      have d : decide ((n.key.size : Int) ≤ 64) = true := decide_eq_true (by omega)
      go_wp2
      go_ret
      exact ⟨ret_bool S.out.symm, GV.out⟩
  by_cases hk : n.kind = 5
  · have S0 := show fieldsB n = !longK n.key by simp [fieldsB, hk]
    have f2 : (n.kind == 2) = false := beq_eq_false_iff_ne.2 (by omega)
    have f3 : (n.kind == 3) = false := beq_eq_false_iff_ne.2 (by omega)
    have f4 : (n.kind == 4) = false := beq_eq_false_iff_ne.2 (by omega)
    have f5 : (n.kind == 5) = true := beq_iff_eq.2 hk
    clear hk h1 h8
    by_cases hl : (64 : Int) < (n.key.size : Int)
    · rw [show longK n.key = true from decide_eq_true hl] at S0
      have S := Lib.hid S0
      clear S0
      have d : decide ((n.key.size : Int) ≤ 64) = false := decide_eq_false (by omega)
      go_wp2
      go_ret
      exact ⟨ret_bool S.out.symm, GV.out⟩
    · rw [show longK n.key = false from decide_eq_false hl] at S0
      have S := Lib.hid S0
      clear S0
      have d : decide ((n.key.size : Int) ≤ 64) = true := decide_eq_true (by omega)
      go_wp2
      go_ret
      exact ⟨ret_bool S.out.symm, GV.out⟩
  by_cases hk : n.kind = 6
  · have S0 := show fieldsB n = (decide (2 ≤ n.ps.length) && (validB n.ps && !longB n.ps)) by simp [fieldsB, hk]
    have f2 : (n.kind == 2) = false := beq_eq_false_iff_ne.2 (by omega)
    have f3 : (n.kind == 3) = false := beq_eq_false_iff_ne.2 (by omega)
    have f4 : (n.kind == 4) = false := beq_eq_false_iff_ne.2 (by omega)
    have f5 : (n.kind == 5) = false := beq_eq_false_iff_ne.2 (by omega)
    have f6 : (n.kind == 6) = true := beq_iff_eq.2 hk
    clear hk h1 h8
    by_cases hc : 2 ≤ n.ps.length
    · have d : decide ((n.ps.length : Int) ≥ 2) = true := decide_eq_true (by omega)
      rw [decide_eq_true hc] at S0
      cases hv : validB n.ps with
      | true =>
        rw [hv] at CV S0
        have S := Lib.hid S0
        clear hc hv S0
        go_wp2_with (first | (go_at_call 62; refine (CV.out _ GV.out).mono ?_; rintro e w1 ⟨rfl, q1, rfl⟩) | (go_at_call 63; refine (CK.out _ (GV.out.drewN _)).mono ?_; rintro e w2 ⟨rfl, rfl⟩))
        go_ret
        exact ⟨ret_bool (by rw [S.out]; simp), GV.out.drewN _⟩
      | false =>
        rw [hv] at CV S0
        have S := Lib.hid S0
        clear hc hv S0
        go_wp2_with (first | (go_at_call 62; refine (CV.out _ GV.out).mono ?_; rintro e w1 ⟨rfl, q1, rfl⟩))
        go_ret
        exact ⟨ret_bool (by rw [S.out]; simp), GV.out.drewN _⟩
    · have d : decide ((n.ps.length : Int) ≥ 2) = false := decide_eq_false (by omega)
      rw [decide_eq_false hc] at S0
      have S := Lib.hid S0
      clear hc S0
      go_wp2
      go_ret
      exact ⟨ret_bool (by rw [S.out]; simp), GV.out⟩
  by_cases hk : n.kind = 7
  · have S := Lib.hid (show fieldsB n = !lowK n.old by simp [fieldsB, hk])
    have f2 : (n.kind == 2) = false := beq_eq_false_iff_ne.2 (by omega)
    have f3 : (n.kind == 3) = false := beq_eq_false_iff_ne.2 (by omega)
    have f4 : (n.kind == 4) = false := beq_eq_false_iff_ne.2 (by omega)
    have f5 : (n.kind == 5) = false := beq_eq_false_iff_ne.2 (by omega)
    have f6 : (n.kind == 6) = false := beq_eq_false_iff_ne.2 (by omega)
    have f7 : (n.kind == 7) = true := beq_iff_eq.2 hk
    clear hk h1 h8
    go_wp2
    go_ret
    exact ⟨ret_bool (by rw [S.out, Bool.eq_iff_iff]; simp [lowK] <;> omega), GV.out⟩
  have hk : n.kind = 8 := by omega
  have S0 := show fieldsB n = (!lowK n.old && (!lowK n.exp && !lowK n.new)) by simp [fieldsB, hk]
  have f2 : (n.kind == 2) = false := beq_eq_false_iff_ne.2 (by omega)
  have f3 : (n.kind == 3) = false := beq_eq_false_iff_ne.2 (by omega)
  have f4 : (n.kind == 4) = false := beq_eq_false_iff_ne.2 (by omega)
  have f5 : (n.kind == 5) = false := beq_eq_false_iff_ne.2 (by omega)
  have f6 : (n.kind == 6) = false := beq_eq_false_iff_ne.2 (by omega)
  have f7 : (n.kind == 7) = false := beq_eq_false_iff_ne.2 (by omega)
  have f8 : (n.kind == 8) = true := beq_iff_eq.2 hk
  clear hk h1 h8
  by_cases ho : 1 ≤ n.old
  · rw [show lowK n.old = false from decide_eq_false (by omega)] at S0
    have do_ : decide (n.old ≥ 1) = true := decide_eq_true ho
    by_cases hx : 1 ≤ n.exp
    · rw [show lowK n.exp = false from decide_eq_false (by omega)] at S0
      have dx : decide (n.exp ≥ 1) = true := decide_eq_true hx
      by_cases hy : 1 ≤ n.new
      · rw [show lowK n.new = false from decide_eq_false (by omega)] at S0
        have dy : decide (n.new ≥ 1) = true := decide_eq_true hy
        have S := Lib.hid S0
        clear S0
        go_wp2
        go_ret
        exact ⟨ret_bool (by rw [S.out]; simp), GV.out⟩
      · rw [show lowK n.new = true from decide_eq_true (by omega)] at S0
        have dy : decide (n.new ≥ 1) = false := decide_eq_false hy
        have S := Lib.hid S0
        clear S0
        go_wp2
        go_ret
        exact ⟨ret_bool (by rw [S.out]; simp), GV.out⟩
    · rw [show lowK n.exp = true from decide_eq_true (by omega)] at S0
      have dx : decide (n.exp ≥ 1) = false := decide_eq_false hx
      have S := Lib.hid S0
      clear S0
      go_wp2
      go_ret
      exact ⟨ret_bool (by rw [S.out]; simp), GV.out⟩
  · rw [show lowK n.old = true from decide_eq_true (by omega)] at S0
    have do_ : decide (n.old ≥ 1) = false := decide_eq_false ho
    have S := Lib.hid S0
    clear S0
    go_wp2
    go_ret
    exact ⟨ret_bool (by rw [S.out]; simp), GV.out⟩

theorem rvalid_any (n : Nd) (B : Nat) (w : World) (h : NRd w B n) (hB : B ≤ w.heap.size) : Calls Try.prog 45 #[.agg n.cs] w fun e w' => e = .returned (.bool (validN n)) ∧ Gr w w' := by
  by_cases h1 : 1 ≤ n.kind
  · by_cases h8 : n.kind ≤ 8
    · cases he : eqN n (own n) with
      | false => exact rvalid_e n B w h hB h1 h8 he
      | true =>
        by_cases hm : 0 ≤ n.main
        · by_cases hp : 0 ≤ n.prev
          · by_cases hs : 0 ≤ n.status
            · exact rvalid_on n B w h hB h1 h8 he hm hp hs
            · exact rvalid_s n B w h hB h1 h8 he hm hp (by omega)
          · exact rvalid_p n B w h hB h1 h8 he hm (by omega)
        · exact rvalid_m n B w h hB h1 h8 he (by omega)
    · exact rvalid_hi n w (by omega)
  · exact rvalid_lo n w (by omega)

end Go.Proofs.Ytcmnmimkjkpimaa
