/-
  Layer 7: the store of a node; C-nodes and their only branch; a node as Go passes it; valid collision lists.
-/
import Derived.Test.YtpopoihggomfiaaWalksG
import Derived.Test.YtpopoihggomfiaaWalksH
import Derived.Test.YtpopoihggomfiaaWalksI
import Derived.Test.YtpopoihggomfiaaWalksZ
import Derived.Deep.WholeRow
set_option linter.unusedVariables false
set_option maxRecDepth 100000
namespace Go.Proofs.Ytpopoihggomfiaa
open Go.Shelf Go.RowKit Go.Lib Go.Sort

def storeNode (p v : Value) : Sem Unit := Instr.storeAt 28 p v
theorem exec_storeN (ρ : Operand → Value) (dst : Option Tmp) (x y : Operand) (ty : TypeId) (pos : String) (after : Array Edge) (guard : Option (Nat × Bool)) :
    execOp ρ { dst, op := .store 28 x y, type := ty, pos, after, guard } = (do storeNode (ρ x) (ρ y); pure .skip) := rfl
theorem run_storeNode {V : World} {b : Nat} {old : Array Value} {t : TypeId} (n : Nd) (hg : V.heap[b]? = some (.cells old t (0, 0))) (ho : old.size = 14) :
    Sem.run Try.prog (storeNode (.pointer (some ⟨b, 0, none⟩)) (.agg n.cs)) V = .ok () (V.setRow b n.cs) := by
  have hi : (Try.prog.info? 28).map (·.size) = some n.cs.size := nodeSize
  simp only [storeNode, Instr.storeAt, Instr.sureAddr, Sem.run_bind, Sem.run_pure, Result.andThen]
  exact run_storeVar_row V b t 28 old n.cs hg hi ho (cs_all n)
theorem run_storeNode_new (X : World) (n : Nd) :
    Sem.run Try.prog (storeNode (.pointer (some ⟨X.heap.size, 0, none⟩)) (.agg n.cs)) (X.alloc (.cells #[.int .i64 0, .int .i64 0, .int .i64 0, .int .u64 0, .slice none 0 0, .int .u64 0, .string ⟨#[]⟩, .int .u64 0, .slice none 0 0, .int .i64 0, .int .i64 0, .int .i64 0, .int .i64 0, .int .i64 0] 28)) = .ok () (X.alloc (.cells n.cs 28)) := by
  rw [run_storeNode n (heap_alloc_new X _) rfl, World.setRow_alloc_new]
theorem run_storeNode_zero (X : World) :
    Sem.run Try.prog (storeNode (.pointer (some ⟨X.heap.size, 0, none⟩)) (.agg #[.int .i64 0, .int .i64 0, .int .i64 0, .int .u64 0, .slice none 0 0, .int .u64 0, .string ⟨#[]⟩, .int .u64 0, .slice none 0 0, .int .i64 0, .int .i64 0, .int .i64 0, .int .i64 0, .int .i64 0])) (X.alloc (.cells #[.int .i64 0, .int .i64 0, .int .i64 0, .int .u64 0, .slice none 0 0, .int .u64 0, .string ⟨#[]⟩, .int .u64 0, .slice none 0 0, .int .i64 0, .int .i64 0, .int .i64 0, .int .i64 0, .int .i64 0] 28)) = .ok () (X.alloc (.cells #[.int .i64 0, .int .i64 0, .int .i64 0, .int .u64 0, .slice none 0 0, .int .u64 0, .string ⟨#[]⟩, .int .u64 0, .slice none 0 0, .int .i64 0, .int .i64 0, .int .i64 0, .int .i64 0, .int .i64 0] 28)) := run_storeNode_new X Nd.zero
/-- The value of a block that holds a node. -/
theorem node_vals {V : World} {b : Nat} {n : Nd} (h : V.heap[b]? = some (.cells n.cs 28 (0, 0))) :
    V.cell? ⟨b, 0, none⟩ = some (.int .i64 n.kind) ∧ V.cell? ⟨b, 1, none⟩ = some (.int .i64 n.gen) ∧ V.cell? ⟨b, 2, none⟩ = some (.int .i64 n.main) ∧ V.cell? ⟨b, 3, none⟩ = some (.int .u64 n.bm) ∧
    V.cell? ⟨b, 4, none⟩ = some (.slice n.bA n.bs.length n.bc) ∧ V.cell? ⟨b, 5, none⟩ = some (.int .u64 n.hash) ∧ V.cell? ⟨b, 6, none⟩ = some (.string n.key) ∧ V.cell? ⟨b, 7, none⟩ = some (.int .u64 n.val) ∧
    V.cell? ⟨b, 8, none⟩ = some (.slice n.pA n.ps.length n.pc) ∧ V.cell? ⟨b, 9, none⟩ = some (.int .i64 n.prev) ∧ V.cell? ⟨b, 10, none⟩ = some (.int .i64 n.old) ∧ V.cell? ⟨b, 11, none⟩ = some (.int .i64 n.exp) ∧
    V.cell? ⟨b, 12, none⟩ = some (.int .i64 n.new) ∧ V.cell? ⟨b, 13, none⟩ = some (.int .i64 n.status) :=
  ⟨node_cellA h rfl, node_cellA h rfl, node_cellA h rfl, node_cellA h rfl, node_cellA h rfl, node_cellA h rfl, node_cellA h rfl, node_cellA h rfl, node_cellA h rfl, node_cellA h rfl, node_cellA h rfl, node_cellA h rfl, node_cellA h rfl, node_cellA h rfl⟩
theorem node_frozen' {V : World} {b : Nat} {cs : Array Value} (h : V.heap[b]? = some (.cells cs 28 (0, 0))) (i : Nat) : V.frozen? ⟨b, i, none⟩ = false := node_frozen h i
attribute [local go_sem ↓] exec_load28 exec_storeN
/-- A valid C-node. -/
noncomputable def isC (n : Nd) : Bool := n.kind == 3 && validN n
noncomputable def soleB (n : Nd) : Bool := isC n && decide (n.bs.length = 1)
noncomputable def soleV (n : Nd) : Int := if soleB n then n.bs.getD 0 0 else 0

set_option maxHeartbeats 2000000 in
theorem validC_any (n : Nd) (B : Nat) (w : World) (h : NRd w B n) (hB : B ≤ w.heap.size) :
    Calls Try.prog 51 #[.agg n.cs] w fun e w' => e = .returned (.bool (isC n)) ∧ Gr w w' := by
  obtain ⟨W, hW⟩ : ∃ W, W = w.alloc (.cells n.cs 28) := ⟨_, rfl⟩
  have GW := Lib.hid (show Gr w W by rw [hW]; exact (Gr.refl w).alloc _)
  have hg : W.heap[w.heap.size]? = some (.cells n.cs 28 (0, 0)) := by rw [hW]; exact heap_alloc_new w _
  have c0 := node_cell hg (i := 0) (v := .int .i64 n.kind) rfl
  have lv := run_loadNode hg
  have CV := Lib.hid (valid_any n B W (h.gr hB GW.out) (Nat.le_trans hB GW.out.size))
  have HW := Lib.hid hW.symm
  have E := Lib.hid (show isC n = (n.kind == 3 && validN n) from rfl)
  clear h hB hg hW
  cases hk : n.kind == 3
  all_goals
    go_enter Try.func51, Try.ntmps51
    go_upto_region 1 with (fail)
    rw [HW.out]
    go_wp2_with (go_at_call 54; refine CV.out.mono ?_; rintro e w' ⟨rfl, hg⟩; have G := Lib.hid hg; clear hg)
    go_ret
  · exact ⟨ret_bool (by rw [E.out, hk]; rfl), GW.out⟩
  · exact ⟨ret_bool (by rw [E.out, hk]; rfl), GW.out.trans G.out⟩
set_option maxHeartbeats 2000000 in
theorem is_any (n : Nd) (B : Nat) (w : World) (h : NRd w B n) (hB : B ≤ w.heap.size) :
    Calls Try.prog 59 #[.agg n.cs] w fun e w' => e = .returned (.bool (isC n)) ∧ Gr w w' := by
  obtain ⟨W, hW⟩ : ∃ W, W = w.alloc (.cells n.cs 28) := ⟨_, rfl⟩
  have GW := Lib.hid (show Gr w W by rw [hW]; exact (Gr.refl w).alloc _)
  have hg : W.heap[w.heap.size]? = some (.cells n.cs 28 (0, 0)) := by rw [hW]; exact heap_alloc_new w _
  have c0 := node_cell hg (i := 0) (v := .int .i64 n.kind) rfl
  have lv := run_loadNode hg
  have CV := Lib.hid (rvalid_any n B W (h.gr hB GW.out) (Nat.le_trans hB GW.out.size))
  have HW := Lib.hid hW.symm
  have E := Lib.hid (show isC n = (n.kind == 3 && validN n) from rfl)
  clear h hB hg hW
  cases hk : n.kind == 3
  all_goals
    go_enter Try.func59, Try.ntmps59
    go_upto_region 1 with (fail)
    rw [HW.out]
    go_wp2_with (go_at_call 19; refine CV.out.mono ?_; rintro e w' ⟨rfl, hg⟩; have G := Lib.hid hg; clear hg)
    go_ret
  · exact ⟨ret_bool (by rw [E.out, hk]; rfl), GW.out⟩
  · exact ⟨ret_bool (by rw [E.out, hk]; rfl), GW.out.trans G.out⟩
set_option maxHeartbeats 4000000 in
theorem sole_any (n : Nd) (B : Nat) (w : World) (h : NRd w B n) (hB : B ≤ w.heap.size) :
    Calls Try.prog 31 #[.agg n.cs] w fun e w' => e = .returned (.tuple #[.int .i64 (soleV n), .bool (soleB n)]) ∧ Gr w w' := by
  obtain ⟨W, hW⟩ : ∃ W, W = w.alloc (.cells n.cs 28) := ⟨_, rfl⟩
  have GW := Lib.hid (show Gr w W by rw [hW]; exact (Gr.refl w).alloc _)
  have hg : W.heap[w.heap.size]? = some (.cells n.cs 28 (0, 0)) := by rw [hW]; exact heap_alloc_new w _
  have lv := run_loadNode hg
  have CV := Lib.hid (validC_any n B W (h.gr hB GW.out) (Nat.le_trans hB GW.out.size))
  have RW := Lib.hid (show RdR W B n.bA n.bs from (h.gr hB GW.out).r)
  have hlt : B ≤ W.heap.size := Nat.le_trans hB GW.out.size
  have HW := Lib.hid hW.symm
  have hbl := h.bl
  cases hc : isC n with
  | false =>
    have E := Lib.hid (show soleB n = false by simp [soleB, hc])
    have E2 := Lib.hid (show soleV n = 0 by simp [soleV, E.out])
    rw [E.out, E2.out]
    rw [hc] at CV
    clear h hB hg hW hc hlt
    go_enter Try.func31, Try.ntmps31
    go_upto_region 1 with (fail)
    rw [HW.out]
    go_wp2_with (go_at_call 51; refine CV.out.mono ?_; rintro e w' ⟨rfl, hg⟩; have G := Lib.hid hg; clear hg)
    exact bodyPost_ret (v := .tuple #[.int .i64 0, .bool false]) (by simp [results, Try.results31]) rfl ⟨rfl, GW.out.trans G.out⟩
  | true =>
    have C4 := Lib.hid (fun V (hV : Gr W V) => node_cell ((hV.b.block w.heap.size (Array.getElem?_eq_some_iff.1 hg).1).trans hg) (i := 4) (v := .slice n.bA n.bs.length n.bc) rfl)
    by_cases hl : n.bs.length = 1
    · obtain ⟨ad, z, hA, hb, hz, hcell⟩ := RW.out.at_ (i := 0) (by omega)
      have E := Lib.hid (show soleB n = true by simp [soleB, hc, hl])
      have E2 := Lib.hid (show soleV n = z by simp [soleV, E.out, List.getD, hz])
      rw [E.out, E2.out]
      rw [hc] at CV
      have C5 := Lib.hid (fun V (hV : Gr W V) => (hV.b.cell (p := ad.add 0) (by rw [block_add]; omega)).trans hcell)
      rw [hA, hl] at C4
      rw [add_zero_] at C5
      clear h hB hg hW hc hlt hcell hb hA
      go_enter Try.func31, Try.ntmps31
      go_upto_region 1 with (fail)
      rw [HW.out]
      go_wp2_with (go_at_call 51; refine CV.out.mono ?_; rintro e w1 ⟨rfl, hg⟩; have G := Lib.hid hg; have d4 := C4.out w1 hg; have d5 := C5.out w1 hg; clear hg)
      exact bodyPost_ret (v := .tuple #[.int .i64 z, .bool true]) (by simp [results, Try.results31]) rfl ⟨rfl, GW.out.trans G.out⟩
    · have E := Lib.hid (show soleB n = false by simp [soleB, hl])
      have E2 := Lib.hid (show soleV n = 0 by simp [soleV, E.out])
      rw [E.out, E2.out]
      rw [hc] at CV
      have hl' : ¬ (n.bs.length : Int) = 1 := by omega
      clear h hB hg hW hc hlt hl
      go_enter Try.func31, Try.ntmps31
      go_upto_region 1 with (fail)
      rw [HW.out]
      go_wp2_with (go_at_call 51; refine CV.out.mono ?_; rintro e w1 ⟨rfl, hg⟩; have G := Lib.hid hg; have d4 := C4.out w1 hg; clear hg)
      exact bodyPost_ret (v := .tuple #[.int .i64 0, .bool false]) (by simp [results, Try.results31]) rfl ⟨rfl, GW.out.trans G.out⟩
set_option maxHeartbeats 4000000 in
theorem rsole_any (n : Nd) (B : Nat) (w : World) (h : NRd w B n) (hB : B ≤ w.heap.size) :
    Calls Try.prog 48 #[.agg n.cs] w fun e w' => e = .returned (.tuple #[.int .i64 (soleV n), .bool (soleB n)]) ∧ Gr w w' := by
  obtain ⟨W, hW⟩ : ∃ W, W = w.alloc (.cells n.cs 28) := ⟨_, rfl⟩
  have GW := Lib.hid (show Gr w W by rw [hW]; exact (Gr.refl w).alloc _)
  have hg : W.heap[w.heap.size]? = some (.cells n.cs 28 (0, 0)) := by rw [hW]; exact heap_alloc_new w _
  have lv := run_loadNode hg
  have CV := Lib.hid (is_any n B W (h.gr hB GW.out) (Nat.le_trans hB GW.out.size))
  have RW := Lib.hid (show RdR W B n.bA n.bs from (h.gr hB GW.out).r)
  have hlt : B ≤ W.heap.size := Nat.le_trans hB GW.out.size
  have HW := Lib.hid hW.symm
  have hbl := h.bl
  cases hc : isC n with
  | false =>
    have E := Lib.hid (show soleB n = false by simp [soleB, hc])
    have E2 := Lib.hid (show soleV n = 0 by simp [soleV, E.out])
    rw [E.out, E2.out]
    rw [hc] at CV
    clear h hB hg hW hc hlt
    go_enter Try.func48, Try.ntmps48
    go_upto_region 1 with (fail)
    rw [HW.out]
    go_wp2_with (go_at_call 59; refine CV.out.mono ?_; rintro e w' ⟨rfl, hg⟩; have G := Lib.hid hg; clear hg)
    exact bodyPost_ret (v := .tuple #[.int .i64 0, .bool false]) (by simp [results, Try.results48]) rfl ⟨rfl, GW.out.trans G.out⟩
  | true =>
    have C4 := Lib.hid (fun V (hV : Gr W V) => node_cell ((hV.b.block w.heap.size (Array.getElem?_eq_some_iff.1 hg).1).trans hg) (i := 4) (v := .slice n.bA n.bs.length n.bc) rfl)
    by_cases hl : n.bs.length = 1
    · obtain ⟨ad, z, hA, hb, hz, hcell⟩ := RW.out.at_ (i := 0) (by omega)
      have E := Lib.hid (show soleB n = true by simp [soleB, hc, hl])
      have E2 := Lib.hid (show soleV n = z by simp [soleV, E.out, List.getD, hz])
      rw [E.out, E2.out]
      rw [hc] at CV
      have C5 := Lib.hid (fun V (hV : Gr W V) => (hV.b.cell (p := ad.add 0) (by rw [block_add]; omega)).trans hcell)
      rw [hA, hl] at C4
      rw [add_zero_] at C5
      clear h hB hg hW hc hlt hcell hb hA
      go_enter Try.func48, Try.ntmps48
      go_upto_region 1 with (fail)
      rw [HW.out]
      go_wp2_with (go_at_call 59; refine CV.out.mono ?_; rintro e w1 ⟨rfl, hg⟩; have G := Lib.hid hg; have d4 := C4.out w1 hg; have d5 := C5.out w1 hg; clear hg)
      exact bodyPost_ret (v := .tuple #[.int .i64 z, .bool true]) (by simp [results, Try.results48]) rfl ⟨rfl, GW.out.trans G.out⟩
    · have E := Lib.hid (show soleB n = false by simp [soleB, hl])
      have E2 := Lib.hid (show soleV n = 0 by simp [soleV, E.out])
      rw [E.out, E2.out]
      rw [hc] at CV
      have hl' : ¬ (n.bs.length : Int) = 1 := by omega
      clear h hB hg hW hc hlt hl
      go_enter Try.func48, Try.ntmps48
      go_upto_region 1 with (fail)
      rw [HW.out]
      go_wp2_with (go_at_call 59; refine CV.out.mono ?_; rintro e w1 ⟨rfl, hg⟩; have G := Lib.hid hg; have d4 := C4.out w1 hg; clear hg)
      exact bodyPost_ret (v := .tuple #[.int .i64 0, .bool false]) (by simp [results, Try.results48]) rfl ⟨rfl, GW.out.trans G.out⟩
/-- A node as Go passes it. -/
structure GN (w : World) (n : Nd) : Prop where
  rd : NRd w w.heap.size n
  ba : n.bA = none → n.bc = 0
  pa : n.pA = none → n.pc = 0
  bc : n.bs.length ≤ n.bc
  pc : n.ps.length ≤ n.pc
theorem GN.up {w w' : World} {n : Nd} (h : GN w n) (hb : Below w.heap.size w w') : GN w' n := ⟨h.rd.up hb, h.ba, h.pa, h.bc, h.pc⟩
theorem gn_zero (w : World) : GN w Nd.zero := ⟨⟨RdR.nil, Rd.nil, u64_zero, Nat.zero_le _, Nat.zero_le _⟩, fun _ => rfl, fun _ => rfl, Nat.le_refl _, Nat.le_refl _⟩
def zV : Array Value := #[.int .i64 0, .int .i64 0, .int .i64 0, .int .u64 0, .slice none 0 0, .int .u64 0, .string ⟨#[]⟩, .int .u64 0, .slice none 0 0, .int .i64 0, .int .i64 0, .int .i64 0, .int .i64 0, .int .i64 0]
theorem run_storeZ {V : World} {b : Nat} (hg : V.heap[b]? = some (.cells zV 28 (0, 0))) :
    Sem.run Try.prog (storeNode (.pointer (some ⟨b, 0, none⟩)) (.agg #[.int .i64 0, .int .i64 0, .int .i64 0, .int .u64 0, .slice none 0 0, .int .u64 0, .string ⟨#[]⟩, .int .u64 0, .slice none 0 0, .int .i64 0, .int .i64 0, .int .i64 0, .int .i64 0, .int .i64 0])) V = .ok () (V.setRow b zV) := run_storeNode Nd.zero hg rfl
theorem below_setRow {w V : World} {b : Nat} (hb : Below w.heap.size w V) (h : w.heap.size ≤ b) (cs : Array Value) : Below w.heap.size w (V.setRow b cs) :=
  hb.trans ⟨rfl, rfl, rfl, by simp, fun k hk => setRow_other _ _ _ _ (by omega)⟩
/-- A node's block, the node as Go passes it. -/
def NB (V : World) (b : Nat) (n : Nd) : Prop := V.heap[b]? = some (.cells n.cs 28 (0, 0)) ∧ GN V n
theorem heap_up {V V' : World} {b : Nat} {o : Obj} (h : V.heap[b]? = some o) (hb : Below V.heap.size V V') : V'.heap[b]? = some o := (hb.block b (Array.getElem?_eq_some_iff.1 h).1).trans h
theorem NB.up {V V' : World} {b : Nat} {n : Nd} (h : NB V b n) (hb : Below V.heap.size V V') : NB V' b n := ⟨heap_up h.1 hb, h.2.up hb⟩
theorem NB.ld {V : World} {b : Nat} {n : Nd} (h : NB V b n) : Sem.run Try.prog (loadNode (.pointer (some ⟨b, 0, none⟩))) V = .ok (.agg n.cs) V := run_loadNode h.1
theorem nb_new {V : World} {n : Nd} (h : GN V n) : NB (V.alloc (.cells n.cs 28)) V.heap.size n := ⟨heap_alloc_new V _, h.up ((Below.refl _ V).alloc (Nat.le_refl _) _)⟩
theorem alloc_below (V : World) (o : Obj) : Below V.heap.size V (V.alloc o) := (Below.refl _ V).alloc (Nat.le_refl _) o

/-- A valid collision list. -/
noncomputable def isL (n : Nd) : Bool := n.kind == 6 && validN n
theorem isL_ok {n : Nd} (h : isL n = true) : n.kind = 6 ∧ Asc n.ps ∧ 2 ≤ n.ps.length := by
  unfold isL at h
  rw [Bool.and_eq_true, beq_iff_eq] at h
  obtain ⟨hk, hv⟩ := h
  unfold validN at hv
  rw [Bool.and_eq_true, Bool.and_eq_true] at hv
  obtain ⟨_, _, hf⟩ := hv
  unfold fieldsB at hf
  rw [hk] at hf
  simp at hf
  refine ⟨hk, ?_, by omega⟩
  by_cases ha : Asc n.ps
  · exact ha
  · have := validB_false ha
    simp_all
set_option maxHeartbeats 2000000 in
theorem validL_any (n : Nd) (B : Nat) (w : World) (h : NRd w B n) (hB : B ≤ w.heap.size) :
    Calls Try.prog 35 #[.agg n.cs] w fun e w' => e = .returned (.bool (isL n)) ∧ Gr w w' := by
  obtain ⟨W, hW⟩ : ∃ W, W = w.alloc (.cells n.cs 28) := ⟨_, rfl⟩
  have GW := Lib.hid (show Gr w W by rw [hW]; exact (Gr.refl w).alloc _)
  have hg : W.heap[w.heap.size]? = some (.cells n.cs 28 (0, 0)) := by rw [hW]; exact heap_alloc_new w _
  have c0 := node_cell hg (i := 0) (v := .int .i64 n.kind) rfl
  have lv := run_loadNode hg
  have CV := Lib.hid (valid_any n B W (h.gr hB GW.out) (Nat.le_trans hB GW.out.size))
  have HW := Lib.hid hW.symm
  have E := Lib.hid (show isL n = (n.kind == 6 && validN n) from rfl)
  clear h hB hg hW
  cases hk : n.kind == 6
  all_goals
    go_enter Try.func35, Try.ntmps35
    go_upto_region 1 with (fail)
    rw [HW.out]
    go_wp2_with (go_at_call 54; refine CV.out.mono ?_; rintro e w' ⟨rfl, hg⟩; have G := Lib.hid hg; clear hg)
    go_ret
  · exact ⟨ret_bool (by rw [E.out, hk]; rfl), GW.out⟩
  · exact ⟨ret_bool (by rw [E.out, hk]; rfl), GW.out.trans G.out⟩
set_option maxHeartbeats 2000000 in
theorem rlist_any (n : Nd) (B : Nat) (w : World) (h : NRd w B n) (hB : B ≤ w.heap.size) :
    Calls Try.prog 45 #[.agg n.cs] w fun e w' => e = .returned (.bool (isL n)) ∧ Gr w w' := by
  obtain ⟨W, hW⟩ : ∃ W, W = w.alloc (.cells n.cs 28) := ⟨_, rfl⟩
  have GW := Lib.hid (show Gr w W by rw [hW]; exact (Gr.refl w).alloc _)
  have hg : W.heap[w.heap.size]? = some (.cells n.cs 28 (0, 0)) := by rw [hW]; exact heap_alloc_new w _
  have c0 := node_cell hg (i := 0) (v := .int .i64 n.kind) rfl
  have lv := run_loadNode hg
  have CV := Lib.hid (rvalid_any n B W (h.gr hB GW.out) (Nat.le_trans hB GW.out.size))
  have HW := Lib.hid hW.symm
  have E := Lib.hid (show isL n = (n.kind == 6 && validN n) from rfl)
  clear h hB hg hW
  cases hk : n.kind == 6
  all_goals
    go_enter Try.func45, Try.ntmps45
    go_upto_region 1 with (fail)
    rw [HW.out]
    go_wp2_with (go_at_call 19; refine CV.out.mono ?_; rintro e w' ⟨rfl, hg⟩; have G := Lib.hid hg; clear hg)
    go_ret
  · exact ⟨ret_bool (by rw [E.out, hk]; rfl), GW.out⟩
  · exact ⟨ret_bool (by rw [E.out, hk]; rfl), GW.out.trans G.out⟩
end Go.Proofs.Ytpopoihggomfiaa
