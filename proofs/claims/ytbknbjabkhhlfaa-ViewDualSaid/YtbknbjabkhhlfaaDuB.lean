/-
  The couple; the walk of collision.
-/
import Derived.Test.YtbknbjabkhhlfaaDuA
import Derived.Test.YtbknbjabkhhlfaaPoA
import Derived.Test.YtbknbjabkhhlfaaArA
import Derived.Deep.RegionHeld3
set_option linter.unusedVariables false
set_option maxRecDepth 100000
namespace Go.Proofs.Ytbknbjabkhhlfaa
open Go.Shelf Go.RowKit Go.Lib Go.Sort

/-- A couple's cells. -/
def cpV (x : Int) (o b : Nd) : Array Value := #[.int .i64 x, .int .i64 o.kind, .int .i64 o.gen, .int .i64 o.main, .int .u64 o.bm, .slice o.bA o.bs.length o.bc, .int .u64 o.hash, .string o.key, .int .u64 o.val, .slice o.pA o.ps.length o.pc, .int .i64 o.prev, .int .i64 o.old, .int .i64 o.exp, .int .i64 o.new, .int .i64 o.status, .int .i64 b.kind, .int .i64 b.gen, .int .i64 b.main, .int .u64 b.bm, .slice b.bA b.bs.length b.bc, .int .u64 b.hash, .string b.key, .int .u64 b.val, .slice b.pA b.ps.length b.pc, .int .i64 b.prev, .int .i64 b.old, .int .i64 b.exp, .int .i64 b.new, .int .i64 b.status]
theorem cp_cell {V : World} {q : Nat} {cs : Array Value} (h : V.heap[q]? = some (.cells cs 75 (0, 0))) {i : Nat} {v : Value} (hv : cs[i]? = some v) : V.cell? ⟨q, i, none⟩ = some v := (cell_of_row V q i cs 75 (0, 0) h).trans hv
def loadCp (v : Value) : Sem Value := Instr.loadAt 75 v
theorem exec_load65 (ρ : Operand → Value) (dst : Option Tmp) (x : Operand) (ty : TypeId) (pos : String) (after : Array Edge) (guard : Option (Nat × Bool)) :
    execOp ρ { dst, op := .load 75 x, type := ty, pos, after, guard } = (do pure (.value (← loadCp (ρ x)))) := rfl
theorem run_loadCp {V : World} {q : Nat} {x : Int} {o b : Nd} (h : V.heap[q]? = some (.cells (cpV x o b) 75 (0, 0))) : Sem.run Try.prog (loadCp (.pointer (some ⟨q, 0, none⟩))) V = .ok (.agg (cpV x o b)) V := by
  have hn : (cpV x o b).toList.length = 29 := rfl
  have hl : (loadCells ⟨q, 0, none⟩ (cpV x o b).toList.length).run Try.prog V = .ok (cpV x o b).toList.toArray V :=
    run_loadCells_list (P := Try.prog) V ⟨q, 0, none⟩ (cpV x o b).toList (fun j v hv => by
      rw [Addr.add_lit, Nat.zero_add]
      exact cp_cell h (by simpa using hv))
  have ht : Try.t75.size = 29 := by kernel_rfl
  rw [hn] at hl
  simp only [loadCp, Instr.loadAt, Instr.sureAddr, Sem.run_bind, Sem.run_pure, Result.andThen_ok]
  simp [loadVar, isAgg, sizeOf]
  rw [ht, hl]
  rfl

/-! ### collision -/
noncomputable def ofL (xs : List Pr) : List Pr := Classical.epsilon (OfOf xs)
theorem ofL_eq {xs ys : List Pr} (h : OfOf xs ys) : ys = ofL xs := h.unique (Classical.epsilon_spec (p := OfOf xs) ⟨ys, h⟩)
def ColP (h : Int) (ps : List Pr) (w : World) (e : Ending) (w' : World) : Prop :=
  ∃ A c, e = .returned (.agg (Nd.cs { Nd.zero with kind := 6, hash := h, pA := A, pc := c, ps := ps })) ∧ Own w' w.heap.size (.slice A ps.length c) ps ∧ ps.length ≤ 2 ∧ Below w.heap.size w w'
attribute [local go_sem ↓] exec_store44
set_option maxHeartbeats 4000000 in
theorem coll_any (x : Int) (o b : Nd) (w : World) : Calls Try.prog 41 #[.agg (cpV x o b)] w (ColP b.hash (ofL [(o.key, o.val), (b.key, b.val)]) w) := by
  have mixed := mixedOrders
  obtain ⟨W, hW⟩ : ∃ W, W = (w.alloc (.cells (cpV x o b) 75)).alloc (.cells Nd.zero.cs 35) := ⟨_, rfl⟩
  have BW := Lib.hid (show Below w.heap.size w W by rw [hW]; exact ((Below.refl _ w).alloc (Nat.le_refl _) _).alloc (by simp) _)
  have HC := Lib.hid (show W.heap[w.heap.size]? = some (.cells (cpV x o b) 75 (0, 0)) by rw [hW]; exact (Below.heap_alloc _ _ _ (by simp)).trans (heap_alloc_new w _))
  have HZ := Lib.hid (show W.heap[w.heap.size + 1]? = some (.cells Nd.zero.cs 35 (0, 0)) by rw [hW]; have := heap_alloc_new (w.alloc (.cells (cpV x o b) 75)) (.cells Nd.zero.cs 35); simpa using this)
  have WS := Lib.hid (show W.heap.size = w.heap.size + 2 by rw [hW]; simp)
  have HW := Lib.hid (show (w.alloc (.cells (cpV x o b) 75)).alloc (.cells #[.int .i64 0, .int .i64 0, .int .i64 0, .int .u64 0, .slice none 0 0, .int .u64 0, .string ⟨#[]⟩, .int .u64 0, .slice none 0 0, .int .i64 0, .int .i64 0, .int .i64 0, .int .i64 0, .int .i64 0] 35) = W from hW.symm)
  unfold cpV at HW
  clear hW
  have KS := Lib.hid (show ∀ V, Below W.heap.size W V → (V.cell? ⟨w.heap.size, 20, none⟩ = some (.int .u64 b.hash) ∧ V.cell? ⟨w.heap.size, 7, none⟩ = some (.string o.key) ∧ V.cell? ⟨w.heap.size, 8, none⟩ = some (.int .u64 o.val) ∧ V.cell? ⟨w.heap.size, 21, none⟩ = some (.string b.key) ∧ V.cell? ⟨w.heap.size, 22, none⟩ = some (.int .u64 b.val)) from fun V hV => by
    have h := (hV.block w.heap.size (by rw [WS.out]; omega)).trans HC.out
    exact ⟨cp_cell h rfl, cp_cell h rfl, cp_cell h rfl, cp_cell h rfl, cp_cell h rfl⟩)
  have KR := Lib.hid (show ∀ V cs, Below W.heap.size W V → ((V.setRow (w.heap.size + 1) cs).cell? ⟨w.heap.size, 20, none⟩ = some (.int .u64 b.hash) ∧ (V.setRow (w.heap.size + 1) cs).cell? ⟨w.heap.size, 7, none⟩ = some (.string o.key) ∧ (V.setRow (w.heap.size + 1) cs).cell? ⟨w.heap.size, 8, none⟩ = some (.int .u64 o.val) ∧ (V.setRow (w.heap.size + 1) cs).cell? ⟨w.heap.size, 21, none⟩ = some (.string b.key) ∧ (V.setRow (w.heap.size + 1) cs).cell? ⟨w.heap.size, 22, none⟩ = some (.int .u64 b.val)) from fun V cs hV => by
    have e : (V.setRow (w.heap.size + 1) cs).heap[w.heap.size]? = V.heap[w.heap.size]? := setRow_other _ _ _ _ (by omega)
    have h := e.trans ((hV.block w.heap.size (by rw [WS.out]; omega)).trans HC.out)
    exact ⟨cp_cell h rfl, cp_cell h rfl, cp_cell h rfl, cp_cell h rfl, cp_cell h rfl⟩)
  have B0 := Lib.hid (Below.refl W.heap.size W)
  have B1 := Lib.hid (show Below W.heap.size W (W.alloc (.cells #[.string o.key, .int .u64 o.val, .string b.key, .int .u64 b.val] 56)).drew from by have h := (Below.refl W.heap.size W).alloc (Nat.le_refl _) (.cells #[.string o.key, .int .u64 o.val, .string b.key, .int .u64 b.val] 56); exact ⟨h.os, h.tape, h.output, h.size, h.block⟩)
  have PO := Lib.hid (show Calls Try.prog 56 #[.slice (some ⟨W.heap.size, 0, none⟩) 2 2] (W.alloc (.cells #[.string o.key, .int .u64 o.val, .string b.key, .int .u64 b.val] 56)).drew (OfPost [(o.key, o.val), (b.key, b.val)] (W.alloc (.cells #[.string o.key, .int .u64 o.val, .string b.key, .int .u64 b.val] 56)).drew) from
    of_any (some ⟨W.heap.size, 0, none⟩) 2 [(o.key, o.val), (b.key, b.val)] _ _ (lit_rd W [(o.key, o.val), (b.key, b.val)]) (Nat.le_refl _) (by simp))
  unfold cpV
  go_enter Try.func41, Try.ntmps41
  go_upto_region 1 with (fail)
  rw [HW.out]
  clear HW
  go_region_held3 (fun w' => w'.cell? ⟨w.heap.size, 20, none⟩ = some (.int .u64 b.hash) ∧ w'.cell? ⟨w.heap.size, 7, none⟩ = some (.string o.key) ∧ w'.cell? ⟨w.heap.size, 8, none⟩ = some (.int .u64 o.val) ∧ w'.cell? ⟨w.heap.size, 21, none⟩ = some (.string b.key) ∧ w'.cell? ⟨w.heap.size, 22, none⟩ = some (.int .u64 b.val))
    (first | exact KR.out _ _ B3.out | exact KS.out _ (by first | exact B3.out | exact B2.out | exact B1.out | exact B0.out | exact ⟨rfl, rfl, rfl, Nat.le_refl _, fun _ _ => rfl⟩))
    (first
      | (go_at_call 55; refine (list_any b.hash A2 c2 L w2 P2.out.1 P2.out.2.1 (by have := P2.out.2.2; omega)).mono ?_; rintro e w3 ⟨A3, c3, rfl, ho3, hb3⟩; have O3 := Lib.hid ho3; have B3 := Lib.hid (B2.out.trans (hb3.mono B2.out.size)); have B23 := Lib.hid hb3; have F3 := Lib.hid ((B3.out.block _ (by rw [WS.out]; omega)).trans HZ.out); have st := run_storeNode { Nd.zero with kind := 6, hash := b.hash, pA := A3, pc := c3, ps := L } F3.out rfl; clear ho3 hb3)
      | (go_at_call 56; refine PO.out.mono ?_; rintro e w2 ⟨L, hof, v2, rfl, ho2, hb2⟩; obtain ⟨A2, c2, rfl, hr2, ha2, _⟩ := ho2.open2; have P2 := Lib.hid (show Rd w2 w2.heap.size A2 L ∧ (A2 = none → c2 = 0) ∧ L.length ≤ 2 from ⟨hr2, ha2, hof.2.2⟩); have B2 := Lib.hid (B1.out.trans (hb2.mono B1.out.size)); have EL := Lib.hid (ofL_eq hof); clear hof ho2 hr2 ha2 hb2))
  all_goals
    go_wp2_with fail
    obtain ⟨X, hX⟩ : ∃ X, X = w3.setRow (w.heap.size + 1) (Nd.cs { Nd.zero with kind := 6, hash := b.hash, pA := A3, pc := c3, ps := L }) := ⟨_, rfl⟩
    have hg : X.heap[w.heap.size + 1]? = some (.cells (Nd.cs { Nd.zero with kind := 6, hash := b.hash, pA := A3, pc := c3, ps := L }) 35 (0, 0)) := by rw [hX]; exact setRow_heap w3 _ _ _ 35 (0, 0) F3.out
    have BX := Lib.hid (show Below w.heap.size w X by rw [hX]; exact below_setRow (BW.out.trans (B3.out.mono (by rw [WS.out]; omega))) (Nat.le_succ _) _)
    have OX := Lib.hid (show Own X w.heap.size (.slice A3 L.length c3) L by
      rw [hX]
      exact Own.mono (O3.out.keepFrom (fun k hk _ => setRow_other _ _ _ _ (by have := B2.out.size; rw [WS.out] at this; omega))) (by have := B2.out.size; rw [WS.out] at this; omega))
    rw [← hX]
    clear hX st
    have d0 := node_cellA hg (i := 0) (v := .int .i64 6) rfl
    have d1 := node_cellA hg (i := 1) (v := .int .i64 0) rfl
    have d2 := node_cellA hg (i := 2) (v := .int .i64 0) rfl
    have d3 := node_cellA hg (i := 3) (v := .int .u64 0) rfl
    have d4 := node_cellA hg (i := 4) (v := .slice none 0 0) rfl
    have d5 := node_cellA hg (i := 5) (v := .int .u64 b.hash) rfl
    have d6 := node_cellA hg (i := 6) (v := .string ⟨#[]⟩) rfl
    have d7 := node_cellA hg (i := 7) (v := .int .u64 0) rfl
    have d8 := node_cellA hg (i := 8) (v := .slice A3 L.length c3) rfl
    have d9 := node_cellA hg (i := 9) (v := .int .i64 0) rfl
    have d10 := node_cellA hg (i := 10) (v := .int .i64 0) rfl
    have d11 := node_cellA hg (i := 11) (v := .int .i64 0) rfl
    have d12 := node_cellA hg (i := 12) (v := .int .i64 0) rfl
    have d13 := node_cellA hg (i := 13) (v := .int .i64 0) rfl
    clear hg
    refine bodyPost_ret (v := .agg (Nd.cs { Nd.zero with kind := 6, hash := b.hash, pA := A3, pc := c3, ps := L })) (by simp [results, Try.results41, go_sem, d0, d1, d2, d3, d4, d5, d6, d7, d8, d9, d10, d11, d12, d13]; rfl) rfl ?_
    rw [← EL.out]
    exact ⟨A3, _, rfl, OX.out, P2.out.2.2, BX.out⟩
end Go.Proofs.Ytbknbjabkhhlfaa
