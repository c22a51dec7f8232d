/-
  The walk of mainNode where the slices differ.
-/
import Derived.Test.YtbknbjabkhhlfaaDuD
import Derived.Handy
set_option linter.unusedVariables false
set_option maxRecDepth 100000
namespace Go.Proofs.Ytbknbjabkhhlfaa
open Go.Shelf Go.RowKit Go.Lib Go.Sort
theorem empty_w (w : World) : Calls Try.prog 44 #[] w (WithP 0 [] w) :=
  (empty_any w).mono fun e w' ⟨he, hg⟩ => ⟨none, 0, he, gn_fixed u0 rfl rfl rfl rfl, (fun ad e => by cases e), hg.b⟩
theorem with_1 {A : Option Addr} {c : Nat} {w : World} {i x : Int} (hg : GN w (mkC 0 A c [])) (hi : inr i = true) (hx : 1 ≤ x) : Calls Try.prog 43 #[.agg (mkC 0 A c []).cs, .int .i64 i, .int .i64 x] w (WithP (withI 0 i) [x] w) := by
  have h := with_c (mkC 0 A c []) i x w hg (ins_one hi hx)
  rw [show insL (mkC 0 A c []).bm (mkC 0 A c []).bs i x = [x] from insL0 i x] at h
  exact h
theorem with_2 {A : Option Addr} {c : Nat} {w : World} {i k x z : Int} (hg : GN w (mkC (withI 0 i) A c [x])) (hi : inr i = true) (hk : inr k = true) (hik : i ≠ k) (hx : 1 ≤ x) (hz : 1 ≤ z) : Calls Try.prog 43 #[.agg (mkC (withI 0 i) A c [x]).cs, .int .i64 k, .int .i64 z] w (WithP (withI (withI 0 i) k) (if k < i then [z, x] else [x, z]) w) := by
  have h := with_c (mkC (withI 0 i) A c [x]) k z w hg (ins_two hi hk hik hx hz)
  rw [show insL (mkC (withI 0 i) A c [x]).bm (mkC (withI 0 i) A c [x]).bs k z = if k < i then [z, x] else [x, z] from insL1 hi hk hik] at h
  exact h
theorem with_2e {A : Option Addr} {c : Nat} {w : World} {i k x z : Int} {L : List Int} (hg : GN w (mkC (withI 0 i) A c [x])) (hi : inr i = true) (hk : inr k = true) (hik : i ≠ k) (hx : 1 ≤ x) (hz : 1 ≤ z) (hL : L = if k < i then [z, x] else [x, z]) : Calls Try.prog 43 #[.agg (mkC (withI 0 i) A c [x]).cs, .int .i64 k, .int .i64 z] w (WithP (withI (withI 0 i) k) L w) := by
  rw [hL]; exact with_2 hg hi hk hik hx hz
theorem below_of {w V w' : World} (hb : Below w.heap.size w V) (h : Below V.heap.size V w') : Below w.heap.size w w' := hb.trans (h.mono hb.size)
section
attribute [local go_sem] nil_alloc m_alloc m_node
attribute [local go_sem ↓] exec_load28 exec_store44 exec_load65
set_option maxHeartbeats 8000000 in
/-- The slices differ: a single and a C-node with two branches. -/
theorem main_diff (base q : Nat) (s : Sd) (acc : Int) (D : Du) (o b : Nd) (gen : Int) (level : Nat) (w : World) (h : Ob w base 69 q s acc) (hl : s.ns.length < 900) (hc : s.cs.length < 900)
    (hD : D.c = level) (h11 : level < 11) (hb : singN D.K D.key D.val = b) (hH : D.H = o.hash) (hU : U64 o.hash) (hK : U64 D.K) (hne : sl D.H level ≠ sl D.K level) (hx : 1 ≤ D.x) :
    Calls Try.prog 25 #[.iface 41 (.pointer (some ⟨q, 0, none⟩)), .agg (cpV D.x o b), .int .i64 level, .int .i64 gen] w (RunP 69 base q s acc (dualL D ((s.ns.length : Int) + 1) 0) w) := by
  have mixed := mixedOrders
  obtain ⟨W, hW⟩ : ∃ W, W = w.alloc (.cells (cpV D.x o b) 75) := ⟨_, rfl⟩
  have BW := Lib.hid (show Below w.heap.size w W by rw [hW]; exact (Below.refl _ w).alloc (Nat.le_refl _) _)
  have HC := Lib.hid (show W.heap[w.heap.size]? = some (.cells (cpV D.x o b) 75 (0, 0)) by rw [hW]; exact heap_alloc_new w _)
  have HL := Lib.hid (show w.heap.size < W.heap.size by rw [hW]; simp)
  have HW := Lib.hid (show (w.alloc (.cells (cpV D.x o b) 75)) = W from hW.symm)
  have HO := Lib.hid (h.up BW.out)
  have NM := Lib.hid (show ∀ k, Mu q s k → k ≠ w.heap.size from fun k hk e => by have := (h.mu_lt hk).2; omega)
  have R0 := Lib.hid ((Rn.start h).below BW.out)
  have HB := Lib.hid hb
  have d1 : ((level : Int) == 11) = false := beq_eq_false_iff_ne.2 (by omega)
  have S1 := Lib.hid (fun V => slice_in o.hash level hU h11 V)
  have S2 := Lib.hid (fun V => slice_in D.K level hK h11 V)
  rw [← hH] at S1
  obtain ⟨H, hHH⟩ : ∃ H, H = D.H := ⟨_, rfl⟩
  obtain ⟨K, hKK⟩ : ∃ K, K = D.K := ⟨_, rfl⟩
  obtain ⟨i, hi⟩ : ∃ i, i = sl D.H level := ⟨_, rfl⟩
  obtain ⟨k, hk⟩ : ∃ k, k = sl D.K level := ⟨_, rfl⟩
  have hik : i ≠ k := by rw [hi, hk]; exact hne
  have IK := Lib.hid hik
  have II := Lib.hid (show inr i = true ∧ inr k = true from ⟨by rw [hi]; exact sl_inr _ _, by rw [hk]; exact sl_inr _ _⟩)
  obtain ⟨L, hL⟩ : ∃ L, L = (if k < i then [(s.ns.length : Int) + 1, D.x] else [D.x, (s.ns.length : Int) + 1]) := ⟨_, rfl⟩
  have EL := Lib.hid hL
  clear hL
  have HD := Lib.hid (show dualL D ((s.ns.length : Int) + 1) 0 = [(b, 0), (cndN (withI (withI 0 i) k) L, 0)] by rw [dualL, baseL, if_neg (by omega), hb, hD, hi, hk, EL.out, hi, hk])
  rw [← hi, ← hHH] at S1
  rw [← hk, ← hKK] at S2
  have ne : (i != k) = true := by simpa using hik
  have GB := Lib.hid (show ∀ V, GN V b from fun V => by rw [← hb]; exact gn_fixed u0 rfl rfl rfl rfl)
  have HX := Lib.hid hx
  have c6 := cp_cell HC.out (i := 6) (v := .int .u64 H) (by rw [hHH, hH]; rfl)
  have c20 := cp_cell HC.out (i := 20) (v := .int .u64 K) (by rw [hKK, ← hb]; rfl)
  unfold cpV at HW
  clear hx h hW hi hk hHH hKK hne hik hU hK hH hb hD
  unfold cpV
  go_enter Try.func25, Try.ntmps25
  go_upto_region 1 with (fail)
  rw [HW.out]
  clear HW
  go_upto_region 3 with (fail)
  go_region_held3 (fun w' => w'.cell? ⟨w.heap.size, 6, none⟩ = some (.int .u64 H) ∧ w'.cell? ⟨w.heap.size, 20, none⟩ = some (.int .u64 K))
    (exact ⟨c6, c20⟩)
    (first
      | (go_at_call 42; (with_reducible refine (S1.out _).mono ?_); rintro e w2 ⟨rfl, rfl⟩)
      | (go_at_call 42; (with_reducible refine (S2.out _).mono ?_); rintro e w2 ⟨rfl, rfl⟩))
  clear c6 c20 S1 S2
  have BD := Lib.hid (show Below W.heap.size W W.drew from ⟨rfl, rfl, rfl, Nat.le_refl _, fun _ _ => rfl⟩)
  have lv : Sem.run Try.prog (loadNode (.pointer (some ⟨w.heap.size, 15, none⟩))) W.drew = .ok (.agg b.cs) W.drew := run_loadNodeAt (fun j hj => by
    have e : W.drew.cell? ⟨w.heap.size, 15 + j, none⟩ = (cpV D.x o b)[15 + j]? := cell_of_row W w.heap.size (15 + j) _ 75 (0, 0) HC.out
    rw [e]
    match j, hj with
    | 0, _ => rfl | 1, _ => rfl | 2, _ => rfl | 3, _ => rfl | 4, _ => rfl | 5, _ => rfl | 6, _ => rfl | 7, _ => rfl | 8, _ => rfl | 9, _ => rfl | 10, _ => rfl | 11, _ => rfl | 12, _ => rfl | 13, _ => rfl)
  have AL := Lib.hid (alloc_n (HO.out.up BD.out) (GB.out _) 0 (by omega) (by omega))
  have HLC := Lib.hid (⟨hl, hc⟩ : _ ∧ _)
  clear hl hc
  go_upto_region 6 with (go_at_call 11; refine AL.out.mono ?_; rintro e w3 ⟨t, rfl, hA, ho, hf, hm⟩; have NM3 := Lib.hid (show ∀ k, Mu q t k → k ≠ w.heap.size from fun k hk e => (hm k hk).elim (fun hk => NM.out k hk e) fun hk => by have h2 : W.heap.size ≤ k := hk; have := HL.out; omega); have R3 := Lib.hid ((R0.out.below BD.out).alloc hA ho hf hm (sameN.refl b)); have HC3 := Lib.hid ((hf.block w.heap.size HL.out (fun hm => NM.out _ hm rfl)).trans HC.out); have HL3 := Lib.hid (show w.heap.size < w3.heap.size from Nat.lt_of_lt_of_le HL.out hf.size); clear hA ho hf hm)
  have KX := Lib.hid (show ∀ V, Below w3.heap.size w3 V → V.cell? ⟨w.heap.size, 0, none⟩ = some (.int .i64 D.x) from fun V hV => cp_cell ((hV.block _ HL3.out).trans HC3.out) rfl)
  have BD3 := Lib.hid (show Below w3.heap.size w3 w3.drew from ⟨rfl, rfl, rfl, Nat.le_refl _, fun _ _ => rfl⟩)
  have E1 := Lib.hid (fun V => empty_w V)
  have FZ := Lib.hid (show 1 ≤ (s.ns.length : Int) + 1 by omega)
  have LT := Lib.hid (show t.ns.length < 1000 ∧ t.cs.length < 1000 from ⟨by have h1 := R3.out.len; have h2 := HLC.out.1; simp at h1; omega, by have h1 := R3.out.clen; have h2 := HLC.out.2; simp at h1; omega⟩)
  clear lv
  go_region_held3 (fun w' => w'.cell? ⟨w.heap.size, 0, none⟩ = some (.int .i64 D.x))
    (first | exact X7.out | exact KX.out _ (by first | exact B6.out | exact B5.out | exact B4.out | exact BD3.out))
    (first
      | (go_at_call 11; (with_reducible refine AL6.out.mono ?_); rintro e w7 ⟨u, rfl, hA, ho, hf, hm⟩; have R7 := Lib.hid ((R3.out.below B6.out).alloc hA ho hf hm S6.out); have X7 := Lib.hid ((hf.cell (p := ⟨w.heap.size, 0, none⟩) (Nat.lt_of_lt_of_le HL3.out B6.out.size) (fun hm => NM3.out _ hm rfl)).trans (KX.out _ B6.out)); clear hA ho hf hm)
      | (go_at_call 43; (with_reducible refine W2.out.mono ?_); rintro e w6 ⟨A6, c6, rfl, hg6, hf6, hb6⟩; have B6 := Lib.hid (below_of B5.out hb6); have S6 := Lib.hid (show sameN (cndN (withI (withI 0 i) k) L) (mkC (withI (withI 0 i) k) A6 c6 L) from ⟨A6, c6, none, 0, rfl⟩); have AL6 := Lib.hid (alloc_n (R3.out.ob.up B6.out) hg6 0 LT.out.1 LT.out.2); clear hg6 hf6 hb6)
      | (go_at_call 43; (with_reducible refine W1.out.mono ?_); rintro e w5 ⟨A5, c5, rfl, hg5, hf5, hb5⟩; have B5 := Lib.hid (below_of B4.out hb5); have W2 := Lib.hid (with_2e hg5 II.out.1 II.out.2 IK.out HX.out FZ.out EL.out); clear hg5 hf5 hb5)
      | (go_at_call 44; (with_reducible refine (E1.out _).mono ?_); rintro e w4 ⟨A4, c4, rfl, hg4, hf4, hb4⟩; have B4 := Lib.hid (below_of BD3.out hb4); have W1 := Lib.hid (with_1 hg4 II.out.1 HX.out); clear hg4 hf4 hb4))
  all_goals
    go_wp2
    go_ret
    exact ⟨u, ret_int (by have h1 := R3.out.len; simp at h1; rw [HD.out]; simp; omega), by rw [HD.out]; exact R7.out⟩
end
end Go.Proofs.Ytbknbjabkhhlfaa
