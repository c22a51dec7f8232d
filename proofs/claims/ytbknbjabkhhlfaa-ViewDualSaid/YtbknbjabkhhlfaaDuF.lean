/-
  The walk of mainNode where the slices are equal; mainNode.
-/
import Derived.Test.YtbknbjabkhhlfaaDuE
import Derived.Handy
set_option linter.unusedVariables false
set_option maxRecDepth 100000
namespace Go.Proofs.Ytbknbjabkhhlfaa
open Go.Shelf Go.RowKit Go.Lib Go.Sort
theorem Rn.lift {T : TypeId} {base q : Nat} {s t : Sd} {acc : Int} {l : List (Nd × Int)} {w V wr : World} (hb : Below w.heap.size w V) (h : Rn T base q s acc l V wr t) : Rn T base q s acc l w wr t := by
  obtain ⟨ys, h1, h2, h3⟩ := h.rans.ns
  exact ⟨⟨⟨ys, h1, h2, fun y hy => (h3 y hy).le hb.size⟩, h.rans.cs, h.rans.gen⟩, h.ob, (Fr.of_below (M := Mu q s) hb).trans h.fr (fun k hk => .inl hk), fun k hk => (h.mu k hk).elim .inl fun hk => .inr (Nat.le_trans hb.size hk)⟩
section
attribute [local go_sem] nil_alloc m_alloc m_node
attribute [local go_sem ↓] exec_load28 exec_store44 exec_load65
set_option maxHeartbeats 8000000 in
/-- The slices are equal: what lies below, an I-node, a C-node with one branch. -/
theorem main_same (base q : Nat) (s : Sd) (acc : Int) (D : Du) (o b : Nd) (gen : Int) (level m : Nat) (w : World) (h : Ob w base 69 q s acc) (hl : s.ns.length < 900) (hc : s.cs.length < 900)
    (hD : D.c = level + (m + 1)) (hm : level + (m + 1) ≤ 11) (hb : singN D.K D.key D.val = b) (hH : D.H = o.hash) (hG : D.gen = gen) (hU : U64 o.hash) (hK : U64 D.K) (he : sl D.H level = sl D.K level)
    (IH : ∀ V, Ob V base 69 q s acc → Calls Try.prog 25 #[.iface 41 (.pointer (some ⟨q, 0, none⟩)), .agg (cpV D.x o b), .int .i64 ((level : Int) + 1), .int .i64 gen] V (RunP 69 base q s acc (dualL D ((s.ns.length : Int) + 1) m) V)) :
    Calls Try.prog 25 #[.iface 41 (.pointer (some ⟨q, 0, none⟩)), .agg (cpV D.x o b), .int .i64 level, .int .i64 gen] w (RunP 69 base q s acc (dualL D ((s.ns.length : Int) + 1) (m + 1)) w) := by
  have mixed := mixedOrders
  obtain ⟨W, hW⟩ : ∃ W, W = w.alloc (.cells (cpV D.x o b) 75) := ⟨_, rfl⟩
  have BW := Lib.hid (show Below w.heap.size w W by rw [hW]; exact (Below.refl _ w).alloc (Nat.le_refl _) _)
  have HC := Lib.hid (show W.heap[w.heap.size]? = some (.cells (cpV D.x o b) 75 (0, 0)) by rw [hW]; exact heap_alloc_new w _)
  have HL := Lib.hid (show w.heap.size < W.heap.size by rw [hW]; simp)
  have HW := Lib.hid (show (w.alloc (.cells (cpV D.x o b) 75)) = W from hW.symm)
  have HO := Lib.hid (h.up BW.out)
  have NM := Lib.hid (show ∀ k, Mu q s k → k ≠ w.heap.size from fun k hk e => by have := (h.mu_lt hk).2; omega)
  have R0 := Lib.hid ((Rn.start h).below BW.out)
  have HB := Lib.hid hb
  have h11 : level < 11 := by omega
  have d1 : ((level : Int) == 11) = false := beq_eq_false_iff_ne.2 (by omega)
  have S1 := Lib.hid (fun V => slice_in o.hash level hU h11 V)
  have S2 := Lib.hid (fun V => slice_in D.K level hK h11 V)
  rw [← hH] at S1
  obtain ⟨H, hHH⟩ : ∃ H, H = D.H := ⟨_, rfl⟩
  obtain ⟨K, hKK⟩ : ∃ K, K = D.K := ⟨_, rfl⟩
  obtain ⟨i, hi⟩ : ∃ i, i = sl D.H level := ⟨_, rfl⟩
  obtain ⟨k, hk⟩ : ∃ k, k = sl D.K level := ⟨_, rfl⟩
  have hik : i = k := by rw [hi, hk]; exact he
  have II := Lib.hid (show inr i = true by rw [hi]; exact sl_inr _ _)
  obtain ⟨l, hll⟩ : ∃ l, l = dualL D ((s.ns.length : Int) + 1) m := ⟨_, rfl⟩
  have HD := Lib.hid (show dualL D ((s.ns.length : Int) + 1) (m + 1) = l ++ [(innN gen, (s.ns.length : Int) + (l.length : Int)), (cndN (withI 0 i) [(s.ns.length : Int) + 1 + (l.length : Int)], 0)] by
    rw [dualL, ← hll, hG, show D.c - (m + 1) = level by omega, hi, he, show (s.ns.length : Int) + 1 - 1 = (s.ns.length : Int) by omega])
  have HLL := Lib.hid (show l.length ≤ 24 by have := (dual_pos D ((s.ns.length : Int) + 1) m).2; rw [hll]; omega)
  have IHH := Lib.hid (fun V hV => by have h := IH V hV; rw [← hll] at h; exact h)
  rw [← hi, ← hHH] at S1
  rw [← hk, ← hKK] at S2
  have ne : (i != k) = false := by simpa using hik
  have GB := Lib.hid (show ∀ V, GN V b from fun V => by rw [← hb]; exact gn_fixed u0 rfl rfl rfl rfl)
  have c6 := cp_cell HC.out (i := 6) (v := .int .u64 H) (by rw [hHH, hH]; rfl)
  have c20 := cp_cell HC.out (i := 20) (v := .int .u64 K) (by rw [hKK, ← hb]; rfl)
  unfold cpV at HW
  have j1 : IntKind.i64.wrap ((level : Int) + 1) = (level : Int) + 1 := by rw [IntKind.wrap_i64]; omega
  have HLC := Lib.hid (⟨hl, hc⟩ : _ ∧ _)
  clear hl hc h hW hi hk hHH hKK he hik hU hK hH hb hD IH hll hG hm h11
  unfold cpV
  go_enter Try.func25, Try.ntmps25
  go_upto_region 1 with (fail)
  rw [HW.out]
  clear HW
  go_upto_region 3 with (fail)
  go_region_held3 (fun w' => w'.cell? ⟨w.heap.size, 6, none⟩ = some (.int .u64 H) ∧ w'.cell? ⟨w.heap.size, 20, none⟩ = some (.int .u64 K))
    (exact ⟨c6, c20⟩)
    (first
      | (go_at_call 42; (with_reducible refine (S1.out _).mono ?_); rintro e w2 ⟨rfl, rfl⟩)
      | (go_at_call 42; (with_reducible refine (S2.out _).mono ?_); rintro e w2 ⟨rfl, rfl⟩))
  clear c6 c20 S1 S2
  have BD := Lib.hid (show Below W.heap.size W W.drew from ⟨rfl, rfl, rfl, Nat.le_refl _, fun _ _ => rfl⟩)
  have lc : Sem.run Try.prog (loadCp (.pointer (some ⟨w.heap.size, 0, none⟩))) W.drew = .ok (.agg (cpV D.x o b)) W.drew := run_loadCp HC.out
  have CI := Lib.hid (IHH.out W.drew (HO.out.up BD.out))
  go_upto_region 8 with (go_at_call 25; (with_reducible refine CI.out.mono ?_); rintro e w3 ⟨t, rfl, hR⟩; have R3 := Lib.hid (hR.lift (w := w) (BW.out.trans (BD.out.mono (Nat.le_of_lt HL.out)))); clear hR)
  clear lc CI
  have LT := Lib.hid (show t.ns.length < 990 ∧ t.cs.length < 990 ∧ (t.ns.length : Int) = (s.ns.length : Int) + (l.length : Int) from ⟨by have h1 := R3.out.len; have h2 := HLC.out.1; have := HLL.out; omega, by have h1 := R3.out.clen; have h2 := HLC.out.2; have := HLL.out; omega, by have h1 := R3.out.len; omega⟩)
  have BD3 := Lib.hid (show Below w3.heap.size w3 w3.drew from ⟨rfl, rfl, rfl, Nat.le_refl _, fun _ _ => rfl⟩)
  have CN := Lib.hid (fun V => inner_n gen V)
  go_region_held3 (fun w' => True)
    (exact trivial)
    (first
      | (go_at_call 11; (with_reducible refine A4.out.mono ?_); rintro e w5 ⟨u, rfl, hA, ho, hf, hm⟩; have R5 := Lib.hid ((R3.out.below B4.out).alloc hA ho hf hm S4.out); clear hA ho hf hm)
      | (go_at_call 45; (with_reducible refine (CN.out _).mono ?_); rintro e w4 ⟨n4, rfl, hs4, hg4, hf4, hb4⟩; have B4 := Lib.hid (below_of BD3.out hb4); have S4 := Lib.hid hs4; have A4 := Lib.hid (alloc_n (R3.out.ob.up B4.out) hg4 ((s.ns.length : Int) + (l.length : Int)) (by have := LT.out.1; omega) (by have := LT.out.2.1; omega)); clear hs4 hg4 hf4 hb4))
  all_goals
    clear A4 CN
    have LU := Lib.hid (show u.ns.length < 1000 ∧ u.cs.length < 1000 ∧ (u.ns.length : Int) = (s.ns.length : Int) + (l.length : Int) + 1 from ⟨by have h1 := R5.out.len; simp at h1; have h2 := HLC.out.1; have := HLL.out; omega, by have h1 := R5.out.clen; simp at h1; have h2 := HLC.out.2; have := HLL.out; omega, by have h1 := R5.out.len; simp at h1; omega⟩)
    have FZ := Lib.hid (show 1 ≤ (t.ns.length : Int) + 1 by omega)
    have BD5 := Lib.hid (show Below w5.heap.size w5 w5.drew from ⟨rfl, rfl, rfl, Nat.le_refl _, fun _ _ => rfl⟩)
    have E1 := Lib.hid (fun V => empty_w V)
    go_upto_region 9 with (fail)
    go_region_held3 (fun w' => True)
      (exact trivial)
      (first
        | (go_at_call 11; (with_reducible refine A7.out.mono ?_); rintro e w8 ⟨z, rfl, hA, ho, hf, hm⟩; have R8 := Lib.hid ((R5.out.below B7.out).alloc hA ho hf hm S7.out); clear hA ho hf hm)
        | (go_at_call 43; (with_reducible refine W1.out.mono ?_); rintro e w7 ⟨A7', c7, rfl, hg7, hf7, hb7⟩; have B7 := Lib.hid (below_of B6.out hb7); have S7 := Lib.hid (show sameN (cndN (withI 0 i) [(t.ns.length : Int) + 1]) (mkC (withI 0 i) A7' c7 [(t.ns.length : Int) + 1]) from ⟨A7', c7, none, 0, rfl⟩); have A7 := Lib.hid (alloc_n (R5.out.ob.up B7.out) hg7 0 LU.out.1 LU.out.2.1); clear hg7 hf7 hb7)
        | (go_at_call 44; (with_reducible refine (E1.out _).mono ?_); rintro e w6 ⟨A6, c6, rfl, hg6, hf6, hb6⟩; have B6 := Lib.hid (below_of BD5.out hb6); have W1 := Lib.hid (with_1 hg6 II.out FZ.out); clear hg6 hf6 hb6))
    all_goals
      go_wp2
      go_ret
      refine ⟨z, ret_int (by rw [HD.out, LU.out.2.2]; simp; omega), ?_⟩
      rw [HD.out, show (s.ns.length : Int) + 1 + (l.length : Int) = (t.ns.length : Int) + 1 by rw [LT.out.2.2]; omega]
      have h := R8.out
      rw [List.append_assoc] at h
      exact h
end
end Go.Proofs.Ytbknbjabkhhlfaa
