/-
  The walks of the constructors, of First, of slices.Clone, of Clone, of Wipe.
-/
import Derived.Test.YtbknbjabkhhlfaaOwnA
import Derived.BigGuard
import Derived.Lib.LazyBuf
import Derived.Laws.Tables
import Derived.Deep.Cut
set_option linter.unusedVariables false
set_option maxRecDepth 100000
namespace Go.Proofs.Ytbknbjabkhhlfaa
open Go.Shelf Go.RowKit Go.Lib Go.Sort

/-! ### slices.Clone -/
def OwnPost (xs : List Pr) (w : World) (e : Ending) (w' : World) : Prop := ∃ v, e = .returned v ∧ Own w' w.heap.size v xs ∧ Below w.heap.size w w'
def OwnRPost (xs : List Int) (w : World) (e : Ending) (w' : World) : Prop := ∃ v, e = .returned v ∧ OwnR w' w.heap.size v xs ∧ Below w.heap.size w w'
set_option maxHeartbeats 1000000 in
theorem cloneP_any (A : Option Addr) (c : Nat) (xs : List Pr) (w : World) (h : Rd w w.heap.size A xs) (hA : A = none → c = 0) (hn : xs.length ≤ 1000) :
    Calls Try.prog 46 #[.slice A xs.length c] w (OwnPost xs w) := by
  cases A with
  | none =>
    obtain rfl : c = 0 := hA rfl
    have e : xs = [] := by
      cases xs with
      | nil => rfl
      | cons x r => obtain ⟨ad, e, _⟩ := h (by simp); cases e
    subst e
    clear h hA hn
    simp only [List.length_nil]
    have hnil : ∀ W, (binOp .eql 33 (.slice none 0 0) (.slice none 0 0)).run Try.prog W = .ok (.bool true) W := fun W => Lib.run_eql_slice_nil (h := Try.underlying33) ..
    go_enter Try.func46, Try.ntmps46
    go_wp2
    go_ret
    exact ⟨_, rfl, Own.nil_ _ _, Below.refl _ _⟩
  | some a =>
    have H := Lib.hid h
    clear h hA
    have hnil : ∀ W, (binOp .eql 33 (.slice (some a) xs.length c) (.slice none 0 0)).run Try.prog W = .ok (.bool false) W := fun W => Lib.run_eql_slice_nil (h := Try.underlying33) ..
    go_enter Try.func46, Try.ntmps46
    go_wp2_with (at_builtin
                 refine wpList_append_list (w0 := w) rfl (.tmp 5) (.tmp 6) rfl w.heap.size (.slice (some ⟨w.heap.size, 0, none⟩) 0 0) [] rfl (own_empty w) (some a) xs.length c w.heap.size xs rfl rfl (H.out.alloc (Nat.le_refl _) _) (fun e => by cases e) (by simp; omega) ((Below.refl _ _).alloc (Nat.le_refl _) _) (by simp) ?_
                 intro va wa HOa HBa)
    go_ret
    exact ⟨_, rfl, by simpa using HOa.out, HBa⟩
set_option maxHeartbeats 1000000 in
theorem cloneR_any (A : Option Addr) (c : Nat) (xs : List Int) (w : World) (h : RdR w w.heap.size A xs) (hA : A = none → c = 0) (hn : xs.length ≤ 1000) :
    Calls Try.prog 38 #[.slice A xs.length c] w (OwnRPost xs w) := by
  cases A with
  | none =>
    obtain rfl : c = 0 := hA rfl
    have e : xs = [] := by
      cases xs with
      | nil => rfl
      | cons x r => obtain ⟨ad, e, _⟩ := h (by simp); cases e
    subst e
    clear h hA hn
    simp only [List.length_nil]
    have hnil : ∀ W, (binOp .eql 32 (.slice none 0 0) (.slice none 0 0)).run Try.prog W = .ok (.bool true) W := fun W => Lib.run_eql_slice_nil (h := Try.underlying32) ..
    go_enter Try.func38, Try.ntmps38
    go_wp2
    go_ret
    exact ⟨_, rfl, OwnR.nil_ _ _, Below.refl _ _⟩
  | some a =>
    have H := Lib.hid h
    clear h hA
    have hnil : ∀ W, (binOp .eql 32 (.slice (some a) xs.length c) (.slice none 0 0)).run Try.prog W = .ok (.bool false) W := fun W => Lib.run_eql_slice_nil (h := Try.underlying32) ..
    go_enter Try.func38, Try.ntmps38
    go_wp2_with (at_builtin
                 refine wpList_append_refs (w0 := w) rfl (.tmp 5) (.tmp 6) rfl w.heap.size (.slice (some ⟨w.heap.size, 0, none⟩) 0 0) [] rfl (ownR_empty w) (some a) xs.length c w.heap.size xs rfl rfl (H.out.alloc (Nat.le_refl _) _) (fun e => by cases e) (by simp; omega) ((Below.refl _ _).alloc (Nat.le_refl _) _) (by simp) ?_
                 intro va wa HOa HBa)
    go_ret
    exact ⟨_, rfl, by simpa using HOa.out, HBa⟩

/-! ### List, Clone -/
theorem Own.keepFrom {w w' : World} {base : Nat} {v : Value} {xs : List Pr} (h : Own w base v xs) (hk : ∀ k, base ≤ k → k < w.heap.size → w'.heap[k]? = w.heap[k]?) : Own w' base v xs := by
  refine ⟨h.1, ?_⟩
  rcases h.2 with hn | ⟨g, cap, cur, hv, hbg, hg, rest⟩
  · exact .inl hn
  · exact .inr ⟨g, cap, cur, hv, hbg, (hk g hbg (Array.getElem?_eq_some_iff.1 hg).1).trans hg, rest⟩
theorem OwnR.keepFrom {w w' : World} {base : Nat} {v : Value} {xs : List Int} (h : OwnR w base v xs) (hk : ∀ k, base ≤ k → k < w.heap.size → w'.heap[k]? = w.heap[k]?) : OwnR w' base v xs := by
  refine ⟨h.1, ?_⟩
  rcases h.2 with hn | ⟨g, cap, cur, hv, hbg, hg, rest⟩
  · exact .inl hn
  · exact .inr ⟨g, cap, cur, hv, hbg, (hk g hbg (Array.getElem?_eq_some_iff.1 hg).1).trans hg, rest⟩
theorem node_cellA {V : World} {b : Nat} {cs : Array Value} (h : V.heap[b]? = some (.cells cs 35 (0, 0))) {i : Nat} {v : Value} (hv : cs[i]? = some v) : V.cell? ⟨b, i, none⟩ = some v := by
  rw [cell_of_row V b i cs 35 (0, 0) h]; exact hv
theorem node_frozen {V : World} {b : Nat} {cs : Array Value} (h : V.heap[b]? = some (.cells cs 35 (0, 0))) (i : Nat) : V.frozen? ⟨b, i, none⟩ = false := by simp [World.frozen?, h]
theorem set_field {V : World} {b : Nat} {cs : Array Value} (h : V.heap[b]? = some (.cells cs 35 (0, 0))) (i : Nat) (v : Value) : (V.setCell ⟨b, i, none⟩ v).heap[b]? = some (.cells (cs.setIfInBounds i v) 35 (0, 0)) := by
  simp [World.setCell, Array.getElem?_modify, h]
theorem cs_all (n : Nd) : n.cs.all (·.oneCell') = true := by simp [Nd.cs, Value.oneCell']
theorem nodeSize : (Try.prog.info? 35).map (·.size) = some 14 := by kernel_rfl

/-- The lists' slices in the result are rows that the call made. -/
def ClonePost (n : Nd) (w : World) (e : Ending) (w' : World) : Prop :=
  ∃ A c P d, e = .returned (.agg (Nd.cs { n with bA := A, bc := c, pA := P, pc := d })) ∧ OwnR w' w.heap.size (.slice A n.bs.length c) n.bs ∧ Own w' w.heap.size (.slice P n.ps.length d) n.ps ∧ Below w.heap.size w w'

set_option maxHeartbeats 4000000 in
theorem clone_any (n : Nd) (w : World) (h : NRd w w.heap.size n) (hA : n.bA = none → n.bc = 0) (hP : n.pA = none → n.pc = 0) :
    Calls Try.prog 26 #[.agg n.cs] w (ClonePost n w) := by
  obtain ⟨kind, gen, main, bm, bA, bc, bs, hash, key, val, pA, pc, ps, prev, old, exp, new, status⟩ := n
  have H := Lib.hid h
  have HA := Lib.hid hA
  have HP := Lib.hid hP
  have bl : bs.length ≤ 1000 := h.bl
  have pl : ps.length ≤ 1000 := h.pl
  clear h hA hP
  obtain ⟨W, hW⟩ : ∃ W, W = (w.alloc (.cells #[.int .i64 kind, .int .i64 gen, .int .i64 main, .int .u64 bm, .slice bA bs.length bc, .int .u64 hash, .string key, .int .u64 val, .slice pA ps.length pc, .int .i64 prev, .int .i64 old, .int .i64 exp, .int .i64 new, .int .i64 status] 35)).alloc (.cells #[.int .i64 0, .int .i64 0, .int .i64 0, .int .u64 0, .slice none 0 0, .int .u64 0, .string ⟨#[]⟩, .int .u64 0, .slice none 0 0, .int .i64 0, .int .i64 0, .int .i64 0, .int .i64 0, .int .i64 0] 35) := ⟨_, rfl⟩
  have hg0 : W.heap[w.heap.size]? = some (.cells #[.int .i64 kind, .int .i64 gen, .int .i64 main, .int .u64 bm, .slice bA bs.length bc, .int .u64 hash, .string key, .int .u64 val, .slice pA ps.length pc, .int .i64 prev, .int .i64 old, .int .i64 exp, .int .i64 new, .int .i64 status] 35 (0, 0)) := by rw [hW]; exact (Below.heap_alloc _ _ _ (by simp)).trans (heap_alloc_new w _)
  have hg1 : W.heap[w.heap.size + 1]? = some (.cells #[.int .i64 0, .int .i64 0, .int .i64 0, .int .u64 0, .slice none 0 0, .int .u64 0, .string ⟨#[]⟩, .int .u64 0, .slice none 0 0, .int .i64 0, .int .i64 0, .int .i64 0, .int .i64 0, .int .i64 0] 35 (0, 0)) := by
    rw [hW]
    have := heap_alloc_new (w.alloc (.cells #[.int .i64 kind, .int .i64 gen, .int .i64 main, .int .u64 bm, .slice bA bs.length bc, .int .u64 hash, .string key, .int .u64 val, .slice pA ps.length pc, .int .i64 prev, .int .i64 old, .int .i64 exp, .int .i64 new, .int .i64 status] 35)) (.cells #[.int .i64 0, .int .i64 0, .int .i64 0, .int .u64 0, .slice none 0 0, .int .u64 0, .string ⟨#[]⟩, .int .u64 0, .slice none 0 0, .int .i64 0, .int .i64 0, .int .i64 0, .int .i64 0, .int .i64 0] 35)
    simpa using this
  have hbW : Below w.heap.size w W := by rw [hW]; exact ((Below.refl _ _).alloc (Nat.le_refl _) _).alloc (by simp) _
  have hsW : W.heap.size = w.heap.size + 2 := by rw [hW]; simp
  have Hg0 := Lib.hid hg0
  have Hg1 := Lib.hid hg1
  have HbW := Lib.hid hbW
  have HsW := Lib.hid hsW
  have HW := Lib.hid hW.symm
  clear hW hg0 hg1 hbW hsW
  unfold Nd.cs
  simp only
  go_enter Try.func26, Try.ntmps26
  go_wp2_with fail
  rw [HW.out]
  refine (cloneR_any bA bc bs W ((H.out.r.below HbW.out).more HbW.out.size) HA.out bl).mono ?_
  rintro e w1 ⟨v, rfl, ho, hb⟩
  obtain ⟨A1, c1, rfl, _, _, _⟩ := ho.open2
  have HO := Lib.hid ho
  have HB := Lib.hid hb
  have Hg := Lib.hid ((hb.block w.heap.size (by rw [HsW.out]; omega)).trans Hg0.out)
  have HgZ := Lib.hid ((hb.block (w.heap.size + 1) (by rw [HsW.out]; omega)).trans Hg1.out)
  have hs1 := Lib.hid hb.size
  clear ho hb
  have f4 := node_frozen Hg.out 4
  have a4 := node_cellA Hg.out (i := 4) (v := .slice bA bs.length bc) rfl
  have a8 := node_cellA Hg.out (i := 8) (v := .slice pA ps.length pc) rfl
  go_wp2_with fail
  obtain ⟨W2, hW2⟩ : ∃ W2, W2 = w1.setCell ⟨w.heap.size, 4, none⟩ (.slice A1 bs.length c1) := ⟨_, rfl⟩
  rw [← hW2]
  have HgQ := Lib.hid (show W2.heap[w.heap.size]? = some (.cells #[.int .i64 kind, .int .i64 gen, .int .i64 main, .int .u64 bm, .slice A1 bs.length c1, .int .u64 hash, .string key, .int .u64 val, .slice pA ps.length pc, .int .i64 prev, .int .i64 old, .int .i64 exp, .int .i64 new, .int .i64 status] 35 (0, 0)) by rw [hW2]; exact set_field Hg.out 4 _)
  have hb2 : Below w.heap.size w W2 := by rw [hW2]; exact (HbW.out.trans (HB.out.mono (by rw [HsW.out]; omega))).setCell (Nat.le_refl _) _
  have hs2 : w.heap.size + 2 ≤ W2.heap.size := by rw [hW2]; have := hs1.out; rw [HsW.out] at this; simpa using this
  have HgZ := Lib.hid (show W2.heap[w.heap.size + 1]? = some (.cells #[.int .i64 0, .int .i64 0, .int .i64 0, .int .u64 0, .slice none 0 0, .int .u64 0, .string ⟨#[]⟩, .int .u64 0, .slice none 0 0, .int .i64 0, .int .i64 0, .int .i64 0, .int .i64 0, .int .i64 0] 35 (0, 0)) by rw [hW2]; exact (Below.heap_setCell w1 ⟨w.heap.size, 4, none⟩ _ _ (by simp)).trans HgZ.out)
  have HO := Lib.hid (show OwnR W2 W.heap.size (.slice A1 bs.length c1) bs by rw [hW2]; exact HO.out.keepFrom fun k hk _ => Below.heap_setCell w1 ⟨w.heap.size, 4, none⟩ _ k (by rw [HsW.out] at hk; simp; omega))
  have HB2 := Lib.hid hb2
  have HS2 := Lib.hid hs2
  clear hW2 hb2 hs2 a4 a8 f4
  refine (cloneP_any pA pc ps W2 ((H.out.p.below HB2.out).more HB2.out.size) HP.out pl).mono ?_
  rintro e w3 ⟨v, rfl, ho, hb⟩
  obtain ⟨A2, c2, rfl, _, _, _⟩ := ho.open2
  have HO2 := Lib.hid ho
  have HB3 := Lib.hid hb
  have Hg := Lib.hid ((hb.block w.heap.size (by have := HS2.out; omega)).trans HgQ.out)
  have HgZ := Lib.hid ((hb.block (w.heap.size + 1) (by have := HS2.out; omega)).trans HgZ.out)
  have HO := Lib.hid (HO.out.below hb (Nat.le_refl _))
  clear ho hb HgQ
  have f8 := node_frozen Hg.out 8
  have a8 := node_cellA Hg.out (i := 8) (v := .slice pA ps.length pc) rfl
  go_upto_region 3 with (fail)
  obtain ⟨W4, hW4⟩ : ∃ W4, W4 = w3.setCell ⟨w.heap.size, 8, none⟩ (.slice A2 ps.length c2) := ⟨_, rfl⟩
  rw [← hW4]
  have HgR := Lib.hid (show W4.heap[w.heap.size]? = some (.cells #[.int .i64 kind, .int .i64 gen, .int .i64 main, .int .u64 bm, .slice A1 bs.length c1, .int .u64 hash, .string key, .int .u64 val, .slice A2 ps.length c2, .int .i64 prev, .int .i64 old, .int .i64 exp, .int .i64 new, .int .i64 status] 35 (0, 0)) by rw [hW4]; exact set_field Hg.out 8 _)
  have hb4 : Below w.heap.size w W4 := by rw [hW4]; exact (HB2.out.trans (HB3.out.mono (by have := HS2.out; omega))).setCell (Nat.le_refl _) _
  have HgZ := Lib.hid (show W4.heap[w.heap.size + 1]? = some (.cells #[.int .i64 0, .int .i64 0, .int .i64 0, .int .u64 0, .slice none 0 0, .int .u64 0, .string ⟨#[]⟩, .int .u64 0, .slice none 0 0, .int .i64 0, .int .i64 0, .int .i64 0, .int .i64 0, .int .i64 0] 35 (0, 0)) by rw [hW4]; exact (Below.heap_setCell w3 ⟨w.heap.size, 8, none⟩ _ _ (by simp)).trans HgZ.out)
  have HO := Lib.hid (show OwnR W4 W.heap.size (.slice A1 bs.length c1) bs by rw [hW4]; exact HO.out.keepFrom fun k hk _ => Below.heap_setCell w3 ⟨w.heap.size, 8, none⟩ _ k (by rw [HsW.out] at hk; simp; omega))
  have HO2 := Lib.hid (show Own W4 W2.heap.size (.slice A2 ps.length c2) ps by rw [hW4]; exact HO2.out.keepFrom fun k hk _ => Below.heap_setCell w3 ⟨w.heap.size, 8, none⟩ _ k (by have := HS2.out; simp; omega))
  have HB4 := Lib.hid hb4
  clear hW4 hb4 f8 a8 Hg HB3
  have b0 := node_cellA HgR.out (i := 0) (v := .int .i64 kind) rfl
  have b1 := node_cellA HgR.out (i := 1) (v := .int .i64 gen) rfl
  have b2 := node_cellA HgR.out (i := 2) (v := .int .i64 main) rfl
  have b3 := node_cellA HgR.out (i := 3) (v := .int .u64 bm) rfl
  have b4 := node_cellA HgR.out (i := 4) (v := .slice A1 bs.length c1) rfl
  have b5 := node_cellA HgR.out (i := 5) (v := .int .u64 hash) rfl
  have b6 := node_cellA HgR.out (i := 6) (v := .string key) rfl
  have b7 := node_cellA HgR.out (i := 7) (v := .int .u64 val) rfl
  have b8 := node_cellA HgR.out (i := 8) (v := .slice A2 ps.length c2) rfl
  have b9 := node_cellA HgR.out (i := 9) (v := .int .i64 prev) rfl
  have b10 := node_cellA HgR.out (i := 10) (v := .int .i64 old) rfl
  have b11 := node_cellA HgR.out (i := 11) (v := .int .i64 exp) rfl
  have b12 := node_cellA HgR.out (i := 12) (v := .int .i64 new) rfl
  have b13 := node_cellA HgR.out (i := 13) (v := .int .i64 status) rfl
  go_wp2_with ((refine wpList_store_row rfl 35 (.tmp 2) (.tmp 11) rfl (w.heap.size + 1) #[.int .i64 kind, .int .i64 gen, .int .i64 main, .int .u64 bm, .slice A1 bs.length c1, .int .u64 hash, .string key, .int .u64 val, .slice A2 ps.length c2, .int .i64 prev, .int .i64 old, .int .i64 exp, .int .i64 new, .int .i64 status] rfl rfl 35 _ HgZ.out nodeSize rfl (by simp [Value.oneCell']) ?_))
  obtain ⟨V, hV⟩ : ∃ V, V = W4.setRow (w.heap.size + 1) #[.int .i64 kind, .int .i64 gen, .int .i64 main, .int .u64 bm, .slice A1 bs.length c1, .int .u64 hash, .string key, .int .u64 val, .slice A2 ps.length c2, .int .i64 prev, .int .i64 old, .int .i64 exp, .int .i64 new, .int .i64 status] := ⟨_, rfl⟩
  have hg := setRow_heap W4 (w.heap.size + 1) _ #[.int .i64 kind, .int .i64 gen, .int .i64 main, .int .u64 bm, .slice A1 bs.length c1, .int .u64 hash, .string key, .int .u64 val, .slice A2 ps.length c2, .int .i64 prev, .int .i64 old, .int .i64 exp, .int .i64 new, .int .i64 status] 35 (0, 0) HgZ.out
  rw [← hV] at hg ⊢
  have HgZ := Lib.hid hg
  have HV := Lib.hid hV
  clear hg hV
  have d0 := node_cellA HgZ.out (i := 0) (v := .int .i64 kind) rfl
  have d1 := node_cellA HgZ.out (i := 1) (v := .int .i64 gen) rfl
  have d2 := node_cellA HgZ.out (i := 2) (v := .int .i64 main) rfl
  have d3 := node_cellA HgZ.out (i := 3) (v := .int .u64 bm) rfl
  have d4 := node_cellA HgZ.out (i := 4) (v := .slice A1 bs.length c1) rfl
  have d5 := node_cellA HgZ.out (i := 5) (v := .int .u64 hash) rfl
  have d6 := node_cellA HgZ.out (i := 6) (v := .string key) rfl
  have d7 := node_cellA HgZ.out (i := 7) (v := .int .u64 val) rfl
  have d8 := node_cellA HgZ.out (i := 8) (v := .slice A2 ps.length c2) rfl
  have d9 := node_cellA HgZ.out (i := 9) (v := .int .i64 prev) rfl
  have d10 := node_cellA HgZ.out (i := 10) (v := .int .i64 old) rfl
  have d11 := node_cellA HgZ.out (i := 11) (v := .int .i64 exp) rfl
  have d12 := node_cellA HgZ.out (i := 12) (v := .int .i64 new) rfl
  have d13 := node_cellA HgZ.out (i := 13) (v := .int .i64 status) rfl
  refine bodyPost_ret (v := .agg #[.int .i64 kind, .int .i64 gen, .int .i64 main, .int .u64 bm, .slice A1 bs.length c1, .int .u64 hash, .string key, .int .u64 val, .slice A2 ps.length c2, .int .i64 prev, .int .i64 old, .int .i64 exp, .int .i64 new, .int .i64 status]) (by simp [results, Try.results26, go_sem, d0, d1, d2, d3, d4, d5, d6, d7, d8, d9, d10, d11, d12, d13]) rfl ⟨A1, c1, A2, c2, rfl, ?_, ?_, ?_⟩
  · refine OwnR.mono (HO.out.keepFrom (fun k hk _ => ?_)) (by rw [HsW.out]; omega)
    rw [HV.out]
    exact setRow_other _ _ _ _ (by rw [HsW.out] at hk; omega)
  · refine Own.mono (HO2.out.keepFrom (fun k hk _ => ?_)) (by have := HS2.out; omega)
    rw [HV.out]
    exact setRow_other _ _ _ _ (by have := HS2.out; omega)
  · rw [HV.out]
    exact below_setRow HB4.out (Nat.le_succ _) _

end Go.Proofs.Ytbknbjabkhhlfaa
/-
  The walks of Single, Inner, List.
-/
set_option linter.unusedVariables false
set_option maxRecDepth 100000
namespace Go.Proofs.Ytbknbjabkhhlfaa
open Go.Shelf Go.RowKit Go.Lib Go.Sort
theorem single_any (h : Int) (s : ByteArray) (v : Int) (w : World) : Calls Try.prog 23 #[.int .u64 h, .string s, .int .u64 v] w fun e w' => e = .returned (.agg (Nd.cs { Nd.zero with kind := 4, hash := h, key := s, val := v })) ∧ Gr w w' := by
  unfold Nd.cs Nd.zero
  simp only
  go_enter Try.func23, Try.ntmps23
  go_wp2
  exact bodyPost_ret (v := .agg #[.int .i64 4, .int .i64 0, .int .i64 0, .int .u64 0, .slice none 0 0, .int .u64 h, .string s, .int .u64 v, .slice none 0 0, .int .i64 0, .int .i64 0, .int .i64 0, .int .i64 0, .int .i64 0]) (by simp [results, Try.results23, go_sem]) rfl ⟨rfl, (Gr.refl w).alloc _⟩
theorem inner_any (g : Int) (w : World) : Calls Try.prog 45 #[.int .i64 g] w fun e w' => e = .returned (.agg (Nd.cs { Nd.zero with kind := 2, gen := g })) ∧ Gr w w' := by
  unfold Nd.cs Nd.zero
  simp only
  go_enter Try.func45, Try.ntmps45
  go_wp2
  exact bodyPost_ret (v := .agg #[.int .i64 2, .int .i64 g, .int .i64 0, .int .u64 0, .slice none 0 0, .int .u64 0, .string ⟨#[]⟩, .int .u64 0, .slice none 0 0, .int .i64 0, .int .i64 0, .int .i64 0, .int .i64 0, .int .i64 0]) (by simp [results, Try.results45, go_sem]) rfl ⟨rfl, (Gr.refl w).alloc _⟩
/-- The list's slice in the result is a row that the call made. -/
def ListPost (h : Int) (xs : List Pr) (w : World) (e : Ending) (w' : World) : Prop :=
  ∃ A c, e = .returned (.agg (Nd.cs { Nd.zero with kind := 6, hash := h, pA := A, pc := c, ps := xs })) ∧ Own w' w.heap.size (.slice A xs.length c) xs ∧ Below w.heap.size w w'
set_option maxHeartbeats 1000000 in
theorem list_any (h : Int) (A : Option Addr) (c : Nat) (xs : List Pr) (w : World) (hr : Rd w w.heap.size A xs) (hA : A = none → c = 0) (hn : xs.length ≤ 1000) :
    Calls Try.prog 55 #[.int .u64 h, .slice A xs.length c] w (ListPost h xs w) := by
  have H := Lib.hid hr
  have HA := Lib.hid hA
  clear hr hA
  obtain ⟨W, hW⟩ : ∃ W, W = w.alloc (.cells #[.int .i64 0, .int .i64 0, .int .i64 0, .int .u64 0, .slice none 0 0, .int .u64 0, .string ⟨#[]⟩, .int .u64 0, .slice none 0 0, .int .i64 0, .int .i64 0, .int .i64 0, .int .i64 0, .int .i64 0] 35) := ⟨_, rfl⟩
  have hgW : W.heap[w.heap.size]? = some (.cells #[.int .i64 0, .int .i64 0, .int .i64 0, .int .u64 0, .slice none 0 0, .int .u64 0, .string ⟨#[]⟩, .int .u64 0, .slice none 0 0, .int .i64 0, .int .i64 0, .int .i64 0, .int .i64 0, .int .i64 0] 35 (0, 0)) := by rw [hW]; exact heap_alloc_new w _
  have hbW : Below w.heap.size w W := by rw [hW]; exact (Below.refl _ _).alloc (Nat.le_refl _) _
  have hsW : W.heap.size = w.heap.size + 1 := by rw [hW]; simp
  have HgW := Lib.hid hgW
  have HbW := Lib.hid hbW
  have HsW := Lib.hid hsW
  have HW := Lib.hid hW.symm
  clear hW hgW hbW hsW
  go_enter Try.func55, Try.ntmps55
  go_wp2_with fail
  rw [HW.out]
  refine (cloneP_any A c xs W ((H.out.below HbW.out).more HbW.out.size) HA.out hn).mono ?_
  rintro e w1 ⟨v, rfl, ho, hb⟩
  obtain ⟨A', c', rfl, _, _, _⟩ := ho.open2
  have HO := Lib.hid ho
  have HB := Lib.hid hb
  have Hg := Lib.hid ((hb.block w.heap.size (by rw [HsW.out]; exact Nat.lt_succ_self _)).trans HgW.out)
  clear ho hb
  go_wp2_with ((refine wpList_store_row rfl 35 (.tmp 4) (.tmp 8) rfl w.heap.size (Nd.cs { Nd.zero with kind := 6, hash := h, pA := A', pc := c', ps := xs }) rfl rfl 35 _ Hg.out nodeSize rfl (cs_all _) ?_))
  obtain ⟨V, hV⟩ : ∃ V, V = w1.setRow w.heap.size (Nd.cs { Nd.zero with kind := 6, hash := h, pA := A', pc := c', ps := xs }) := ⟨_, rfl⟩
  have hg := setRow_heap w1 w.heap.size _ (Nd.cs { Nd.zero with kind := 6, hash := h, pA := A', pc := c', ps := xs }) 35 (0, 0) Hg.out
  rw [← hV] at hg ⊢
  have c0 := node_cellA hg (i := 0) (v := .int .i64 6) rfl
  have c1 := node_cellA hg (i := 1) (v := .int .i64 0) rfl
  have c2 := node_cellA hg (i := 2) (v := .int .i64 0) rfl
  have c3 := node_cellA hg (i := 3) (v := .int .u64 0) rfl
  have c4 := node_cellA hg (i := 4) (v := .slice none 0 0) rfl
  have c5 := node_cellA hg (i := 5) (v := .int .u64 h) rfl
  have c6 := node_cellA hg (i := 6) (v := .string ⟨#[]⟩) rfl
  have c7 := node_cellA hg (i := 7) (v := .int .u64 0) rfl
  have c8 := node_cellA hg (i := 8) (v := .slice A' xs.length c') rfl
  have c9 := node_cellA hg (i := 9) (v := .int .i64 0) rfl
  have c10 := node_cellA hg (i := 10) (v := .int .i64 0) rfl
  have c11 := node_cellA hg (i := 11) (v := .int .i64 0) rfl
  have c12 := node_cellA hg (i := 12) (v := .int .i64 0) rfl
  have c13 := node_cellA hg (i := 13) (v := .int .i64 0) rfl
  have HV := Lib.hid hV
  clear hV hg
  refine bodyPost_ret (v := .agg (Nd.cs { Nd.zero with kind := 6, hash := h, pA := A', pc := c', ps := xs })) (by simp [results, Try.results55, go_sem, c0, c1, c2, c3, c4, c5, c6, c7, c8, c9, c10, c11, c12, c13]; rfl) rfl ⟨A', c', rfl, ?_, ?_⟩
  · refine Own.mono ((HO.out.mono (base' := w.heap.size + 1) (by rw [HsW.out]; exact Nat.le_refl _)).keepFrom (fun k hk _ => ?_)) (Nat.le_succ _)
    rw [HV.out]
    exact setRow_other _ _ _ _ (by omega)
  · rw [HV.out]
    exact below_setRow (HbW.out.trans (HB.out.mono (by rw [HsW.out]; exact Nat.le_succ _))) (Nat.le_refl _) _
end Go.Proofs.Ytbknbjabkhhlfaa
