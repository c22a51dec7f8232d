/-
  The walk of the arena's Alloc.
-/
import Derived.Test.YtbknbjabkhhlfaaArM
set_option linter.unusedVariables false
set_option maxRecDepth 100000
namespace Go.Proofs.Ytbknbjabkhhlfaa
open Go.Shelf Go.RowKit Go.Lib Go.Sort
attribute [local go_sem ↓] exec_load28 exec_store44 exec_build1
attribute [local go_sem] run_build1

set_option maxHeartbeats 16000000 in
theorem aalloc_any (base q : Nat) (s : Sd) (acc : Int) (n : Nd) (v : Int) (w : World) (h : Ob w base 69 q s acc) (hn : NRd w w.heap.size n) (hnb : n.bA = none → n.bc = 0) (hnp : n.pA = none → n.pc = 0) (hl : s.ns.length < 1000) (hc : s.cs.length < 1000) :
    Calls Try.prog 11 #[.pointer (some ⟨q, 0, none⟩), .agg n.cs, .int .i64 v] w (AllocP 69 base q s acc n v w) := by
  have mixed := mixedOrders
  have hqw := h.lt
  obtain ⟨W, hW⟩ : ∃ W, W = w.alloc (.cells n.cs 35) := ⟨_, rfl⟩
  have hbox : W.heap[w.heap.size]? = some (.cells n.cs 35 (0, 0)) := by rw [hW]; exact heap_alloc_new w _
  have GW := Lib.hid (show Below w.heap.size w W by rw [hW]; exact (Below.refl _ w).alloc (Nat.le_refl _) _)
  have HL := Lib.hid (show w.heap.size < W.heap.size by rw [hW]; simp)
  have H := Lib.hid h
  have HB := Lib.hid hbox
  have HW := Lib.hid hW.symm
  have hsl := h.cl
  have lv := run_loadNode hbox
  have HQ := Lib.hid hqw
  have CU := Lib.hid (clone_up n W ((hn.below GW.out).more GW.out.size) hnb hnp)
  have BM := Lib.hid (⟨hn.bm, hn.bl, hn.pl⟩ : _ ∧ _ ∧ _)
  clear h hn hbox hW hnb hnp
  go_enter Try.func11, Try.ntmps11
  go_upto_region 1 with (fail)
  rw [HW.out]
  go_upto_region 2 with (go_at_call 26; refine CU.out.mono ?_; rintro e w5 ⟨y, rfl, A, c, P, d, hy, hoR, hoP, hb5⟩; have YE := Lib.hid hy; have OR := Lib.hid hoR; have OP := Lib.hid hoP; have B5 := Lib.hid hb5; have st := run_storeNode y ((hb5.block _ HL.out).trans HB.out) rfl; clear hy hoR hoP hb5)
  have Q5 := Lib.hid ((B5.out.block _ HL.out).trans HB.out)
  have hbx := setRow_heap w5 w.heap.size _ y.cs 35 (0, 0) Q5.out
  obtain ⟨U, hU⟩ : ∃ U, U = w5.setRow w.heap.size y.cs := ⟨_, rfl⟩
  rw [← hU] at hbx ⊢
  have SU := Lib.hid (show U.heap.size = w5.heap.size by rw [hU]; simp)
  have KU := Lib.hid (show ∀ k, k ≠ w.heap.size → U.heap[k]? = w5.heap[k]? by rw [hU]; exact fun k hk => setRow_other _ _ _ _ hk)
  have BU := Lib.hid (show Below w.heap.size w U by
    rw [hU]
    exact (GW.out.trans (B5.out.mono (Nat.le_of_lt HL.out))).trans ⟨rfl, rfl, rfl, by simp, fun k hk => setRow_other _ _ _ _ (by omega)⟩)
  clear hU lv st
  have e2 := node_cellA hbx (i := 2) (v := .int .i64 y.main) rfl
  have e9 := node_cellA hbx (i := 9) (v := .int .i64 y.prev) rfl
  have e13 := node_cellA hbx (i := 13) (v := .int .i64 y.status) rfl
  have f2 := node_frozen hbx 2
  have f9 := node_frozen hbx 9
  have f13 := node_frozen hbx 13
  have HBU := Lib.hid hbx
  clear hbx
  go_upto_region 3 with (fail)
  obtain ⟨n0, hn0⟩ : ∃ n0 : Nd, n0 = { y with main := 0, prev := 0, status := 0 } := ⟨_, rfl⟩
  obtain ⟨V, hV⟩ : ∃ V, V = ((U.setCell ⟨w.heap.size, 2, none⟩ (.int .i64 0)).setCell ⟨w.heap.size, 9, none⟩ (.int .i64 0)).setCell ⟨w.heap.size, 13, none⟩ (.int .i64 0) := ⟨_, rfl⟩
  have hv : V.heap[w.heap.size]? = some (.cells n0.cs 35 (0, 0)) := by
    rw [hV]
    have := set_field (set_field (set_field HBU.out 2 (.int .i64 0)) 9 (.int .i64 0)) 13 (.int .i64 0)
    rw [this, hn0]
    rfl
  have BV := Lib.hid (show Below w.heap.size w V by
    rw [hV]
    exact ((BU.out.setCell (Nat.le_refl _) _).setCell (Nat.le_refl _) _).setCell (Nat.le_refl _) _)
  have KV := Lib.hid (show ∀ k, k ≠ w.heap.size → V.heap[k]? = w5.heap[k]? by
    rw [hV]
    exact fun k hk => (((Below.heap_setCell _ ⟨w.heap.size, 13, none⟩ _ k hk).trans (Below.heap_setCell _ ⟨w.heap.size, 9, none⟩ _ k hk)).trans (Below.heap_setCell _ ⟨w.heap.size, 2, none⟩ _ k hk)).trans (KU.out k hk))
  have SV := Lib.hid (show V.heap.size = w5.heap.size by rw [hV]; simp; exact SU.out)
  have OV := Lib.hid (H.out.up BV.out)
  rw [← hV]
  have VB := Lib.hid hv
  have N0 := Lib.hid hn0
  have OC := Lib.hid (ownCell_any w.heap.size n0 V hv)
  clear hV hv e2 e9 e13 f2 f9 f13
  have LV := Lib.hid (show w.heap.size < V.heap.size by rw [SV.out]; exact Nat.lt_of_lt_of_le HL.out B5.out.size)
  have hb5 := Lib.hid (fun (w5 : World) (hf : Fr (Mu q s) V w5) => (hf.block _ LV.out (fun hm => by have := (H.out.mu_lt hm).2; omega)).trans VB.out)
  have hk0 : n0.kind = y.kind := by rw [N0.out]
  clear hn0
  by_cases k2 : y.kind = 2
  ·
    have eP : ownP w.heap.size n0 = .pointer (some ⟨w.heap.size, 2, none⟩) := by simp [ownP, ownIx, hk0, k2]
    rw [eP] at OC
    have K := Lib.hid k2
    clear k2 hk0 eP
    go_upto_region 6 with (first
      | (go_at_call 27; refine OC.out.mono ?_; rintro e V2 ⟨rfl, hg⟩; have HG := Lib.hid hg; have NC := Lib.hid (newCell_a base q s acc v V2 (OV.out.up hg.b) hc); clear hg)
      | (go_at_call 10; refine NC.out.mono ?_; rintro e w7 ⟨g, cap, rfl, hob, hf, hm⟩; have NB := Lib.hid (⟨hob, (Fr.of_below HG.out.b : Fr (Mu q s) V V2).then_ hf, fun k hk => (hm k hk).imp id (fun h => Nat.le_trans HG.out.size h)⟩ : _ ∧ Fr (Mu q s) V w7 ∧ (∀ k, Mu q (s.addC g cap v) k → Mu q s k ∨ V.heap.size ≤ k)); have x2 := node_cellA (hb5.out w7 NB.out.2.1) (i := 2) (v := .int .i64 n0.main) rfl; have y2 := node_frozen (hb5.out w7 NB.out.2.1) 2; clear hob hf hm))
    obtain ⟨w6, hw6⟩ : ∃ w6, w6 = w7.setCell ⟨w.heap.size, 2, none⟩ (.int .i64 ((s.cs.length : Int) + 1)) := ⟨_, rfl⟩
    have L := Lib.hid (show ∃ s1 m, Laid w w6 base 69 q s s1 acc y m v ∧ Fr (fun k => Mu q s k ∨ k = w.heap.size) V w6 ∧ (∀ k, Mu q s1 k → Mu q s k ∨ V.heap.size ≤ k) from ⟨_, alN y ((s.cs.length : Int) + 1), by
      rw [hw6]
      exact laid_of H.out BV.out LV.out VB.out NB.out.1 NB.out.2.1 NB.out.2.2 (by rw [N0.out]; simp [alN, Nd.cs, show y.kind = 2 from K.out]) rfl (by simp [hasO, show y.kind = 2 from K.out]), by
      rw [hw6]
      exact (NB.out.2.1.mono fun k _ hk => .inl hk).setCell (.inl (.inr rfl)) _, NB.out.2.2⟩)
    rw [← hw6]
    clear hw6 NB K x2 y2
    obtain ⟨s1, m2, L1, L2, L3⟩ := L.out
    have LL := Lib.hid L1
    have hoc := L1.ob
    have hbxc := L1.box
    have hsz6 := L2.size
    have hbc := L1.lt
    have hnk : NOk w6 (Mu q s1) m2 := by
      have hA := OR.out.lo
      have hP := OP.out.lo
      have hWs := B5.out.size
      have hwW := HL.out
      have hSV := SV.out
      -- a list's block: made by Clone: neither the box, nor one that turns
      have hin : ∀ k, W.heap.size ≤ k → k < w5.heap.size → ¬ Mu q s k ∧ k ≠ w.heap.size := fun k h1 h2 => ⟨fun hm => by have := (H.out.mu_lt hm).2; omega, by omega⟩
      have hkp : ∀ k, W.heap.size ≤ k → k < w5.heap.size → w6.heap[k]? = w5.heap[k]? := fun k h1 h2 => (L2.block k (by omega) (fun hm => hm.elim (hin k h1 h2).1 (hin k h1 h2).2)).trans (KV.out k (hin k h1 h2).2)
      have hOA : OwnR w6 W.heap.size (.slice A n.bs.length c) n.bs := OR.out.keepAt fun k hk hk2 => hkp k (OR.out.lt_ hk).1 hk2
      have hOB : Own w6 W.heap.size (.slice P n.ps.length d) n.ps := by
        refine ⟨OP.out.1, ?_⟩
        rcases OP.out.2 with hn | ⟨g', cap', cur, hv, hbg, hg, rest⟩
        · exact .inl hn
        · exact .inr ⟨g', cap', cur, hv, hbg, (hkp g' hbg (Array.getElem?_eq_some_iff.1 hg).1).trans hg, rest⟩
      obtain ⟨Ax, cx, ex, hrx, hax, _⟩ := hOA.open2
      obtain ⟨Px, dx, ey, hry, hay, _⟩ := hOB.open2
      injection ex with ex1 ex2 ex3
      injection ey with ey1 ey2 ey3
      subst ex1 ey1
      have hm2 := L1.me
      have hy := YE.out
      have hmu : ∀ k, W.heap.size ≤ k → k < w5.heap.size → ¬ Mu q s1 k := fun k h1 h2 hm => by
        rcases L3 k hm with h3 | h3
        · exact (hin k h1 h2).1 h3
        · omega
      rw [hm2]
      subst hy
      exact ⟨⟨hrx, hry, BM.out.1, BM.out.2.1, BM.out.2.2⟩, fun e => by show c = 0; rw [ex3]; exact hax e, fun e => by show d = 0; rw [ey3]; exact hay e, fun ad e hm => hmu _ (hA ad e).1 (hA ad e).2 hm, fun ad e hm => hmu _ (hP ad e).1 (hP ad e).2 hm, fun ad e => by have := hA ad e; omega, fun ad e => by have := hP ad e; omega⟩
    have hsm : sameN (alN n ((s.cs.length : Int) + 1)) m2 := by rw [L1.me, YE.out]; exact ⟨A, c, P, d, rfl⟩
    have hfs : FRs w.heap.size m2 := by rw [L1.me, YE.out]; exact ⟨fun ad e => by have := OR.out.lo ad e; have := HL.out; omega, fun ad e => by have := OP.out.lo ad e; have := HL.out; omega⟩
    have FS := Lib.hid hfs
    have hkn : hasO y = hasO n := by rw [YE.out]; rfl
    have HKN := Lib.hid hkn
    have FF := Lib.hid L1.fr
    have hmut : ∀ k, Mu q s1 k → Mu q s k ∨ w.heap.size ≤ k := fun k hk => (L1.mu k hk).imp id (fun h => by omega)
    have MUT := Lib.hid hmut
    have hns : s1.ns.length < 1000 := by rw [L1.ns]; exact hl
    generalize w6 = wc at *
    have OC := Lib.hid hoc
    have BC := Lib.hid hbxc
    have NK2 := Lib.hid hnk
    have SM := Lib.hid hsm
    have HBC := Lib.hid hbc
    have c0 := block_cell hoc.blk (i := 0) (v := .slice s1.nA s1.ns.length s1.nc) rfl
    have c0' := fun o => (World.cell?_alloc_lt wc o ⟨q, 0, none⟩ hoc.lt).trans c0
    have HQC := Lib.hid hoc.lt
    have HNS := Lib.hid hns
    obtain ⟨i0, hi0, hz0, hz1, hz2⟩ := info_parts nodeInfo14
    obtain ⟨z0, hz0'⟩ : ∃ z0, i0.zero = some z0 ∧ z0.cells.size = 14 := ⟨_, hz0, rfl⟩
    have HI := Lib.hid (⟨hi0, hz0'.1, hz1, hz2, hz0'.2⟩ : _ ∧ _ ∧ _ ∧ _ ∧ _)
    have hbase : base ≤ wc.heap.size := Nat.le_trans hoc.hq (Nat.le_of_lt hoc.lt)
    have HBS := Lib.hid hbase
    clear hi0 hz0 hz0' hz1 hz2 hbase hoc hbxc hsz6 hbc hnk hsm hfs hkn hmut hns L1 L2 L3 L
    have lv := run_loadNode_drew BC.out
    have lv2 := fun o => run_loadNode_alloc BC.out o
    go_region_law
      ((refine step_append_lies _ (by rfl) (.tmp 26) (.tmp 28) 36 (by rfl) base 35 i0 z0 14 152 Try.underlying36 HI.out.1 HI.out.2.1 HI.out.2.2.1 HI.out.2.2.2.1 HI.out.2.2.2.2 (by omega) (.slice s1.nA s1.ns.length s1.nc) s1.ns.length (flatN s1.ns) (by rfl) (OC.out.nod.keepFrom fun k _ hk2 => Below.heap_alloc wc _ k hk2) ⟨wc.heap.size, 0, none⟩ 1 1 (flatN [m2]) (by rfl) (flatN_length [m2]) (fun j u hj => (by
          rw [Addr.add_lit, Nat.zero_add]
          exact (cell_of_row (wc.alloc (.cells (rowOf [m2.cs]) 35)) wc.heap.size j (rowOf [m2.cs]) 35 (0, 0) (heap_alloc_new wc _)).trans (rowOf_one m2 j u hj))) (flatN_one [m2]) (by omega) (by have := HNS.out; simp only [maxLen]; omega) (by have := HNS.out; omega) (Nat.le_trans HBS.out (by simp)) (wc.heap.size + 1) (by simp) ?_
        intro g1 cap1 w1 hown hgrow hat hlt
        have N := Lib.hid (OC.out.addN (by decide) (by decide) HNS.out NK2.out (.cells (rowOf [m2.cs]) 35) hown ⟨hgrow.os, hgrow.tape, hgrow.output, hgrow.size, hgrow.block⟩ hat)
        have hb1 : w1.heap[q]? = wc.heap[q]? := (hgrow.block q (by have := HQC.out; simp; omega) (fun e => OC.out.nod_ne (by decide) e.symm rfl)).trans (Below.heap_alloc wc _ q HQC.out)
        have e1 := block_cell (hb1.trans OC.out.blk) (i := 0) (v := .slice s1.nA s1.ns.length s1.nc) rfl
        have f1 := block_frozen (hb1.trans OC.out.blk) 0
        clear hown hgrow hat hlt hb1))
    all_goals
      obtain ⟨Z, hZ⟩ : ∃ Z, Z = w1.setCell ⟨q, 0, none⟩ (.slice (some ⟨g1, 0, none⟩) (s1.ns.length + 1) cap1) := ⟨_, rfl⟩
      have NZ := N.out
      rw [← hZ] at NZ ⊢
      have HZ := Lib.hid NZ
      clear hZ NZ c0 c0' e1 f1 lv lv2
      have d0 := block_cell HZ.out.1.blk (i := 0) (v := .slice (some ⟨g1, 0, none⟩) (s1.ns.length + 1) cap1) (by simp [Sd.addN])
      go_wp2
      go_ret
      refine ⟨s1.addN g1 cap1 m2, ?_, ⟨⟨m2, by show s1.ns ++ [m2] = _; rw [LL.out.ns], SM.out, FS.out⟩, by show s1.cs = _; rw [LL.out.cs, HKN.out], LL.out.gen⟩, HZ.out.1, FF.out.trans HZ.out.2.1 MUT.out, fun k hk => (HZ.out.2.2 k hk).elim (MUT.out k) (fun h => .inr (by have := FF.out.size; omega))⟩
      rw [← LL.out.ns]
      first | rfl | exact ret_int (by simp)
  by_cases k3 : y.kind = 3
  ·
    have eP : ownP w.heap.size n0 = .pointer (some ⟨w.heap.size, 9, none⟩) := by simp [ownP, ownIx, mainB, hk0, k3]
    rw [eP] at OC
    have K := Lib.hid k3
    clear k3 hk0 eP k2
    go_upto_region 6 with (first
      | (go_at_call 27; refine OC.out.mono ?_; rintro e V2 ⟨rfl, hg⟩; have HG := Lib.hid hg; have NC := Lib.hid (newCell_a base q s acc v V2 (OV.out.up hg.b) hc); clear hg)
      | (go_at_call 10; refine NC.out.mono ?_; rintro e w7 ⟨g, cap, rfl, hob, hf, hm⟩; have NB := Lib.hid (⟨hob, (Fr.of_below HG.out.b : Fr (Mu q s) V V2).then_ hf, fun k hk => (hm k hk).imp id (fun h => Nat.le_trans HG.out.size h)⟩ : _ ∧ Fr (Mu q s) V w7 ∧ (∀ k, Mu q (s.addC g cap v) k → Mu q s k ∨ V.heap.size ≤ k)); have x2 := node_cellA (hb5.out w7 NB.out.2.1) (i := 9) (v := .int .i64 n0.prev) rfl; have y2 := node_frozen (hb5.out w7 NB.out.2.1) 9; clear hob hf hm))
    obtain ⟨w6, hw6⟩ : ∃ w6, w6 = w7.setCell ⟨w.heap.size, 9, none⟩ (.int .i64 ((s.cs.length : Int) + 1)) := ⟨_, rfl⟩
    have L := Lib.hid (show ∃ s1 m, Laid w w6 base 69 q s s1 acc y m v ∧ Fr (fun k => Mu q s k ∨ k = w.heap.size) V w6 ∧ (∀ k, Mu q s1 k → Mu q s k ∨ V.heap.size ≤ k) from ⟨_, alN y ((s.cs.length : Int) + 1), by
      rw [hw6]
      exact laid_of H.out BV.out LV.out VB.out NB.out.1 NB.out.2.1 NB.out.2.2 (by rw [N0.out]; simp [alN, Nd.cs, show y.kind = 3 from K.out]) rfl (by simp [hasO, show y.kind = 3 from K.out]), by
      rw [hw6]
      exact (NB.out.2.1.mono fun k _ hk => .inl hk).setCell (.inl (.inr rfl)) _, NB.out.2.2⟩)
    rw [← hw6]
    clear hw6 NB K x2 y2
    obtain ⟨s1, m2, L1, L2, L3⟩ := L.out
    have LL := Lib.hid L1
    have hoc := L1.ob
    have hbxc := L1.box
    have hsz6 := L2.size
    have hbc := L1.lt
    have hnk : NOk w6 (Mu q s1) m2 := by
      have hA := OR.out.lo
      have hP := OP.out.lo
      have hWs := B5.out.size
      have hwW := HL.out
      have hSV := SV.out
      -- a list's block: made by Clone: neither the box, nor one that turns
      have hin : ∀ k, W.heap.size ≤ k → k < w5.heap.size → ¬ Mu q s k ∧ k ≠ w.heap.size := fun k h1 h2 => ⟨fun hm => by have := (H.out.mu_lt hm).2; omega, by omega⟩
      have hkp : ∀ k, W.heap.size ≤ k → k < w5.heap.size → w6.heap[k]? = w5.heap[k]? := fun k h1 h2 => (L2.block k (by omega) (fun hm => hm.elim (hin k h1 h2).1 (hin k h1 h2).2)).trans (KV.out k (hin k h1 h2).2)
      have hOA : OwnR w6 W.heap.size (.slice A n.bs.length c) n.bs := OR.out.keepAt fun k hk hk2 => hkp k (OR.out.lt_ hk).1 hk2
      have hOB : Own w6 W.heap.size (.slice P n.ps.length d) n.ps := by
        refine ⟨OP.out.1, ?_⟩
        rcases OP.out.2 with hn | ⟨g', cap', cur, hv, hbg, hg, rest⟩
        · exact .inl hn
        · exact .inr ⟨g', cap', cur, hv, hbg, (hkp g' hbg (Array.getElem?_eq_some_iff.1 hg).1).trans hg, rest⟩
      obtain ⟨Ax, cx, ex, hrx, hax, _⟩ := hOA.open2
      obtain ⟨Px, dx, ey, hry, hay, _⟩ := hOB.open2
      injection ex with ex1 ex2 ex3
      injection ey with ey1 ey2 ey3
      subst ex1 ey1
      have hm2 := L1.me
      have hy := YE.out
      have hmu : ∀ k, W.heap.size ≤ k → k < w5.heap.size → ¬ Mu q s1 k := fun k h1 h2 hm => by
        rcases L3 k hm with h3 | h3
        · exact (hin k h1 h2).1 h3
        · omega
      rw [hm2]
      subst hy
      exact ⟨⟨hrx, hry, BM.out.1, BM.out.2.1, BM.out.2.2⟩, fun e => by show c = 0; rw [ex3]; exact hax e, fun e => by show d = 0; rw [ey3]; exact hay e, fun ad e hm => hmu _ (hA ad e).1 (hA ad e).2 hm, fun ad e hm => hmu _ (hP ad e).1 (hP ad e).2 hm, fun ad e => by have := hA ad e; omega, fun ad e => by have := hP ad e; omega⟩
    have hsm : sameN (alN n ((s.cs.length : Int) + 1)) m2 := by rw [L1.me, YE.out]; exact ⟨A, c, P, d, rfl⟩
    have hfs : FRs w.heap.size m2 := by rw [L1.me, YE.out]; exact ⟨fun ad e => by have := OR.out.lo ad e; have := HL.out; omega, fun ad e => by have := OP.out.lo ad e; have := HL.out; omega⟩
    have FS := Lib.hid hfs
    have hkn : hasO y = hasO n := by rw [YE.out]; rfl
    have HKN := Lib.hid hkn
    have FF := Lib.hid L1.fr
    have hmut : ∀ k, Mu q s1 k → Mu q s k ∨ w.heap.size ≤ k := fun k hk => (L1.mu k hk).imp id (fun h => by omega)
    have MUT := Lib.hid hmut
    have hns : s1.ns.length < 1000 := by rw [L1.ns]; exact hl
    generalize w6 = wc at *
    have OC := Lib.hid hoc
    have BC := Lib.hid hbxc
    have NK2 := Lib.hid hnk
    have SM := Lib.hid hsm
    have HBC := Lib.hid hbc
    have c0 := block_cell hoc.blk (i := 0) (v := .slice s1.nA s1.ns.length s1.nc) rfl
    have c0' := fun o => (World.cell?_alloc_lt wc o ⟨q, 0, none⟩ hoc.lt).trans c0
    have HQC := Lib.hid hoc.lt
    have HNS := Lib.hid hns
    obtain ⟨i0, hi0, hz0, hz1, hz2⟩ := info_parts nodeInfo14
    obtain ⟨z0, hz0'⟩ : ∃ z0, i0.zero = some z0 ∧ z0.cells.size = 14 := ⟨_, hz0, rfl⟩
    have HI := Lib.hid (⟨hi0, hz0'.1, hz1, hz2, hz0'.2⟩ : _ ∧ _ ∧ _ ∧ _ ∧ _)
    have hbase : base ≤ wc.heap.size := Nat.le_trans hoc.hq (Nat.le_of_lt hoc.lt)
    have HBS := Lib.hid hbase
    clear hi0 hz0 hz0' hz1 hz2 hbase hoc hbxc hsz6 hbc hnk hsm hfs hkn hmut hns L1 L2 L3 L
    have lv := run_loadNode_drew BC.out
    have lv2 := fun o => run_loadNode_alloc BC.out o
    go_region_law
      ((refine step_append_lies _ (by rfl) (.tmp 26) (.tmp 28) 36 (by rfl) base 35 i0 z0 14 152 Try.underlying36 HI.out.1 HI.out.2.1 HI.out.2.2.1 HI.out.2.2.2.1 HI.out.2.2.2.2 (by omega) (.slice s1.nA s1.ns.length s1.nc) s1.ns.length (flatN s1.ns) (by rfl) (OC.out.nod.keepFrom fun k _ hk2 => Below.heap_alloc wc _ k hk2) ⟨wc.heap.size, 0, none⟩ 1 1 (flatN [m2]) (by rfl) (flatN_length [m2]) (fun j u hj => (by
          rw [Addr.add_lit, Nat.zero_add]
          exact (cell_of_row (wc.alloc (.cells (rowOf [m2.cs]) 35)) wc.heap.size j (rowOf [m2.cs]) 35 (0, 0) (heap_alloc_new wc _)).trans (rowOf_one m2 j u hj))) (flatN_one [m2]) (by omega) (by have := HNS.out; simp only [maxLen]; omega) (by have := HNS.out; omega) (Nat.le_trans HBS.out (by simp)) (wc.heap.size + 1) (by simp) ?_
        intro g1 cap1 w1 hown hgrow hat hlt
        have N := Lib.hid (OC.out.addN (by decide) (by decide) HNS.out NK2.out (.cells (rowOf [m2.cs]) 35) hown ⟨hgrow.os, hgrow.tape, hgrow.output, hgrow.size, hgrow.block⟩ hat)
        have hb1 : w1.heap[q]? = wc.heap[q]? := (hgrow.block q (by have := HQC.out; simp; omega) (fun e => OC.out.nod_ne (by decide) e.symm rfl)).trans (Below.heap_alloc wc _ q HQC.out)
        have e1 := block_cell (hb1.trans OC.out.blk) (i := 0) (v := .slice s1.nA s1.ns.length s1.nc) rfl
        have f1 := block_frozen (hb1.trans OC.out.blk) 0
        clear hown hgrow hat hlt hb1))
    all_goals
      obtain ⟨Z, hZ⟩ : ∃ Z, Z = w1.setCell ⟨q, 0, none⟩ (.slice (some ⟨g1, 0, none⟩) (s1.ns.length + 1) cap1) := ⟨_, rfl⟩
      have NZ := N.out
      rw [← hZ] at NZ ⊢
      have HZ := Lib.hid NZ
      clear hZ NZ c0 c0' e1 f1 lv lv2
      have d0 := block_cell HZ.out.1.blk (i := 0) (v := .slice (some ⟨g1, 0, none⟩) (s1.ns.length + 1) cap1) (by simp [Sd.addN])
      go_wp2
      go_ret
      refine ⟨s1.addN g1 cap1 m2, ?_, ⟨⟨m2, by show s1.ns ++ [m2] = _; rw [LL.out.ns], SM.out, FS.out⟩, by show s1.cs = _; rw [LL.out.cs, HKN.out], LL.out.gen⟩, HZ.out.1, FF.out.trans HZ.out.2.1 MUT.out, fun k hk => (HZ.out.2.2 k hk).elim (MUT.out k) (fun h => .inr (by have := FF.out.size; omega))⟩
      rw [← LL.out.ns]
      first | rfl | exact ret_int (by simp)
  by_cases k5 : y.kind = 5
  ·
    have eP : ownP w.heap.size n0 = .pointer (some ⟨w.heap.size, 9, none⟩) := by simp [ownP, ownIx, mainB, hk0, k5]
    rw [eP] at OC
    have K := Lib.hid k5
    clear k5 hk0 eP k2 k3
    go_upto_region 6 with (first
      | (go_at_call 27; refine OC.out.mono ?_; rintro e V2 ⟨rfl, hg⟩; have HG := Lib.hid hg; have NC := Lib.hid (newCell_a base q s acc v V2 (OV.out.up hg.b) hc); clear hg)
      | (go_at_call 10; refine NC.out.mono ?_; rintro e w7 ⟨g, cap, rfl, hob, hf, hm⟩; have NB := Lib.hid (⟨hob, (Fr.of_below HG.out.b : Fr (Mu q s) V V2).then_ hf, fun k hk => (hm k hk).imp id (fun h => Nat.le_trans HG.out.size h)⟩ : _ ∧ Fr (Mu q s) V w7 ∧ (∀ k, Mu q (s.addC g cap v) k → Mu q s k ∨ V.heap.size ≤ k)); have x2 := node_cellA (hb5.out w7 NB.out.2.1) (i := 9) (v := .int .i64 n0.prev) rfl; have y2 := node_frozen (hb5.out w7 NB.out.2.1) 9; clear hob hf hm))
    obtain ⟨w6, hw6⟩ : ∃ w6, w6 = w7.setCell ⟨w.heap.size, 9, none⟩ (.int .i64 ((s.cs.length : Int) + 1)) := ⟨_, rfl⟩
    have L := Lib.hid (show ∃ s1 m, Laid w w6 base 69 q s s1 acc y m v ∧ Fr (fun k => Mu q s k ∨ k = w.heap.size) V w6 ∧ (∀ k, Mu q s1 k → Mu q s k ∨ V.heap.size ≤ k) from ⟨_, alN y ((s.cs.length : Int) + 1), by
      rw [hw6]
      exact laid_of H.out BV.out LV.out VB.out NB.out.1 NB.out.2.1 NB.out.2.2 (by rw [N0.out]; simp [alN, Nd.cs, show y.kind = 5 from K.out]) rfl (by simp [hasO, show y.kind = 5 from K.out]), by
      rw [hw6]
      exact (NB.out.2.1.mono fun k _ hk => .inl hk).setCell (.inl (.inr rfl)) _, NB.out.2.2⟩)
    rw [← hw6]
    clear hw6 NB K x2 y2
    obtain ⟨s1, m2, L1, L2, L3⟩ := L.out
    have LL := Lib.hid L1
    have hoc := L1.ob
    have hbxc := L1.box
    have hsz6 := L2.size
    have hbc := L1.lt
    have hnk : NOk w6 (Mu q s1) m2 := by
      have hA := OR.out.lo
      have hP := OP.out.lo
      have hWs := B5.out.size
      have hwW := HL.out
      have hSV := SV.out
      -- a list's block: made by Clone: neither the box, nor one that turns
      have hin : ∀ k, W.heap.size ≤ k → k < w5.heap.size → ¬ Mu q s k ∧ k ≠ w.heap.size := fun k h1 h2 => ⟨fun hm => by have := (H.out.mu_lt hm).2; omega, by omega⟩
      have hkp : ∀ k, W.heap.size ≤ k → k < w5.heap.size → w6.heap[k]? = w5.heap[k]? := fun k h1 h2 => (L2.block k (by omega) (fun hm => hm.elim (hin k h1 h2).1 (hin k h1 h2).2)).trans (KV.out k (hin k h1 h2).2)
      have hOA : OwnR w6 W.heap.size (.slice A n.bs.length c) n.bs := OR.out.keepAt fun k hk hk2 => hkp k (OR.out.lt_ hk).1 hk2
      have hOB : Own w6 W.heap.size (.slice P n.ps.length d) n.ps := by
        refine ⟨OP.out.1, ?_⟩
        rcases OP.out.2 with hn | ⟨g', cap', cur, hv, hbg, hg, rest⟩
        · exact .inl hn
        · exact .inr ⟨g', cap', cur, hv, hbg, (hkp g' hbg (Array.getElem?_eq_some_iff.1 hg).1).trans hg, rest⟩
      obtain ⟨Ax, cx, ex, hrx, hax, _⟩ := hOA.open2
      obtain ⟨Px, dx, ey, hry, hay, _⟩ := hOB.open2
      injection ex with ex1 ex2 ex3
      injection ey with ey1 ey2 ey3
      subst ex1 ey1
      have hm2 := L1.me
      have hy := YE.out
      have hmu : ∀ k, W.heap.size ≤ k → k < w5.heap.size → ¬ Mu q s1 k := fun k h1 h2 hm => by
        rcases L3 k hm with h3 | h3
        · exact (hin k h1 h2).1 h3
        · omega
      rw [hm2]
      subst hy
      exact ⟨⟨hrx, hry, BM.out.1, BM.out.2.1, BM.out.2.2⟩, fun e => by show c = 0; rw [ex3]; exact hax e, fun e => by show d = 0; rw [ey3]; exact hay e, fun ad e hm => hmu _ (hA ad e).1 (hA ad e).2 hm, fun ad e hm => hmu _ (hP ad e).1 (hP ad e).2 hm, fun ad e => by have := hA ad e; omega, fun ad e => by have := hP ad e; omega⟩
    have hsm : sameN (alN n ((s.cs.length : Int) + 1)) m2 := by rw [L1.me, YE.out]; exact ⟨A, c, P, d, rfl⟩
    have hfs : FRs w.heap.size m2 := by rw [L1.me, YE.out]; exact ⟨fun ad e => by have := OR.out.lo ad e; have := HL.out; omega, fun ad e => by have := OP.out.lo ad e; have := HL.out; omega⟩
    have FS := Lib.hid hfs
    have hkn : hasO y = hasO n := by rw [YE.out]; rfl
    have HKN := Lib.hid hkn
    have FF := Lib.hid L1.fr
    have hmut : ∀ k, Mu q s1 k → Mu q s k ∨ w.heap.size ≤ k := fun k hk => (L1.mu k hk).imp id (fun h => by omega)
    have MUT := Lib.hid hmut
    have hns : s1.ns.length < 1000 := by rw [L1.ns]; exact hl
    generalize w6 = wc at *
    have OC := Lib.hid hoc
    have BC := Lib.hid hbxc
    have NK2 := Lib.hid hnk
    have SM := Lib.hid hsm
    have HBC := Lib.hid hbc
    have c0 := block_cell hoc.blk (i := 0) (v := .slice s1.nA s1.ns.length s1.nc) rfl
    have c0' := fun o => (World.cell?_alloc_lt wc o ⟨q, 0, none⟩ hoc.lt).trans c0
    have HQC := Lib.hid hoc.lt
    have HNS := Lib.hid hns
    obtain ⟨i0, hi0, hz0, hz1, hz2⟩ := info_parts nodeInfo14
    obtain ⟨z0, hz0'⟩ : ∃ z0, i0.zero = some z0 ∧ z0.cells.size = 14 := ⟨_, hz0, rfl⟩
    have HI := Lib.hid (⟨hi0, hz0'.1, hz1, hz2, hz0'.2⟩ : _ ∧ _ ∧ _ ∧ _ ∧ _)
    have hbase : base ≤ wc.heap.size := Nat.le_trans hoc.hq (Nat.le_of_lt hoc.lt)
    have HBS := Lib.hid hbase
    clear hi0 hz0 hz0' hz1 hz2 hbase hoc hbxc hsz6 hbc hnk hsm hfs hkn hmut hns L1 L2 L3 L
    have lv := run_loadNode_drew BC.out
    have lv2 := fun o => run_loadNode_alloc BC.out o
    go_region_law
      ((refine step_append_lies _ (by rfl) (.tmp 26) (.tmp 28) 36 (by rfl) base 35 i0 z0 14 152 Try.underlying36 HI.out.1 HI.out.2.1 HI.out.2.2.1 HI.out.2.2.2.1 HI.out.2.2.2.2 (by omega) (.slice s1.nA s1.ns.length s1.nc) s1.ns.length (flatN s1.ns) (by rfl) (OC.out.nod.keepFrom fun k _ hk2 => Below.heap_alloc wc _ k hk2) ⟨wc.heap.size, 0, none⟩ 1 1 (flatN [m2]) (by rfl) (flatN_length [m2]) (fun j u hj => (by
          rw [Addr.add_lit, Nat.zero_add]
          exact (cell_of_row (wc.alloc (.cells (rowOf [m2.cs]) 35)) wc.heap.size j (rowOf [m2.cs]) 35 (0, 0) (heap_alloc_new wc _)).trans (rowOf_one m2 j u hj))) (flatN_one [m2]) (by omega) (by have := HNS.out; simp only [maxLen]; omega) (by have := HNS.out; omega) (Nat.le_trans HBS.out (by simp)) (wc.heap.size + 1) (by simp) ?_
        intro g1 cap1 w1 hown hgrow hat hlt
        have N := Lib.hid (OC.out.addN (by decide) (by decide) HNS.out NK2.out (.cells (rowOf [m2.cs]) 35) hown ⟨hgrow.os, hgrow.tape, hgrow.output, hgrow.size, hgrow.block⟩ hat)
        have hb1 : w1.heap[q]? = wc.heap[q]? := (hgrow.block q (by have := HQC.out; simp; omega) (fun e => OC.out.nod_ne (by decide) e.symm rfl)).trans (Below.heap_alloc wc _ q HQC.out)
        have e1 := block_cell (hb1.trans OC.out.blk) (i := 0) (v := .slice s1.nA s1.ns.length s1.nc) rfl
        have f1 := block_frozen (hb1.trans OC.out.blk) 0
        clear hown hgrow hat hlt hb1))
    all_goals
      obtain ⟨Z, hZ⟩ : ∃ Z, Z = w1.setCell ⟨q, 0, none⟩ (.slice (some ⟨g1, 0, none⟩) (s1.ns.length + 1) cap1) := ⟨_, rfl⟩
      have NZ := N.out
      rw [← hZ] at NZ ⊢
      have HZ := Lib.hid NZ
      clear hZ NZ c0 c0' e1 f1 lv lv2
      have d0 := block_cell HZ.out.1.blk (i := 0) (v := .slice (some ⟨g1, 0, none⟩) (s1.ns.length + 1) cap1) (by simp [Sd.addN])
      go_wp2
      go_ret
      refine ⟨s1.addN g1 cap1 m2, ?_, ⟨⟨m2, by show s1.ns ++ [m2] = _; rw [LL.out.ns], SM.out, FS.out⟩, by show s1.cs = _; rw [LL.out.cs, HKN.out], LL.out.gen⟩, HZ.out.1, FF.out.trans HZ.out.2.1 MUT.out, fun k hk => (HZ.out.2.2 k hk).elim (MUT.out k) (fun h => .inr (by have := FF.out.size; omega))⟩
      rw [← LL.out.ns]
      first | rfl | exact ret_int (by simp)
  by_cases k6 : y.kind = 6
  ·
    have eP : ownP w.heap.size n0 = .pointer (some ⟨w.heap.size, 9, none⟩) := by simp [ownP, ownIx, mainB, hk0, k6]
    rw [eP] at OC
    have K := Lib.hid k6
    clear k6 hk0 eP k2 k3 k5
    go_upto_region 6 with (first
      | (go_at_call 27; refine OC.out.mono ?_; rintro e V2 ⟨rfl, hg⟩; have HG := Lib.hid hg; have NC := Lib.hid (newCell_a base q s acc v V2 (OV.out.up hg.b) hc); clear hg)
      | (go_at_call 10; refine NC.out.mono ?_; rintro e w7 ⟨g, cap, rfl, hob, hf, hm⟩; have NB := Lib.hid (⟨hob, (Fr.of_below HG.out.b : Fr (Mu q s) V V2).then_ hf, fun k hk => (hm k hk).imp id (fun h => Nat.le_trans HG.out.size h)⟩ : _ ∧ Fr (Mu q s) V w7 ∧ (∀ k, Mu q (s.addC g cap v) k → Mu q s k ∨ V.heap.size ≤ k)); have x2 := node_cellA (hb5.out w7 NB.out.2.1) (i := 9) (v := .int .i64 n0.prev) rfl; have y2 := node_frozen (hb5.out w7 NB.out.2.1) 9; clear hob hf hm))
    obtain ⟨w6, hw6⟩ : ∃ w6, w6 = w7.setCell ⟨w.heap.size, 9, none⟩ (.int .i64 ((s.cs.length : Int) + 1)) := ⟨_, rfl⟩
    have L := Lib.hid (show ∃ s1 m, Laid w w6 base 69 q s s1 acc y m v ∧ Fr (fun k => Mu q s k ∨ k = w.heap.size) V w6 ∧ (∀ k, Mu q s1 k → Mu q s k ∨ V.heap.size ≤ k) from ⟨_, alN y ((s.cs.length : Int) + 1), by
      rw [hw6]
      exact laid_of H.out BV.out LV.out VB.out NB.out.1 NB.out.2.1 NB.out.2.2 (by rw [N0.out]; simp [alN, Nd.cs, show y.kind = 6 from K.out]) rfl (by simp [hasO, show y.kind = 6 from K.out]), by
      rw [hw6]
      exact (NB.out.2.1.mono fun k _ hk => .inl hk).setCell (.inl (.inr rfl)) _, NB.out.2.2⟩)
    rw [← hw6]
    clear hw6 NB K x2 y2
    obtain ⟨s1, m2, L1, L2, L3⟩ := L.out
    have LL := Lib.hid L1
    have hoc := L1.ob
    have hbxc := L1.box
    have hsz6 := L2.size
    have hbc := L1.lt
    have hnk : NOk w6 (Mu q s1) m2 := by
      have hA := OR.out.lo
      have hP := OP.out.lo
      have hWs := B5.out.size
      have hwW := HL.out
      have hSV := SV.out
      -- a list's block: made by Clone: neither the box, nor one that turns
      have hin : ∀ k, W.heap.size ≤ k → k < w5.heap.size → ¬ Mu q s k ∧ k ≠ w.heap.size := fun k h1 h2 => ⟨fun hm => by have := (H.out.mu_lt hm).2; omega, by omega⟩
      have hkp : ∀ k, W.heap.size ≤ k → k < w5.heap.size → w6.heap[k]? = w5.heap[k]? := fun k h1 h2 => (L2.block k (by omega) (fun hm => hm.elim (hin k h1 h2).1 (hin k h1 h2).2)).trans (KV.out k (hin k h1 h2).2)
      have hOA : OwnR w6 W.heap.size (.slice A n.bs.length c) n.bs := OR.out.keepAt fun k hk hk2 => hkp k (OR.out.lt_ hk).1 hk2
      have hOB : Own w6 W.heap.size (.slice P n.ps.length d) n.ps := by
        refine ⟨OP.out.1, ?_⟩
        rcases OP.out.2 with hn | ⟨g', cap', cur, hv, hbg, hg, rest⟩
        · exact .inl hn
        · exact .inr ⟨g', cap', cur, hv, hbg, (hkp g' hbg (Array.getElem?_eq_some_iff.1 hg).1).trans hg, rest⟩
      obtain ⟨Ax, cx, ex, hrx, hax, _⟩ := hOA.open2
      obtain ⟨Px, dx, ey, hry, hay, _⟩ := hOB.open2
      injection ex with ex1 ex2 ex3
      injection ey with ey1 ey2 ey3
      subst ex1 ey1
      have hm2 := L1.me
      have hy := YE.out
      have hmu : ∀ k, W.heap.size ≤ k → k < w5.heap.size → ¬ Mu q s1 k := fun k h1 h2 hm => by
        rcases L3 k hm with h3 | h3
        · exact (hin k h1 h2).1 h3
        · omega
      rw [hm2]
      subst hy
      exact ⟨⟨hrx, hry, BM.out.1, BM.out.2.1, BM.out.2.2⟩, fun e => by show c = 0; rw [ex3]; exact hax e, fun e => by show d = 0; rw [ey3]; exact hay e, fun ad e hm => hmu _ (hA ad e).1 (hA ad e).2 hm, fun ad e hm => hmu _ (hP ad e).1 (hP ad e).2 hm, fun ad e => by have := hA ad e; omega, fun ad e => by have := hP ad e; omega⟩
    have hsm : sameN (alN n ((s.cs.length : Int) + 1)) m2 := by rw [L1.me, YE.out]; exact ⟨A, c, P, d, rfl⟩
    have hfs : FRs w.heap.size m2 := by rw [L1.me, YE.out]; exact ⟨fun ad e => by have := OR.out.lo ad e; have := HL.out; omega, fun ad e => by have := OP.out.lo ad e; have := HL.out; omega⟩
    have FS := Lib.hid hfs
    have hkn : hasO y = hasO n := by rw [YE.out]; rfl
    have HKN := Lib.hid hkn
    have FF := Lib.hid L1.fr
    have hmut : ∀ k, Mu q s1 k → Mu q s k ∨ w.heap.size ≤ k := fun k hk => (L1.mu k hk).imp id (fun h => by omega)
    have MUT := Lib.hid hmut
    have hns : s1.ns.length < 1000 := by rw [L1.ns]; exact hl
    generalize w6 = wc at *
    have OC := Lib.hid hoc
    have BC := Lib.hid hbxc
    have NK2 := Lib.hid hnk
    have SM := Lib.hid hsm
    have HBC := Lib.hid hbc
    have c0 := block_cell hoc.blk (i := 0) (v := .slice s1.nA s1.ns.length s1.nc) rfl
    have c0' := fun o => (World.cell?_alloc_lt wc o ⟨q, 0, none⟩ hoc.lt).trans c0
    have HQC := Lib.hid hoc.lt
    have HNS := Lib.hid hns
    obtain ⟨i0, hi0, hz0, hz1, hz2⟩ := info_parts nodeInfo14
    obtain ⟨z0, hz0'⟩ : ∃ z0, i0.zero = some z0 ∧ z0.cells.size = 14 := ⟨_, hz0, rfl⟩
    have HI := Lib.hid (⟨hi0, hz0'.1, hz1, hz2, hz0'.2⟩ : _ ∧ _ ∧ _ ∧ _ ∧ _)
    have hbase : base ≤ wc.heap.size := Nat.le_trans hoc.hq (Nat.le_of_lt hoc.lt)
    have HBS := Lib.hid hbase
    clear hi0 hz0 hz0' hz1 hz2 hbase hoc hbxc hsz6 hbc hnk hsm hfs hkn hmut hns L1 L2 L3 L
    have lv := run_loadNode_drew BC.out
    have lv2 := fun o => run_loadNode_alloc BC.out o
    go_region_law
      ((refine step_append_lies _ (by rfl) (.tmp 26) (.tmp 28) 36 (by rfl) base 35 i0 z0 14 152 Try.underlying36 HI.out.1 HI.out.2.1 HI.out.2.2.1 HI.out.2.2.2.1 HI.out.2.2.2.2 (by omega) (.slice s1.nA s1.ns.length s1.nc) s1.ns.length (flatN s1.ns) (by rfl) (OC.out.nod.keepFrom fun k _ hk2 => Below.heap_alloc wc _ k hk2) ⟨wc.heap.size, 0, none⟩ 1 1 (flatN [m2]) (by rfl) (flatN_length [m2]) (fun j u hj => (by
          rw [Addr.add_lit, Nat.zero_add]
          exact (cell_of_row (wc.alloc (.cells (rowOf [m2.cs]) 35)) wc.heap.size j (rowOf [m2.cs]) 35 (0, 0) (heap_alloc_new wc _)).trans (rowOf_one m2 j u hj))) (flatN_one [m2]) (by omega) (by have := HNS.out; simp only [maxLen]; omega) (by have := HNS.out; omega) (Nat.le_trans HBS.out (by simp)) (wc.heap.size + 1) (by simp) ?_
        intro g1 cap1 w1 hown hgrow hat hlt
        have N := Lib.hid (OC.out.addN (by decide) (by decide) HNS.out NK2.out (.cells (rowOf [m2.cs]) 35) hown ⟨hgrow.os, hgrow.tape, hgrow.output, hgrow.size, hgrow.block⟩ hat)
        have hb1 : w1.heap[q]? = wc.heap[q]? := (hgrow.block q (by have := HQC.out; simp; omega) (fun e => OC.out.nod_ne (by decide) e.symm rfl)).trans (Below.heap_alloc wc _ q HQC.out)
        have e1 := block_cell (hb1.trans OC.out.blk) (i := 0) (v := .slice s1.nA s1.ns.length s1.nc) rfl
        have f1 := block_frozen (hb1.trans OC.out.blk) 0
        clear hown hgrow hat hlt hb1))
    all_goals
      obtain ⟨Z, hZ⟩ : ∃ Z, Z = w1.setCell ⟨q, 0, none⟩ (.slice (some ⟨g1, 0, none⟩) (s1.ns.length + 1) cap1) := ⟨_, rfl⟩
      have NZ := N.out
      rw [← hZ] at NZ ⊢
      have HZ := Lib.hid NZ
      clear hZ NZ c0 c0' e1 f1 lv lv2
      have d0 := block_cell HZ.out.1.blk (i := 0) (v := .slice (some ⟨g1, 0, none⟩) (s1.ns.length + 1) cap1) (by simp [Sd.addN])
      go_wp2
      go_ret
      refine ⟨s1.addN g1 cap1 m2, ?_, ⟨⟨m2, by show s1.ns ++ [m2] = _; rw [LL.out.ns], SM.out, FS.out⟩, by show s1.cs = _; rw [LL.out.cs, HKN.out], LL.out.gen⟩, HZ.out.1, FF.out.trans HZ.out.2.1 MUT.out, fun k hk => (HZ.out.2.2 k hk).elim (MUT.out k) (fun h => .inr (by have := FF.out.size; omega))⟩
      rw [← LL.out.ns]
      first | rfl | exact ret_int (by simp)
  by_cases k8 : y.kind = 8
  ·
    have eP : ownP w.heap.size n0 = .pointer (some ⟨w.heap.size, 13, none⟩) := by simp [ownP, ownIx, hk0, k8]
    rw [eP] at OC
    have K := Lib.hid k8
    clear k8 hk0 eP k2 k3 k5 k6
    go_upto_region 6 with (first
      | (go_at_call 27; refine OC.out.mono ?_; rintro e V2 ⟨rfl, hg⟩; have HG := Lib.hid hg; have NC := Lib.hid (newCell_a base q s acc v V2 (OV.out.up hg.b) hc); clear hg)
      | (go_at_call 10; refine NC.out.mono ?_; rintro e w7 ⟨g, cap, rfl, hob, hf, hm⟩; have NB := Lib.hid (⟨hob, (Fr.of_below HG.out.b : Fr (Mu q s) V V2).then_ hf, fun k hk => (hm k hk).imp id (fun h => Nat.le_trans HG.out.size h)⟩ : _ ∧ Fr (Mu q s) V w7 ∧ (∀ k, Mu q (s.addC g cap v) k → Mu q s k ∨ V.heap.size ≤ k)); have x2 := node_cellA (hb5.out w7 NB.out.2.1) (i := 13) (v := .int .i64 n0.status) rfl; have y2 := node_frozen (hb5.out w7 NB.out.2.1) 13; clear hob hf hm))
    obtain ⟨w6, hw6⟩ : ∃ w6, w6 = w7.setCell ⟨w.heap.size, 13, none⟩ (.int .i64 ((s.cs.length : Int) + 1)) := ⟨_, rfl⟩
    have L := Lib.hid (show ∃ s1 m, Laid w w6 base 69 q s s1 acc y m v ∧ Fr (fun k => Mu q s k ∨ k = w.heap.size) V w6 ∧ (∀ k, Mu q s1 k → Mu q s k ∨ V.heap.size ≤ k) from ⟨_, alN y ((s.cs.length : Int) + 1), by
      rw [hw6]
      exact laid_of H.out BV.out LV.out VB.out NB.out.1 NB.out.2.1 NB.out.2.2 (by rw [N0.out]; simp [alN, Nd.cs, show y.kind = 8 from K.out]) rfl (by simp [hasO, show y.kind = 8 from K.out]), by
      rw [hw6]
      exact (NB.out.2.1.mono fun k _ hk => .inl hk).setCell (.inl (.inr rfl)) _, NB.out.2.2⟩)
    rw [← hw6]
    clear hw6 NB K x2 y2
    obtain ⟨s1, m2, L1, L2, L3⟩ := L.out
    have LL := Lib.hid L1
    have hoc := L1.ob
    have hbxc := L1.box
    have hsz6 := L2.size
    have hbc := L1.lt
    have hnk : NOk w6 (Mu q s1) m2 := by
      have hA := OR.out.lo
      have hP := OP.out.lo
      have hWs := B5.out.size
      have hwW := HL.out
      have hSV := SV.out
      -- a list's block: made by Clone: neither the box, nor one that turns
      have hin : ∀ k, W.heap.size ≤ k → k < w5.heap.size → ¬ Mu q s k ∧ k ≠ w.heap.size := fun k h1 h2 => ⟨fun hm => by have := (H.out.mu_lt hm).2; omega, by omega⟩
      have hkp : ∀ k, W.heap.size ≤ k → k < w5.heap.size → w6.heap[k]? = w5.heap[k]? := fun k h1 h2 => (L2.block k (by omega) (fun hm => hm.elim (hin k h1 h2).1 (hin k h1 h2).2)).trans (KV.out k (hin k h1 h2).2)
      have hOA : OwnR w6 W.heap.size (.slice A n.bs.length c) n.bs := OR.out.keepAt fun k hk hk2 => hkp k (OR.out.lt_ hk).1 hk2
      have hOB : Own w6 W.heap.size (.slice P n.ps.length d) n.ps := by
        refine ⟨OP.out.1, ?_⟩
        rcases OP.out.2 with hn | ⟨g', cap', cur, hv, hbg, hg, rest⟩
        · exact .inl hn
        · exact .inr ⟨g', cap', cur, hv, hbg, (hkp g' hbg (Array.getElem?_eq_some_iff.1 hg).1).trans hg, rest⟩
      obtain ⟨Ax, cx, ex, hrx, hax, _⟩ := hOA.open2
      obtain ⟨Px, dx, ey, hry, hay, _⟩ := hOB.open2
      injection ex with ex1 ex2 ex3
      injection ey with ey1 ey2 ey3
      subst ex1 ey1
      have hm2 := L1.me
      have hy := YE.out
      have hmu : ∀ k, W.heap.size ≤ k → k < w5.heap.size → ¬ Mu q s1 k := fun k h1 h2 hm => by
        rcases L3 k hm with h3 | h3
        · exact (hin k h1 h2).1 h3
        · omega
      rw [hm2]
      subst hy
      exact ⟨⟨hrx, hry, BM.out.1, BM.out.2.1, BM.out.2.2⟩, fun e => by show c = 0; rw [ex3]; exact hax e, fun e => by show d = 0; rw [ey3]; exact hay e, fun ad e hm => hmu _ (hA ad e).1 (hA ad e).2 hm, fun ad e hm => hmu _ (hP ad e).1 (hP ad e).2 hm, fun ad e => by have := hA ad e; omega, fun ad e => by have := hP ad e; omega⟩
    have hsm : sameN (alN n ((s.cs.length : Int) + 1)) m2 := by rw [L1.me, YE.out]; exact ⟨A, c, P, d, rfl⟩
    have hfs : FRs w.heap.size m2 := by rw [L1.me, YE.out]; exact ⟨fun ad e => by have := OR.out.lo ad e; have := HL.out; omega, fun ad e => by have := OP.out.lo ad e; have := HL.out; omega⟩
    have FS := Lib.hid hfs
    have hkn : hasO y = hasO n := by rw [YE.out]; rfl
    have HKN := Lib.hid hkn
    have FF := Lib.hid L1.fr
    have hmut : ∀ k, Mu q s1 k → Mu q s k ∨ w.heap.size ≤ k := fun k hk => (L1.mu k hk).imp id (fun h => by omega)
    have MUT := Lib.hid hmut
    have hns : s1.ns.length < 1000 := by rw [L1.ns]; exact hl
    generalize w6 = wc at *
    have OC := Lib.hid hoc
    have BC := Lib.hid hbxc
    have NK2 := Lib.hid hnk
    have SM := Lib.hid hsm
    have HBC := Lib.hid hbc
    have c0 := block_cell hoc.blk (i := 0) (v := .slice s1.nA s1.ns.length s1.nc) rfl
    have c0' := fun o => (World.cell?_alloc_lt wc o ⟨q, 0, none⟩ hoc.lt).trans c0
    have HQC := Lib.hid hoc.lt
    have HNS := Lib.hid hns
    obtain ⟨i0, hi0, hz0, hz1, hz2⟩ := info_parts nodeInfo14
    obtain ⟨z0, hz0'⟩ : ∃ z0, i0.zero = some z0 ∧ z0.cells.size = 14 := ⟨_, hz0, rfl⟩
    have HI := Lib.hid (⟨hi0, hz0'.1, hz1, hz2, hz0'.2⟩ : _ ∧ _ ∧ _ ∧ _ ∧ _)
    have hbase : base ≤ wc.heap.size := Nat.le_trans hoc.hq (Nat.le_of_lt hoc.lt)
    have HBS := Lib.hid hbase
    clear hi0 hz0 hz0' hz1 hz2 hbase hoc hbxc hsz6 hbc hnk hsm hfs hkn hmut hns L1 L2 L3 L
    have lv := run_loadNode_drew BC.out
    have lv2 := fun o => run_loadNode_alloc BC.out o
    go_region_law
      ((refine step_append_lies _ (by rfl) (.tmp 26) (.tmp 28) 36 (by rfl) base 35 i0 z0 14 152 Try.underlying36 HI.out.1 HI.out.2.1 HI.out.2.2.1 HI.out.2.2.2.1 HI.out.2.2.2.2 (by omega) (.slice s1.nA s1.ns.length s1.nc) s1.ns.length (flatN s1.ns) (by rfl) (OC.out.nod.keepFrom fun k _ hk2 => Below.heap_alloc wc _ k hk2) ⟨wc.heap.size, 0, none⟩ 1 1 (flatN [m2]) (by rfl) (flatN_length [m2]) (fun j u hj => (by
          rw [Addr.add_lit, Nat.zero_add]
          exact (cell_of_row (wc.alloc (.cells (rowOf [m2.cs]) 35)) wc.heap.size j (rowOf [m2.cs]) 35 (0, 0) (heap_alloc_new wc _)).trans (rowOf_one m2 j u hj))) (flatN_one [m2]) (by omega) (by have := HNS.out; simp only [maxLen]; omega) (by have := HNS.out; omega) (Nat.le_trans HBS.out (by simp)) (wc.heap.size + 1) (by simp) ?_
        intro g1 cap1 w1 hown hgrow hat hlt
        have N := Lib.hid (OC.out.addN (by decide) (by decide) HNS.out NK2.out (.cells (rowOf [m2.cs]) 35) hown ⟨hgrow.os, hgrow.tape, hgrow.output, hgrow.size, hgrow.block⟩ hat)
        have hb1 : w1.heap[q]? = wc.heap[q]? := (hgrow.block q (by have := HQC.out; simp; omega) (fun e => OC.out.nod_ne (by decide) e.symm rfl)).trans (Below.heap_alloc wc _ q HQC.out)
        have e1 := block_cell (hb1.trans OC.out.blk) (i := 0) (v := .slice s1.nA s1.ns.length s1.nc) rfl
        have f1 := block_frozen (hb1.trans OC.out.blk) 0
        clear hown hgrow hat hlt hb1))
    all_goals
      obtain ⟨Z, hZ⟩ : ∃ Z, Z = w1.setCell ⟨q, 0, none⟩ (.slice (some ⟨g1, 0, none⟩) (s1.ns.length + 1) cap1) := ⟨_, rfl⟩
      have NZ := N.out
      rw [← hZ] at NZ ⊢
      have HZ := Lib.hid NZ
      clear hZ NZ c0 c0' e1 f1 lv lv2
      have d0 := block_cell HZ.out.1.blk (i := 0) (v := .slice (some ⟨g1, 0, none⟩) (s1.ns.length + 1) cap1) (by simp [Sd.addN])
      go_wp2
      go_ret
      refine ⟨s1.addN g1 cap1 m2, ?_, ⟨⟨m2, by show s1.ns ++ [m2] = _; rw [LL.out.ns], SM.out, FS.out⟩, by show s1.cs = _; rw [LL.out.cs, HKN.out], LL.out.gen⟩, HZ.out.1, FF.out.trans HZ.out.2.1 MUT.out, fun k hk => (HZ.out.2.2 k hk).elim (MUT.out k) (fun h => .inr (by have := FF.out.size; omega))⟩
      rw [← LL.out.ns]
      first | rfl | exact ret_int (by simp)
  ·
    have eP : ownP w.heap.size n0 = .pointer none := by simp [ownP, ownIx, mainB, hk0, k2, k3, k5, k6, k8]
    rw [eP] at OC
    have K := Lib.hid (⟨k2, k3, k5, k6, k8⟩ : _ ∧ _ ∧ _ ∧ _ ∧ _)
    clear k2 k3 k5 k6 k8 hk0 eP
    go_upto_region 6 with (go_at_call 27; refine OC.out.mono ?_; rintro e w6 ⟨rfl, hg⟩; have HG := Lib.hid hg; clear hg)
    have L := Lib.hid (show ∃ s1 m, Laid w w6 base 69 q s s1 acc y m v ∧ Fr (fun k => Mu q s k ∨ k = w.heap.size) V w6 ∧ (∀ k, Mu q s1 k → Mu q s k ∨ V.heap.size ≤ k) from ⟨s, n0, ⟨(HG.out.b.block _ LV.out).trans VB.out, by rw [N0.out]; simp [alN, K.out.1, K.out.2.1, K.out.2.2.1, K.out.2.2.2.1, K.out.2.2.2.2], OV.out.up HG.out.b, Fr.of_below (BV.out.trans (HG.out.b.mono (Nat.le_of_lt LV.out))), fun k hk => .inl hk, rfl, rfl, rfl, rfl, by simp [hasO, K.out.1, K.out.2.1, K.out.2.2.1, K.out.2.2.2.1, K.out.2.2.2.2], Nat.lt_of_lt_of_le LV.out HG.out.size⟩, Fr.of_below HG.out.b, fun k hk => .inl hk⟩)
    clear K
    obtain ⟨s1, m2, L1, L2, L3⟩ := L.out
    have LL := Lib.hid L1
    have hoc := L1.ob
    have hbxc := L1.box
    have hsz6 := L2.size
    have hbc := L1.lt
    have hnk : NOk w6 (Mu q s1) m2 := by
      have hA := OR.out.lo
      have hP := OP.out.lo
      have hWs := B5.out.size
      have hwW := HL.out
      have hSV := SV.out
      -- a list's block: made by Clone: neither the box, nor one that turns
      have hin : ∀ k, W.heap.size ≤ k → k < w5.heap.size → ¬ Mu q s k ∧ k ≠ w.heap.size := fun k h1 h2 => ⟨fun hm => by have := (H.out.mu_lt hm).2; omega, by omega⟩
      have hkp : ∀ k, W.heap.size ≤ k → k < w5.heap.size → w6.heap[k]? = w5.heap[k]? := fun k h1 h2 => (L2.block k (by omega) (fun hm => hm.elim (hin k h1 h2).1 (hin k h1 h2).2)).trans (KV.out k (hin k h1 h2).2)
      have hOA : OwnR w6 W.heap.size (.slice A n.bs.length c) n.bs := OR.out.keepAt fun k hk hk2 => hkp k (OR.out.lt_ hk).1 hk2
      have hOB : Own w6 W.heap.size (.slice P n.ps.length d) n.ps := by
        refine ⟨OP.out.1, ?_⟩
        rcases OP.out.2 with hn | ⟨g', cap', cur, hv, hbg, hg, rest⟩
        · exact .inl hn
        · exact .inr ⟨g', cap', cur, hv, hbg, (hkp g' hbg (Array.getElem?_eq_some_iff.1 hg).1).trans hg, rest⟩
      obtain ⟨Ax, cx, ex, hrx, hax, _⟩ := hOA.open2
      obtain ⟨Px, dx, ey, hry, hay, _⟩ := hOB.open2
      injection ex with ex1 ex2 ex3
      injection ey with ey1 ey2 ey3
      subst ex1 ey1
      have hm2 := L1.me
      have hy := YE.out
      have hmu : ∀ k, W.heap.size ≤ k → k < w5.heap.size → ¬ Mu q s1 k := fun k h1 h2 hm => by
        rcases L3 k hm with h3 | h3
        · exact (hin k h1 h2).1 h3
        · omega
      rw [hm2]
      subst hy
      exact ⟨⟨hrx, hry, BM.out.1, BM.out.2.1, BM.out.2.2⟩, fun e => by show c = 0; rw [ex3]; exact hax e, fun e => by show d = 0; rw [ey3]; exact hay e, fun ad e hm => hmu _ (hA ad e).1 (hA ad e).2 hm, fun ad e hm => hmu _ (hP ad e).1 (hP ad e).2 hm, fun ad e => by have := hA ad e; omega, fun ad e => by have := hP ad e; omega⟩
    have hsm : sameN (alN n ((s.cs.length : Int) + 1)) m2 := by rw [L1.me, YE.out]; exact ⟨A, c, P, d, rfl⟩
    have hfs : FRs w.heap.size m2 := by rw [L1.me, YE.out]; exact ⟨fun ad e => by have := OR.out.lo ad e; have := HL.out; omega, fun ad e => by have := OP.out.lo ad e; have := HL.out; omega⟩
    have FS := Lib.hid hfs
    have hkn : hasO y = hasO n := by rw [YE.out]; rfl
    have HKN := Lib.hid hkn
    have FF := Lib.hid L1.fr
    have hmut : ∀ k, Mu q s1 k → Mu q s k ∨ w.heap.size ≤ k := fun k hk => (L1.mu k hk).imp id (fun h => by omega)
    have MUT := Lib.hid hmut
    have hns : s1.ns.length < 1000 := by rw [L1.ns]; exact hl
    generalize w6 = wc at *
    have OC := Lib.hid hoc
    have BC := Lib.hid hbxc
    have NK2 := Lib.hid hnk
    have SM := Lib.hid hsm
    have HBC := Lib.hid hbc
    have c0 := block_cell hoc.blk (i := 0) (v := .slice s1.nA s1.ns.length s1.nc) rfl
    have c0' := fun o => (World.cell?_alloc_lt wc o ⟨q, 0, none⟩ hoc.lt).trans c0
    have HQC := Lib.hid hoc.lt
    have HNS := Lib.hid hns
    obtain ⟨i0, hi0, hz0, hz1, hz2⟩ := info_parts nodeInfo14
    obtain ⟨z0, hz0'⟩ : ∃ z0, i0.zero = some z0 ∧ z0.cells.size = 14 := ⟨_, hz0, rfl⟩
    have HI := Lib.hid (⟨hi0, hz0'.1, hz1, hz2, hz0'.2⟩ : _ ∧ _ ∧ _ ∧ _ ∧ _)
    have hbase : base ≤ wc.heap.size := Nat.le_trans hoc.hq (Nat.le_of_lt hoc.lt)
    have HBS := Lib.hid hbase
    clear hi0 hz0 hz0' hz1 hz2 hbase hoc hbxc hsz6 hbc hnk hsm hfs hkn hmut hns L1 L2 L3 L
    have lv := run_loadNode_drew BC.out
    have lv2 := fun o => run_loadNode_alloc BC.out o
    go_region_law
      ((refine step_append_lies _ (by rfl) (.tmp 26) (.tmp 28) 36 (by rfl) base 35 i0 z0 14 152 Try.underlying36 HI.out.1 HI.out.2.1 HI.out.2.2.1 HI.out.2.2.2.1 HI.out.2.2.2.2 (by omega) (.slice s1.nA s1.ns.length s1.nc) s1.ns.length (flatN s1.ns) (by rfl) (OC.out.nod.keepFrom fun k _ hk2 => Below.heap_alloc wc _ k hk2) ⟨wc.heap.size, 0, none⟩ 1 1 (flatN [m2]) (by rfl) (flatN_length [m2]) (fun j u hj => (by
          rw [Addr.add_lit, Nat.zero_add]
          exact (cell_of_row (wc.alloc (.cells (rowOf [m2.cs]) 35)) wc.heap.size j (rowOf [m2.cs]) 35 (0, 0) (heap_alloc_new wc _)).trans (rowOf_one m2 j u hj))) (flatN_one [m2]) (by omega) (by have := HNS.out; simp only [maxLen]; omega) (by have := HNS.out; omega) (Nat.le_trans HBS.out (by simp)) (wc.heap.size + 1) (by simp) ?_
        intro g1 cap1 w1 hown hgrow hat hlt
        have N := Lib.hid (OC.out.addN (by decide) (by decide) HNS.out NK2.out (.cells (rowOf [m2.cs]) 35) hown ⟨hgrow.os, hgrow.tape, hgrow.output, hgrow.size, hgrow.block⟩ hat)
        have hb1 : w1.heap[q]? = wc.heap[q]? := (hgrow.block q (by have := HQC.out; simp; omega) (fun e => OC.out.nod_ne (by decide) e.symm rfl)).trans (Below.heap_alloc wc _ q HQC.out)
        have e1 := block_cell (hb1.trans OC.out.blk) (i := 0) (v := .slice s1.nA s1.ns.length s1.nc) rfl
        have f1 := block_frozen (hb1.trans OC.out.blk) 0
        clear hown hgrow hat hlt hb1))
    all_goals
      obtain ⟨Z, hZ⟩ : ∃ Z, Z = w1.setCell ⟨q, 0, none⟩ (.slice (some ⟨g1, 0, none⟩) (s1.ns.length + 1) cap1) := ⟨_, rfl⟩
      have NZ := N.out
      rw [← hZ] at NZ ⊢
      have HZ := Lib.hid NZ
      clear hZ NZ c0 c0' e1 f1 lv lv2
      have d0 := block_cell HZ.out.1.blk (i := 0) (v := .slice (some ⟨g1, 0, none⟩) (s1.ns.length + 1) cap1) (by simp [Sd.addN])
      go_wp2
      go_ret
      refine ⟨s1.addN g1 cap1 m2, ?_, ⟨⟨m2, by show s1.ns ++ [m2] = _; rw [LL.out.ns], SM.out, FS.out⟩, by show s1.cs = _; rw [LL.out.cs, HKN.out], LL.out.gen⟩, HZ.out.1, FF.out.trans HZ.out.2.1 MUT.out, fun k hk => (HZ.out.2.2 k hk).elim (MUT.out k) (fun h => .inr (by have := FF.out.size; omega))⟩
      rw [← LL.out.ns]
      first | rfl | exact ret_int (by simp)

end Go.Proofs.Ytbknbjabkhhlfaa
