/-
  The walk of the reference's Alloc once more: lists that are empty may lie anywhere.
-/
import Derived.Test.YtbknbjabkhhlfaaArM

set_option linter.unusedVariables false
set_option maxRecDepth 100000
namespace Go.Proofs.Ytbknbjabkhhlfaa
open Go.Shelf Go.RowKit Go.Lib Go.Sort
attribute [local go_sem ↓] exec_load28 exec_store44 exec_build1
attribute [local go_sem] run_build1

theorem rdR_fr2 {M : Nat → Prop} {w w' : World} {A : Option Addr} {zs : List Int} (h : RdR w w.heap.size A zs) (hf : Fr M w w') (ha : 0 < zs.length → Av M A) : RdR w' w'.heap.size A zs := fun hn => h.fr hf (ha hn) hn
theorem rd_fr2 {M : Nat → Prop} {w w' : World} {A : Option Addr} {zs : List Pr} (h : Rd w w.heap.size A zs) (hf : Fr M w w') (ha : 0 < zs.length → Av M A) : Rd w' w'.heap.size A zs := fun hn => h.fr hf (ha hn) hn
set_option maxHeartbeats 16000000 in
theorem ralloc2_any (base q : Nat) (s : Sd) (acc : Int) (n : Nd) (v : Int) (w : World) (h : Ob w base 40 q s acc) (hn : NRd w w.heap.size n) (hnb : n.bA = none → n.bc = 0) (hnp : n.pA = none → n.pc = 0) (hab : 0 < n.bs.length → Av (Mu q s) n.bA) (hap : 0 < n.ps.length → Av (Mu q s) n.pA) (hl : s.ns.length < 1000) (hc : s.cs.length < 1000) :
    Calls Try.prog 7 #[.pointer (some ⟨q, 0, none⟩), .agg n.cs, .int .i64 v] w (AllocP 40 base q s acc n v w) := by
  have mixed := mixedOrders
  have hqw := h.lt
  obtain ⟨W, hW⟩ : ∃ W, W = w.alloc (.cells n.cs 35) := ⟨_, rfl⟩
  have hbox : W.heap[w.heap.size]? = some (.cells n.cs 35 (0, 0)) := by rw [hW]; exact heap_alloc_new w _
  have GW := Lib.hid (show Below w.heap.size w W by rw [hW]; exact (Below.refl _ w).alloc (Nat.le_refl _) _)
  have HL := Lib.hid (show w.heap.size < W.heap.size by rw [hW]; simp)
  have HO := Lib.hid (h.up GW.out)
  have HN := Lib.hid (⟨hn, hnb, hnp, hab, hap⟩ : _ ∧ _ ∧ _ ∧ _ ∧ _)
  have H := Lib.hid h
  have HB := Lib.hid hbox
  have HW := Lib.hid hW.symm
  have hsl := h.cl
  have e2 := node_cellA hbox (i := 2) (v := .int .i64 n.main) rfl
  have e9 := node_cellA hbox (i := 9) (v := .int .i64 n.prev) rfl
  have e13 := node_cellA hbox (i := 13) (v := .int .i64 n.status) rfl
  have f2 := node_frozen hbox 2
  have f9 := node_frozen hbox 9
  have f13 := node_frozen hbox 13
  have HQ := Lib.hid hqw
  clear h hn hnb hnp hab hap hbox hW
  go_enter Try.func7, Try.ntmps7
  go_upto_region 1 with (fail)
  rw [HW.out]
  go_upto_region 2 with (fail)
  obtain ⟨n0, hn0⟩ : ∃ n0 : Nd, n0 = { n with main := 0, prev := 0, status := 0 } := ⟨_, rfl⟩
  obtain ⟨V, hV⟩ : ∃ V, V = ((W.setCell ⟨w.heap.size, 2, none⟩ (.int .i64 0)).setCell ⟨w.heap.size, 9, none⟩ (.int .i64 0)).setCell ⟨w.heap.size, 13, none⟩ (.int .i64 0) := ⟨_, rfl⟩
  have hv : V.heap[w.heap.size]? = some (.cells n0.cs 35 (0, 0)) := by
    rw [hV]
    have := set_field (set_field (set_field HB.out 2 (.int .i64 0)) 9 (.int .i64 0)) 13 (.int .i64 0)
    rw [this, hn0]
    rfl
  have BV := Lib.hid (show Below w.heap.size w V by
    rw [hV]
    exact ((GW.out.setCell (Nat.le_refl _) _).setCell (Nat.le_refl _) _).setCell (Nat.le_refl _) _)
  have SV := Lib.hid (show V.heap.size = W.heap.size by rw [hV]; simp)
  have OV := Lib.hid (H.out.up BV.out)
  rw [← hV]
  have VB := Lib.hid hv
  have N0 := Lib.hid hn0
  have d0 := node_cellA hv (i := 0) (v := .int .i64 n0.kind) rfl
  clear hV hv e2 e9 e13 f2 f9 f13
  have NC := Lib.hid (newCell_m base q s acc v V OV.out hc)
  have LV := Lib.hid (show w.heap.size < V.heap.size by rw [SV.out]; exact HL.out)
  have hb5 := Lib.hid (fun (w5 : World) (hf : Fr (Mu q s) V w5) => (hf.block _ LV.out (fun hm => by have := (H.out.mu_lt hm).2; omega)).trans VB.out)
  have hk0 : n0.kind = n.kind := by rw [N0.out]
  clear hn0
  by_cases k2 : n.kind = 2
  ·
    have t2 : (n0.kind == 2) = true := by rw [hk0]; exact beq_iff_eq.2 k2
    have t3 : (n0.kind == 3) = false := by rw [hk0]; exact beq_eq_false_iff_ne.2 (by omega)
    have t5 : (n0.kind == 5) = false := by rw [hk0]; exact beq_eq_false_iff_ne.2 (by omega)
    have t6 : (n0.kind == 6) = false := by rw [hk0]; exact beq_eq_false_iff_ne.2 (by omega)
    have t8 : (n0.kind == 8) = false := by rw [hk0]; exact beq_eq_false_iff_ne.2 (by omega)
    have K := Lib.hid k2
    clear k2 hk0
    go_upto_region 11 with (go_at_call 20; refine NC.out.mono ?_; rintro e w5 ⟨g, cap, rfl, hob, hf, hm⟩; have NB := Lib.hid (⟨hob, hf, hm⟩ : _ ∧ _ ∧ _); have x2 := node_cellA (hb5.out w5 hf) (i := 2) (v := .int .i64 n0.main) rfl; have y2 := node_frozen (hb5.out w5 hf) 2; clear hob hf hm)
    obtain ⟨w6, hw6⟩ : ∃ w6, w6 = w5.setCell ⟨w.heap.size, 2, none⟩ (.int .i64 ((s.cs.length : Int) + 1)) := ⟨_, rfl⟩
    have L := Lib.hid (show ∃ s1 m, Laid w w6 base 40 q s s1 acc n m v from ⟨_, alN n ((s.cs.length : Int) + 1), by
      rw [hw6]
      exact laid_of H.out BV.out LV.out VB.out NB.out.1 NB.out.2.1 NB.out.2.2 (by rw [N0.out]; simp [alN, Nd.cs, show n.kind = 2 from K.out]) rfl (by simp [hasO, show n.kind = 2 from K.out])⟩)
    rw [← hw6]
    clear hw6 NB K t2 t3 t5 t6 t8 x2 y2 d0
    obtain ⟨s1, m, L1⟩ := L.out
    have LL := Lib.hid L1
    have MB := Lib.hid (show m.bA = n.bA ∧ m.bc = n.bc ∧ m.bs = n.bs ∧ m.pA = n.pA ∧ m.pc = n.pc ∧ m.ps = n.ps ∧ m.bm = n.bm by rw [L1.me]; exact ⟨rfl, rfl, rfl, rfl, rfl, rfl, rfl⟩)
    have RB := Lib.hid (show RdR w6 w6.heap.size m.bA m.bs ∧ (m.bA = none → m.bc = 0) ∧ m.bs.length ≤ 1000 by obtain ⟨h1, h2, h3, h4, h5, h6, _⟩ := MB.out; rw [h1, h2, h3]; exact ⟨rdR_fr2 HN.out.1.r LL.out.fr HN.out.2.2.2.1, HN.out.2.1, HN.out.1.bl⟩)
    have RP := Lib.hid (show Rd w6 w6.heap.size m.pA m.ps ∧ (m.pA = none → m.pc = 0) ∧ m.ps.length ≤ 1000 by obtain ⟨h1, h2, h3, h4, h5, h6, _⟩ := MB.out; rw [h4, h5, h6]; exact ⟨rd_fr2 HN.out.1.p LL.out.fr HN.out.2.2.2.2, HN.out.2.2.1, HN.out.1.pl⟩)
    have a4 := node_cellA L1.box (i := 4) (v := .slice m.bA m.bs.length m.bc) rfl
    have a4' := fun o => (World.cell?_alloc_lt w6 o ⟨w.heap.size, 4, none⟩ L1.lt).trans a4
    clear L1 L
    go_wp2_with (first
      | (at_builtin
         refine wpList_append_list (w0 := wa.setCell ⟨w.heap.size, 4, none⟩ (.slice A1 m.bs.length c1)) rfl (.tmp 37) (.tmp 39) rfl wa.heap.size (.slice (some ⟨wa.heap.size, 0, none⟩) 0 0) [] rfl (own_emptyG _ (by simp)) m.pA m.ps.length m.pc wa.heap.size m.ps rfl rfl (RP2.out.alloc (by simp) _) RP.out.2.1 (by have := RP.out.2.2; simp; omega) ((Below.refl _ _).alloc (by simp) _) (by simp) ?_
         intro vb wb HOb HBb
         obtain ⟨A2, c2, hvb, _, hA2, hc2⟩ := HOb.out.open2
         simp only [List.nil_append] at hvb
         subst hvb
         have OB := Lib.hid (show Own wb wa.heap.size (.slice A2 m.ps.length c2) m.ps from by simpa using HOb.out)
         have BB := Lib.hid HBb
         have hlt3 : w.heap.size < wa.heap.size := Nat.lt_of_lt_of_le LL.out.lt BA.out.size
         have bx := (HBb.block _ hlt3).trans BX.out
         have e8 := node_cellA bx (i := 8) (v := .slice m.pA m.ps.length m.pc) (by simp [Nd.cs])
         have h8 := node_frozen bx 8
         clear HOb HBb bx hlt3 hA2 hc2)
      | (at_builtin
         refine wpList_append_refs (w0 := w6) rfl (.tmp 32) (.tmp 34) rfl w6.heap.size (.slice (some ⟨w6.heap.size, 0, none⟩) 0 0) [] rfl (ownR_empty w6) m.bA m.bs.length m.bc w6.heap.size m.bs rfl rfl (RB.out.1.alloc (Nat.le_refl _) _) RB.out.2.1 (by have := RB.out.2.2; simp; omega) ((Below.refl _ w6).alloc (Nat.le_refl _) _) (by simp) ?_
         intro va wa HOa HBa
         obtain ⟨A1, c1, hva, _, hA1, hc1⟩ := HOa.out.open2
         simp only [List.nil_append] at hva
         subst hva
         have OA := Lib.hid (show OwnR wa w6.heap.size (.slice A1 m.bs.length c1) m.bs from by simpa using HOa.out)
         have BA := Lib.hid HBa
         have bx := (HBa.block _ LL.out.lt).trans LL.out.box
         have b4 := node_cellA bx (i := 4) (v := .slice m.bA m.bs.length m.bc) rfl
         have g4 := node_frozen bx 4
         have bx2 := set_field bx 4 (.slice A1 m.bs.length c1)
         have BX := Lib.hid bx2
         have b8 := node_cellA bx2 (i := 8) (v := .slice m.pA m.ps.length m.pc) (by simp [Nd.cs])
         have hlt2 : w.heap.size < (wa.setCell ⟨w.heap.size, 4, none⟩ (.slice A1 m.bs.length c1)).heap.size := (Array.getElem?_eq_some_iff.1 bx2).1
         have b8' := fun o => (World.cell?_alloc_lt _ o ⟨w.heap.size, 8, none⟩ hlt2).trans b8
         have RP2 := Lib.hid (show Rd (wa.setCell ⟨w.heap.size, 4, none⟩ (.slice A1 m.bs.length c1)) wa.heap.size m.pA m.ps by
           exact fun hn => by
             have hap : ∀ ad, m.pA = some ad → ad.block ≠ w.heap.size := fun ad e => by
               rw [MB.out.2.2.2.1] at e
               obtain ⟨ad', e', hb', _⟩ := HN.out.1.p (by rw [← MB.out.2.2.2.2.2.1]; exact hn)
               rw [e] at e'
               injection e' with e'
               subst e'
               omega
             obtain ⟨ad, e, hb, hc⟩ := RP.out.1 hn
             refine ⟨ad, e, Nat.lt_of_lt_of_le hb HBa.size, fun j u hu => ?_⟩
             have hbk : (ad.add j).block = ad.block := block_add ad j
             rw [World.cell?_setCell_other _ _ _ _ (fun h => hap ad e (by have := congrArg Addr.block h; rw [hbk] at this; first | exact this | exact this.symm))]
             exact (HBa.cell (by rw [hbk]; exact hb)).trans (hc j u hu))
         clear HOa HBa bx bx2 hlt2 hA1 hc1))
    obtain ⟨m2, hm2⟩ : ∃ m2 : Nd, m2 = { m with bA := A1, bc := c1, pA := A2, pc := c2 } := ⟨_, rfl⟩
    obtain ⟨wc, hwc⟩ : ∃ wc, wc = wb.setCell ⟨w.heap.size, 8, none⟩ (.slice A2 m.ps.length c2) := ⟨_, rfl⟩
    have hLt := LL.out.lt
    have hAB : w.heap.size < wa.heap.size := Nat.lt_of_lt_of_le hLt BA.out.size
    have hBs : (wa.setCell ⟨w.heap.size, 4, none⟩ (.slice A1 m.bs.length c1)).heap.size = wa.heap.size := by simp
    have hBW : wa.heap.size ≤ wb.heap.size := by have := BB.out.size; rw [hBs] at this; exact this
    have hbxc : wc.heap[w.heap.size]? = some (.cells m2.cs 35 (0, 0)) := by
      rw [hwc]
      have h1 := set_field ((BB.out.block _ hAB).trans BX.out) 8 (.slice A2 m.ps.length c2)
      rw [h1, hm2]
      rfl
    have hother : ∀ k, k ≠ w.heap.size → k < w6.heap.size → wc.heap[k]? = w6.heap[k]? := fun k hk hk2 => by
      rw [hwc]
      exact (((Below.heap_setCell wb ⟨w.heap.size, 8, none⟩ _ k hk).trans (BB.out.block k (Nat.lt_of_lt_of_le hk2 BA.out.size))).trans (Below.heap_setCell wa ⟨w.heap.size, 4, none⟩ _ k hk)).trans (BA.out.block k hk2)
    have hrest : wc.os = w6.os ∧ wc.tape = w6.tape ∧ wc.output = w6.output ∧ w6.heap.size ≤ wc.heap.size := by
      rw [hwc]
      exact ⟨BB.out.os.trans BA.out.os, BB.out.tape.trans BA.out.tape, BB.out.output.trans BA.out.output, by have := BA.out.size; simp; omega⟩
    have hfc : Fr (fun k => k = w.heap.size) w6 wc := ⟨hrest.1, hrest.2.1, hrest.2.2.1, hrest.2.2.2, fun k hk hn => hother k hn hk⟩
    have hoc : Ob wc base 40 q s1 acc := LL.out.ob.fr hfc (fun k hk hkk => by
      have hkk' : k = w.heap.size := hkk
      rcases LL.out.mu k hk with h1 | h1
      · have := (H.out.mu_lt h1).2; omega
      · omega) (fun x hx => by
      rw [LL.out.ns] at hx
      exact ⟨fun ad e hh => by have := (H.out.l x hx).lb ad e; have hh' : ad.block = w.heap.size := hh; omega, fun ad e hh => by have := (H.out.l x hx).lp ad e; have hh' : ad.block = w.heap.size := hh; omega⟩)
    have hmu6 : ∀ k, Mu q s1 k → k < w6.heap.size := fun k hk => (LL.out.ob.mu_lt hk).2
    have hOA : OwnR wc w6.heap.size (.slice A1 m.bs.length c1) m.bs := OA.out.keepAt fun k hk hk2 => by
      have h1 := (OA.out.lt_ hk).1
      rw [hwc]
      exact ((Below.heap_setCell wb ⟨w.heap.size, 8, none⟩ _ k (by simp; omega)).trans (BB.out.block k hk2)).trans (Below.heap_setCell wa ⟨w.heap.size, 4, none⟩ _ k (by simp; omega))
    have hOB : Own wc wa.heap.size (.slice A2 m.ps.length c2) m.ps := by
      refine ⟨OB.out.1, ?_⟩
      rcases OB.out.2 with hn | ⟨g', cap', cur, hv, hbg, hg, rest⟩
      · exact .inl hn
      · exact .inr ⟨g', cap', cur, hv, hbg, (by rw [hwc]; exact Below.heap_setCell wb ⟨w.heap.size, 8, none⟩ _ g' (by simp; omega) : wc.heap[g']? = wb.heap[g']?).trans hg, rest⟩
    have hnk : NOk wc (Mu q s1) m2 := by
      obtain ⟨Ax, cx, ex, hrx, hax, _⟩ := hOA.open2
      obtain ⟨Px, dx, ey, hry, hay, _⟩ := hOB.open2
      injection ex with ex1 ex2 ex3
      injection ey with ey1 ey2 ey3
      subst ex1 ey1
      subst hm2
      have hA := hOA.lo
      have hP := hOB.lo
      have hBA := BA.out.size
      exact ⟨⟨hrx, hry, by show U64 m.bm; rw [MB.out.2.2.2.2.2.2]; exact HN.out.1.bm, RB.out.2.2, RP.out.2.2⟩, fun e => by show c1 = 0; rw [ex3]; exact hax e, fun e => by show c2 = 0; rw [ey3]; exact hay e, fun ad e hm => by have := hmu6 _ hm; have := hA ad e; omega, fun ad e hm => by have := hmu6 _ hm; have := hP ad e; omega, fun ad e => (hA ad e).2, fun ad e => (hP ad e).2⟩
    have hsm : sameN (alN n ((s.cs.length : Int) + 1)) m2 := by rw [hm2, LL.out.me]; exact ⟨A1, c1, A2, c2, rfl⟩
    have hfs : FRs w.heap.size m2 := by rw [hm2]; exact ⟨fun ad e => by have := hOA.lo ad e; omega, fun ad e => by have := hOB.lo ad e; omega⟩
    have FS := Lib.hid hfs
    rw [← hwc]
    have OC := Lib.hid hoc
    have BC := Lib.hid hbxc
    have NK2 := Lib.hid hnk
    have FC := Lib.hid hfc
    have SM := Lib.hid hsm
    have hbc : w.heap.size < wc.heap.size := by have := hrest.2.2.2; omega
    have HBC := Lib.hid hbc
    have c0 := block_cell hoc.blk (i := 0) (v := .slice s1.nA s1.ns.length s1.nc) rfl
    have c0' := fun o => (World.cell?_alloc_lt wc o ⟨q, 0, none⟩ hoc.lt).trans c0
    have HQC := Lib.hid hoc.lt
    have hns : s1.ns.length < 1000 := by rw [LL.out.ns]; exact hl
    have HNS := Lib.hid hns
    have hmut : ∀ k, Mu q s1 k → Mu q s k ∨ w.heap.size ≤ k := fun k hk => (LL.out.mu k hk).imp id (fun h => by omega)
    have MUT := Lib.hid hmut
    have hfull : Fr (Mu q s) w wc := LL.out.fr.trans hfc fun i hi => .inr (by have hi' : i = w.heap.size := hi; omega)
    have FF := Lib.hid hfull
    obtain ⟨i0, hi0, hz0, hz1, hz2⟩ := info_parts nodeInfo14
    obtain ⟨z0, hz0'⟩ : ∃ z0, i0.zero = some z0 ∧ z0.cells.size = 14 := ⟨_, hz0, rfl⟩
    have HI := Lib.hid (⟨hi0, hz0'.1, hz1, hz2, hz0'.2⟩ : _ ∧ _ ∧ _ ∧ _ ∧ _)
    have hbase : base ≤ wc.heap.size := Nat.le_trans hoc.hq (Nat.le_of_lt hoc.lt)
    have HBS := Lib.hid hbase
    clear hm2 hwc hLt hAB hBs hBW hbxc hother hrest hfc hoc hmu6 hOA hOB hnk hsm hfs hbc hns hmut hfull hi0 hz0 hz0' hz1 hz2 hbase b4 g4 b8 b8' e8 h8 a4 a4'
    have lv := run_loadNode_drew BC.out
    have lv2 := fun o => run_loadNode_alloc BC.out o
    go_region_law
      ((refine step_append_lies _ (by rfl) (.tmp 47) (.tmp 49) 36 (by rfl) base 35 i0 z0 14 152 Try.underlying36 HI.out.1 HI.out.2.1 HI.out.2.2.1 HI.out.2.2.2.1 HI.out.2.2.2.2 (by omega) (.slice s1.nA s1.ns.length s1.nc) s1.ns.length (flatN s1.ns) (by rfl) (OC.out.nod.keepFrom fun k _ hk2 => Below.heap_alloc wc _ k hk2) ⟨wc.heap.size, 0, none⟩ 1 1 (flatN [m2]) (by rfl) (flatN_length [m2]) (fun j u hj => (by
          rw [Addr.add_lit, Nat.zero_add]
          exact (cell_of_row (wc.alloc (.cells (rowOf [m2.cs]) 35)) wc.heap.size j (rowOf [m2.cs]) 35 (0, 0) (heap_alloc_new wc _)).trans (rowOf_one m2 j u hj))) (flatN_one [m2]) (by omega) (by have := HNS.out; simp only [maxLen]; omega) (by have := HNS.out; omega) (Nat.le_trans HBS.out (by simp)) (wc.heap.size + 1) (by simp) ?_
        intro g1 cap1 w1 hown hgrow hat hlt
        have N := Lib.hid (OC.out.addN (by decide) (by decide) HNS.out NK2.out (.cells (rowOf [m2.cs]) 35) hown ⟨hgrow.os, hgrow.tape, hgrow.output, hgrow.size, hgrow.block⟩ hat)
        have hb1 : w1.heap[q]? = wc.heap[q]? := (hgrow.block q (by have := HQC.out; simp; omega) (fun e => OC.out.nod_ne (by decide) e.symm rfl)).trans (Below.heap_alloc wc _ q HQC.out)
        have e1 := block_cell (hb1.trans OC.out.blk) (i := 0) (v := .slice s1.nA s1.ns.length s1.nc) rfl
        have f1 := block_frozen (hb1.trans OC.out.blk) 0
        clear hown hgrow hat hlt hb1))
    all_goals
      obtain ⟨Z, hZ⟩ : ∃ Z, Z = w1.setCell ⟨q, 0, none⟩ (.slice (some ⟨g1, 0, none⟩) (s1.ns.length + 1) cap1) := ⟨_, rfl⟩
      have NZ := N.out
      rw [← hZ] at NZ ⊢
      have HZ := Lib.hid NZ
      clear hZ NZ c0 c0' e1 f1 lv lv2
      have d0 := block_cell HZ.out.1.blk (i := 0) (v := .slice (some ⟨g1, 0, none⟩) (s1.ns.length + 1) cap1) (by simp [Sd.addN])
      go_wp2
      go_ret
      refine ⟨s1.addN g1 cap1 m2, ?_, ⟨⟨m2, by show s1.ns ++ [m2] = _; rw [LL.out.ns], SM.out, FS.out⟩, LL.out.cs, LL.out.gen⟩, HZ.out.1, FF.out.trans HZ.out.2.1 MUT.out, fun k hk => (HZ.out.2.2 k hk).elim (MUT.out k) (fun h => .inr (by have := FF.out.size; omega))⟩
      rw [← LL.out.ns]
      first | rfl | exact ret_int (by simp)
  by_cases k3 : n.kind = 3
  ·
    have t2 : (n0.kind == 2) = false := by rw [hk0]; exact beq_eq_false_iff_ne.2 (by omega)
    have t3 : (n0.kind == 3) = true := by rw [hk0]; exact beq_iff_eq.2 k3
    have t5 : (n0.kind == 5) = false := by rw [hk0]; exact beq_eq_false_iff_ne.2 (by omega)
    have t6 : (n0.kind == 6) = false := by rw [hk0]; exact beq_eq_false_iff_ne.2 (by omega)
    have t8 : (n0.kind == 8) = false := by rw [hk0]; exact beq_eq_false_iff_ne.2 (by omega)
    have K := Lib.hid k3
    clear k3 hk0 k2
    go_upto_region 11 with (go_at_call 20; refine NC.out.mono ?_; rintro e w5 ⟨g, cap, rfl, hob, hf, hm⟩; have NB := Lib.hid (⟨hob, hf, hm⟩ : _ ∧ _ ∧ _); have x2 := node_cellA (hb5.out w5 hf) (i := 9) (v := .int .i64 n0.prev) rfl; have y2 := node_frozen (hb5.out w5 hf) 9; clear hob hf hm)
    obtain ⟨w6, hw6⟩ : ∃ w6, w6 = w5.setCell ⟨w.heap.size, 9, none⟩ (.int .i64 ((s.cs.length : Int) + 1)) := ⟨_, rfl⟩
    have L := Lib.hid (show ∃ s1 m, Laid w w6 base 40 q s s1 acc n m v from ⟨_, alN n ((s.cs.length : Int) + 1), by
      rw [hw6]
      exact laid_of H.out BV.out LV.out VB.out NB.out.1 NB.out.2.1 NB.out.2.2 (by rw [N0.out]; simp [alN, Nd.cs, show n.kind = 3 from K.out]) rfl (by simp [hasO, show n.kind = 3 from K.out])⟩)
    rw [← hw6]
    clear hw6 NB K t2 t3 t5 t6 t8 x2 y2 d0
    obtain ⟨s1, m, L1⟩ := L.out
    have LL := Lib.hid L1
    have MB := Lib.hid (show m.bA = n.bA ∧ m.bc = n.bc ∧ m.bs = n.bs ∧ m.pA = n.pA ∧ m.pc = n.pc ∧ m.ps = n.ps ∧ m.bm = n.bm by rw [L1.me]; exact ⟨rfl, rfl, rfl, rfl, rfl, rfl, rfl⟩)
    have RB := Lib.hid (show RdR w6 w6.heap.size m.bA m.bs ∧ (m.bA = none → m.bc = 0) ∧ m.bs.length ≤ 1000 by obtain ⟨h1, h2, h3, h4, h5, h6, _⟩ := MB.out; rw [h1, h2, h3]; exact ⟨rdR_fr2 HN.out.1.r LL.out.fr HN.out.2.2.2.1, HN.out.2.1, HN.out.1.bl⟩)
    have RP := Lib.hid (show Rd w6 w6.heap.size m.pA m.ps ∧ (m.pA = none → m.pc = 0) ∧ m.ps.length ≤ 1000 by obtain ⟨h1, h2, h3, h4, h5, h6, _⟩ := MB.out; rw [h4, h5, h6]; exact ⟨rd_fr2 HN.out.1.p LL.out.fr HN.out.2.2.2.2, HN.out.2.2.1, HN.out.1.pl⟩)
    have a4 := node_cellA L1.box (i := 4) (v := .slice m.bA m.bs.length m.bc) rfl
    have a4' := fun o => (World.cell?_alloc_lt w6 o ⟨w.heap.size, 4, none⟩ L1.lt).trans a4
    clear L1 L
    go_wp2_with (first
      | (at_builtin
         refine wpList_append_list (w0 := wa.setCell ⟨w.heap.size, 4, none⟩ (.slice A1 m.bs.length c1)) rfl (.tmp 37) (.tmp 39) rfl wa.heap.size (.slice (some ⟨wa.heap.size, 0, none⟩) 0 0) [] rfl (own_emptyG _ (by simp)) m.pA m.ps.length m.pc wa.heap.size m.ps rfl rfl (RP2.out.alloc (by simp) _) RP.out.2.1 (by have := RP.out.2.2; simp; omega) ((Below.refl _ _).alloc (by simp) _) (by simp) ?_
         intro vb wb HOb HBb
         obtain ⟨A2, c2, hvb, _, hA2, hc2⟩ := HOb.out.open2
         simp only [List.nil_append] at hvb
         subst hvb
         have OB := Lib.hid (show Own wb wa.heap.size (.slice A2 m.ps.length c2) m.ps from by simpa using HOb.out)
         have BB := Lib.hid HBb
         have hlt3 : w.heap.size < wa.heap.size := Nat.lt_of_lt_of_le LL.out.lt BA.out.size
         have bx := (HBb.block _ hlt3).trans BX.out
         have e8 := node_cellA bx (i := 8) (v := .slice m.pA m.ps.length m.pc) (by simp [Nd.cs])
         have h8 := node_frozen bx 8
         clear HOb HBb bx hlt3 hA2 hc2)
      | (at_builtin
         refine wpList_append_refs (w0 := w6) rfl (.tmp 32) (.tmp 34) rfl w6.heap.size (.slice (some ⟨w6.heap.size, 0, none⟩) 0 0) [] rfl (ownR_empty w6) m.bA m.bs.length m.bc w6.heap.size m.bs rfl rfl (RB.out.1.alloc (Nat.le_refl _) _) RB.out.2.1 (by have := RB.out.2.2; simp; omega) ((Below.refl _ w6).alloc (Nat.le_refl _) _) (by simp) ?_
         intro va wa HOa HBa
         obtain ⟨A1, c1, hva, _, hA1, hc1⟩ := HOa.out.open2
         simp only [List.nil_append] at hva
         subst hva
         have OA := Lib.hid (show OwnR wa w6.heap.size (.slice A1 m.bs.length c1) m.bs from by simpa using HOa.out)
         have BA := Lib.hid HBa
         have bx := (HBa.block _ LL.out.lt).trans LL.out.box
         have b4 := node_cellA bx (i := 4) (v := .slice m.bA m.bs.length m.bc) rfl
         have g4 := node_frozen bx 4
         have bx2 := set_field bx 4 (.slice A1 m.bs.length c1)
         have BX := Lib.hid bx2
         have b8 := node_cellA bx2 (i := 8) (v := .slice m.pA m.ps.length m.pc) (by simp [Nd.cs])
         have hlt2 : w.heap.size < (wa.setCell ⟨w.heap.size, 4, none⟩ (.slice A1 m.bs.length c1)).heap.size := (Array.getElem?_eq_some_iff.1 bx2).1
         have b8' := fun o => (World.cell?_alloc_lt _ o ⟨w.heap.size, 8, none⟩ hlt2).trans b8
         have RP2 := Lib.hid (show Rd (wa.setCell ⟨w.heap.size, 4, none⟩ (.slice A1 m.bs.length c1)) wa.heap.size m.pA m.ps by
           exact fun hn => by
             have hap : ∀ ad, m.pA = some ad → ad.block ≠ w.heap.size := fun ad e => by
               rw [MB.out.2.2.2.1] at e
               obtain ⟨ad', e', hb', _⟩ := HN.out.1.p (by rw [← MB.out.2.2.2.2.2.1]; exact hn)
               rw [e] at e'
               injection e' with e'
               subst e'
               omega
             obtain ⟨ad, e, hb, hc⟩ := RP.out.1 hn
             refine ⟨ad, e, Nat.lt_of_lt_of_le hb HBa.size, fun j u hu => ?_⟩
             have hbk : (ad.add j).block = ad.block := block_add ad j
             rw [World.cell?_setCell_other _ _ _ _ (fun h => hap ad e (by have := congrArg Addr.block h; rw [hbk] at this; first | exact this | exact this.symm))]
             exact (HBa.cell (by rw [hbk]; exact hb)).trans (hc j u hu))
         clear HOa HBa bx bx2 hlt2 hA1 hc1))
    obtain ⟨m2, hm2⟩ : ∃ m2 : Nd, m2 = { m with bA := A1, bc := c1, pA := A2, pc := c2 } := ⟨_, rfl⟩
    obtain ⟨wc, hwc⟩ : ∃ wc, wc = wb.setCell ⟨w.heap.size, 8, none⟩ (.slice A2 m.ps.length c2) := ⟨_, rfl⟩
    have hLt := LL.out.lt
    have hAB : w.heap.size < wa.heap.size := Nat.lt_of_lt_of_le hLt BA.out.size
    have hBs : (wa.setCell ⟨w.heap.size, 4, none⟩ (.slice A1 m.bs.length c1)).heap.size = wa.heap.size := by simp
    have hBW : wa.heap.size ≤ wb.heap.size := by have := BB.out.size; rw [hBs] at this; exact this
    have hbxc : wc.heap[w.heap.size]? = some (.cells m2.cs 35 (0, 0)) := by
      rw [hwc]
      have h1 := set_field ((BB.out.block _ hAB).trans BX.out) 8 (.slice A2 m.ps.length c2)
      rw [h1, hm2]
      rfl
    have hother : ∀ k, k ≠ w.heap.size → k < w6.heap.size → wc.heap[k]? = w6.heap[k]? := fun k hk hk2 => by
      rw [hwc]
      exact (((Below.heap_setCell wb ⟨w.heap.size, 8, none⟩ _ k hk).trans (BB.out.block k (Nat.lt_of_lt_of_le hk2 BA.out.size))).trans (Below.heap_setCell wa ⟨w.heap.size, 4, none⟩ _ k hk)).trans (BA.out.block k hk2)
    have hrest : wc.os = w6.os ∧ wc.tape = w6.tape ∧ wc.output = w6.output ∧ w6.heap.size ≤ wc.heap.size := by
      rw [hwc]
      exact ⟨BB.out.os.trans BA.out.os, BB.out.tape.trans BA.out.tape, BB.out.output.trans BA.out.output, by have := BA.out.size; simp; omega⟩
    have hfc : Fr (fun k => k = w.heap.size) w6 wc := ⟨hrest.1, hrest.2.1, hrest.2.2.1, hrest.2.2.2, fun k hk hn => hother k hn hk⟩
    have hoc : Ob wc base 40 q s1 acc := LL.out.ob.fr hfc (fun k hk hkk => by
      have hkk' : k = w.heap.size := hkk
      rcases LL.out.mu k hk with h1 | h1
      · have := (H.out.mu_lt h1).2; omega
      · omega) (fun x hx => by
      rw [LL.out.ns] at hx
      exact ⟨fun ad e hh => by have := (H.out.l x hx).lb ad e; have hh' : ad.block = w.heap.size := hh; omega, fun ad e hh => by have := (H.out.l x hx).lp ad e; have hh' : ad.block = w.heap.size := hh; omega⟩)
    have hmu6 : ∀ k, Mu q s1 k → k < w6.heap.size := fun k hk => (LL.out.ob.mu_lt hk).2
    have hOA : OwnR wc w6.heap.size (.slice A1 m.bs.length c1) m.bs := OA.out.keepAt fun k hk hk2 => by
      have h1 := (OA.out.lt_ hk).1
      rw [hwc]
      exact ((Below.heap_setCell wb ⟨w.heap.size, 8, none⟩ _ k (by simp; omega)).trans (BB.out.block k hk2)).trans (Below.heap_setCell wa ⟨w.heap.size, 4, none⟩ _ k (by simp; omega))
    have hOB : Own wc wa.heap.size (.slice A2 m.ps.length c2) m.ps := by
      refine ⟨OB.out.1, ?_⟩
      rcases OB.out.2 with hn | ⟨g', cap', cur, hv, hbg, hg, rest⟩
      · exact .inl hn
      · exact .inr ⟨g', cap', cur, hv, hbg, (by rw [hwc]; exact Below.heap_setCell wb ⟨w.heap.size, 8, none⟩ _ g' (by simp; omega) : wc.heap[g']? = wb.heap[g']?).trans hg, rest⟩
    have hnk : NOk wc (Mu q s1) m2 := by
      obtain ⟨Ax, cx, ex, hrx, hax, _⟩ := hOA.open2
      obtain ⟨Px, dx, ey, hry, hay, _⟩ := hOB.open2
      injection ex with ex1 ex2 ex3
      injection ey with ey1 ey2 ey3
      subst ex1 ey1
      subst hm2
      have hA := hOA.lo
      have hP := hOB.lo
      have hBA := BA.out.size
      exact ⟨⟨hrx, hry, by show U64 m.bm; rw [MB.out.2.2.2.2.2.2]; exact HN.out.1.bm, RB.out.2.2, RP.out.2.2⟩, fun e => by show c1 = 0; rw [ex3]; exact hax e, fun e => by show c2 = 0; rw [ey3]; exact hay e, fun ad e hm => by have := hmu6 _ hm; have := hA ad e; omega, fun ad e hm => by have := hmu6 _ hm; have := hP ad e; omega, fun ad e => (hA ad e).2, fun ad e => (hP ad e).2⟩
    have hsm : sameN (alN n ((s.cs.length : Int) + 1)) m2 := by rw [hm2, LL.out.me]; exact ⟨A1, c1, A2, c2, rfl⟩
    have hfs : FRs w.heap.size m2 := by rw [hm2]; exact ⟨fun ad e => by have := hOA.lo ad e; omega, fun ad e => by have := hOB.lo ad e; omega⟩
    have FS := Lib.hid hfs
    rw [← hwc]
    have OC := Lib.hid hoc
    have BC := Lib.hid hbxc
    have NK2 := Lib.hid hnk
    have FC := Lib.hid hfc
    have SM := Lib.hid hsm
    have hbc : w.heap.size < wc.heap.size := by have := hrest.2.2.2; omega
    have HBC := Lib.hid hbc
    have c0 := block_cell hoc.blk (i := 0) (v := .slice s1.nA s1.ns.length s1.nc) rfl
    have c0' := fun o => (World.cell?_alloc_lt wc o ⟨q, 0, none⟩ hoc.lt).trans c0
    have HQC := Lib.hid hoc.lt
    have hns : s1.ns.length < 1000 := by rw [LL.out.ns]; exact hl
    have HNS := Lib.hid hns
    have hmut : ∀ k, Mu q s1 k → Mu q s k ∨ w.heap.size ≤ k := fun k hk => (LL.out.mu k hk).imp id (fun h => by omega)
    have MUT := Lib.hid hmut
    have hfull : Fr (Mu q s) w wc := LL.out.fr.trans hfc fun i hi => .inr (by have hi' : i = w.heap.size := hi; omega)
    have FF := Lib.hid hfull
    obtain ⟨i0, hi0, hz0, hz1, hz2⟩ := info_parts nodeInfo14
    obtain ⟨z0, hz0'⟩ : ∃ z0, i0.zero = some z0 ∧ z0.cells.size = 14 := ⟨_, hz0, rfl⟩
    have HI := Lib.hid (⟨hi0, hz0'.1, hz1, hz2, hz0'.2⟩ : _ ∧ _ ∧ _ ∧ _ ∧ _)
    have hbase : base ≤ wc.heap.size := Nat.le_trans hoc.hq (Nat.le_of_lt hoc.lt)
    have HBS := Lib.hid hbase
    clear hm2 hwc hLt hAB hBs hBW hbxc hother hrest hfc hoc hmu6 hOA hOB hnk hsm hfs hbc hns hmut hfull hi0 hz0 hz0' hz1 hz2 hbase b4 g4 b8 b8' e8 h8 a4 a4'
    have lv := run_loadNode_drew BC.out
    have lv2 := fun o => run_loadNode_alloc BC.out o
    go_region_law
      ((refine step_append_lies _ (by rfl) (.tmp 47) (.tmp 49) 36 (by rfl) base 35 i0 z0 14 152 Try.underlying36 HI.out.1 HI.out.2.1 HI.out.2.2.1 HI.out.2.2.2.1 HI.out.2.2.2.2 (by omega) (.slice s1.nA s1.ns.length s1.nc) s1.ns.length (flatN s1.ns) (by rfl) (OC.out.nod.keepFrom fun k _ hk2 => Below.heap_alloc wc _ k hk2) ⟨wc.heap.size, 0, none⟩ 1 1 (flatN [m2]) (by rfl) (flatN_length [m2]) (fun j u hj => (by
          rw [Addr.add_lit, Nat.zero_add]
          exact (cell_of_row (wc.alloc (.cells (rowOf [m2.cs]) 35)) wc.heap.size j (rowOf [m2.cs]) 35 (0, 0) (heap_alloc_new wc _)).trans (rowOf_one m2 j u hj))) (flatN_one [m2]) (by omega) (by have := HNS.out; simp only [maxLen]; omega) (by have := HNS.out; omega) (Nat.le_trans HBS.out (by simp)) (wc.heap.size + 1) (by simp) ?_
        intro g1 cap1 w1 hown hgrow hat hlt
        have N := Lib.hid (OC.out.addN (by decide) (by decide) HNS.out NK2.out (.cells (rowOf [m2.cs]) 35) hown ⟨hgrow.os, hgrow.tape, hgrow.output, hgrow.size, hgrow.block⟩ hat)
        have hb1 : w1.heap[q]? = wc.heap[q]? := (hgrow.block q (by have := HQC.out; simp; omega) (fun e => OC.out.nod_ne (by decide) e.symm rfl)).trans (Below.heap_alloc wc _ q HQC.out)
        have e1 := block_cell (hb1.trans OC.out.blk) (i := 0) (v := .slice s1.nA s1.ns.length s1.nc) rfl
        have f1 := block_frozen (hb1.trans OC.out.blk) 0
        clear hown hgrow hat hlt hb1))
    all_goals
      obtain ⟨Z, hZ⟩ : ∃ Z, Z = w1.setCell ⟨q, 0, none⟩ (.slice (some ⟨g1, 0, none⟩) (s1.ns.length + 1) cap1) := ⟨_, rfl⟩
      have NZ := N.out
      rw [← hZ] at NZ ⊢
      have HZ := Lib.hid NZ
      clear hZ NZ c0 c0' e1 f1 lv lv2
      have d0 := block_cell HZ.out.1.blk (i := 0) (v := .slice (some ⟨g1, 0, none⟩) (s1.ns.length + 1) cap1) (by simp [Sd.addN])
      go_wp2
      go_ret
      refine ⟨s1.addN g1 cap1 m2, ?_, ⟨⟨m2, by show s1.ns ++ [m2] = _; rw [LL.out.ns], SM.out, FS.out⟩, LL.out.cs, LL.out.gen⟩, HZ.out.1, FF.out.trans HZ.out.2.1 MUT.out, fun k hk => (HZ.out.2.2 k hk).elim (MUT.out k) (fun h => .inr (by have := FF.out.size; omega))⟩
      rw [← LL.out.ns]
      first | rfl | exact ret_int (by simp)
  by_cases k5 : n.kind = 5
  ·
    have t2 : (n0.kind == 2) = false := by rw [hk0]; exact beq_eq_false_iff_ne.2 (by omega)
    have t3 : (n0.kind == 3) = false := by rw [hk0]; exact beq_eq_false_iff_ne.2 (by omega)
    have t5 : (n0.kind == 5) = true := by rw [hk0]; exact beq_iff_eq.2 k5
    have t6 : (n0.kind == 6) = false := by rw [hk0]; exact beq_eq_false_iff_ne.2 (by omega)
    have t8 : (n0.kind == 8) = false := by rw [hk0]; exact beq_eq_false_iff_ne.2 (by omega)
    have K := Lib.hid k5
    clear k5 hk0 k2 k3
    go_upto_region 11 with (go_at_call 20; refine NC.out.mono ?_; rintro e w5 ⟨g, cap, rfl, hob, hf, hm⟩; have NB := Lib.hid (⟨hob, hf, hm⟩ : _ ∧ _ ∧ _); have x2 := node_cellA (hb5.out w5 hf) (i := 9) (v := .int .i64 n0.prev) rfl; have y2 := node_frozen (hb5.out w5 hf) 9; clear hob hf hm)
    obtain ⟨w6, hw6⟩ : ∃ w6, w6 = w5.setCell ⟨w.heap.size, 9, none⟩ (.int .i64 ((s.cs.length : Int) + 1)) := ⟨_, rfl⟩
    have L := Lib.hid (show ∃ s1 m, Laid w w6 base 40 q s s1 acc n m v from ⟨_, alN n ((s.cs.length : Int) + 1), by
      rw [hw6]
      exact laid_of H.out BV.out LV.out VB.out NB.out.1 NB.out.2.1 NB.out.2.2 (by rw [N0.out]; simp [alN, Nd.cs, show n.kind = 5 from K.out]) rfl (by simp [hasO, show n.kind = 5 from K.out])⟩)
    rw [← hw6]
    clear hw6 NB K t2 t3 t5 t6 t8 x2 y2 d0
    obtain ⟨s1, m, L1⟩ := L.out
    have LL := Lib.hid L1
    have MB := Lib.hid (show m.bA = n.bA ∧ m.bc = n.bc ∧ m.bs = n.bs ∧ m.pA = n.pA ∧ m.pc = n.pc ∧ m.ps = n.ps ∧ m.bm = n.bm by rw [L1.me]; exact ⟨rfl, rfl, rfl, rfl, rfl, rfl, rfl⟩)
    have RB := Lib.hid (show RdR w6 w6.heap.size m.bA m.bs ∧ (m.bA = none → m.bc = 0) ∧ m.bs.length ≤ 1000 by obtain ⟨h1, h2, h3, h4, h5, h6, _⟩ := MB.out; rw [h1, h2, h3]; exact ⟨rdR_fr2 HN.out.1.r LL.out.fr HN.out.2.2.2.1, HN.out.2.1, HN.out.1.bl⟩)
    have RP := Lib.hid (show Rd w6 w6.heap.size m.pA m.ps ∧ (m.pA = none → m.pc = 0) ∧ m.ps.length ≤ 1000 by obtain ⟨h1, h2, h3, h4, h5, h6, _⟩ := MB.out; rw [h4, h5, h6]; exact ⟨rd_fr2 HN.out.1.p LL.out.fr HN.out.2.2.2.2, HN.out.2.2.1, HN.out.1.pl⟩)
    have a4 := node_cellA L1.box (i := 4) (v := .slice m.bA m.bs.length m.bc) rfl
    have a4' := fun o => (World.cell?_alloc_lt w6 o ⟨w.heap.size, 4, none⟩ L1.lt).trans a4
    clear L1 L
    go_wp2_with (first
      | (at_builtin
         refine wpList_append_list (w0 := wa.setCell ⟨w.heap.size, 4, none⟩ (.slice A1 m.bs.length c1)) rfl (.tmp 37) (.tmp 39) rfl wa.heap.size (.slice (some ⟨wa.heap.size, 0, none⟩) 0 0) [] rfl (own_emptyG _ (by simp)) m.pA m.ps.length m.pc wa.heap.size m.ps rfl rfl (RP2.out.alloc (by simp) _) RP.out.2.1 (by have := RP.out.2.2; simp; omega) ((Below.refl _ _).alloc (by simp) _) (by simp) ?_
         intro vb wb HOb HBb
         obtain ⟨A2, c2, hvb, _, hA2, hc2⟩ := HOb.out.open2
         simp only [List.nil_append] at hvb
         subst hvb
         have OB := Lib.hid (show Own wb wa.heap.size (.slice A2 m.ps.length c2) m.ps from by simpa using HOb.out)
         have BB := Lib.hid HBb
         have hlt3 : w.heap.size < wa.heap.size := Nat.lt_of_lt_of_le LL.out.lt BA.out.size
         have bx := (HBb.block _ hlt3).trans BX.out
         have e8 := node_cellA bx (i := 8) (v := .slice m.pA m.ps.length m.pc) (by simp [Nd.cs])
         have h8 := node_frozen bx 8
         clear HOb HBb bx hlt3 hA2 hc2)
      | (at_builtin
         refine wpList_append_refs (w0 := w6) rfl (.tmp 32) (.tmp 34) rfl w6.heap.size (.slice (some ⟨w6.heap.size, 0, none⟩) 0 0) [] rfl (ownR_empty w6) m.bA m.bs.length m.bc w6.heap.size m.bs rfl rfl (RB.out.1.alloc (Nat.le_refl _) _) RB.out.2.1 (by have := RB.out.2.2; simp; omega) ((Below.refl _ w6).alloc (Nat.le_refl _) _) (by simp) ?_
         intro va wa HOa HBa
         obtain ⟨A1, c1, hva, _, hA1, hc1⟩ := HOa.out.open2
         simp only [List.nil_append] at hva
         subst hva
         have OA := Lib.hid (show OwnR wa w6.heap.size (.slice A1 m.bs.length c1) m.bs from by simpa using HOa.out)
         have BA := Lib.hid HBa
         have bx := (HBa.block _ LL.out.lt).trans LL.out.box
         have b4 := node_cellA bx (i := 4) (v := .slice m.bA m.bs.length m.bc) rfl
         have g4 := node_frozen bx 4
         have bx2 := set_field bx 4 (.slice A1 m.bs.length c1)
         have BX := Lib.hid bx2
         have b8 := node_cellA bx2 (i := 8) (v := .slice m.pA m.ps.length m.pc) (by simp [Nd.cs])
         have hlt2 : w.heap.size < (wa.setCell ⟨w.heap.size, 4, none⟩ (.slice A1 m.bs.length c1)).heap.size := (Array.getElem?_eq_some_iff.1 bx2).1
         have b8' := fun o => (World.cell?_alloc_lt _ o ⟨w.heap.size, 8, none⟩ hlt2).trans b8
         have RP2 := Lib.hid (show Rd (wa.setCell ⟨w.heap.size, 4, none⟩ (.slice A1 m.bs.length c1)) wa.heap.size m.pA m.ps by
           exact fun hn => by
             have hap : ∀ ad, m.pA = some ad → ad.block ≠ w.heap.size := fun ad e => by
               rw [MB.out.2.2.2.1] at e
               obtain ⟨ad', e', hb', _⟩ := HN.out.1.p (by rw [← MB.out.2.2.2.2.2.1]; exact hn)
               rw [e] at e'
               injection e' with e'
               subst e'
               omega
             obtain ⟨ad, e, hb, hc⟩ := RP.out.1 hn
             refine ⟨ad, e, Nat.lt_of_lt_of_le hb HBa.size, fun j u hu => ?_⟩
             have hbk : (ad.add j).block = ad.block := block_add ad j
             rw [World.cell?_setCell_other _ _ _ _ (fun h => hap ad e (by have := congrArg Addr.block h; rw [hbk] at this; first | exact this | exact this.symm))]
             exact (HBa.cell (by rw [hbk]; exact hb)).trans (hc j u hu))
         clear HOa HBa bx bx2 hlt2 hA1 hc1))
    obtain ⟨m2, hm2⟩ : ∃ m2 : Nd, m2 = { m with bA := A1, bc := c1, pA := A2, pc := c2 } := ⟨_, rfl⟩
    obtain ⟨wc, hwc⟩ : ∃ wc, wc = wb.setCell ⟨w.heap.size, 8, none⟩ (.slice A2 m.ps.length c2) := ⟨_, rfl⟩
    have hLt := LL.out.lt
    have hAB : w.heap.size < wa.heap.size := Nat.lt_of_lt_of_le hLt BA.out.size
    have hBs : (wa.setCell ⟨w.heap.size, 4, none⟩ (.slice A1 m.bs.length c1)).heap.size = wa.heap.size := by simp
    have hBW : wa.heap.size ≤ wb.heap.size := by have := BB.out.size; rw [hBs] at this; exact this
    have hbxc : wc.heap[w.heap.size]? = some (.cells m2.cs 35 (0, 0)) := by
      rw [hwc]
      have h1 := set_field ((BB.out.block _ hAB).trans BX.out) 8 (.slice A2 m.ps.length c2)
      rw [h1, hm2]
      rfl
    have hother : ∀ k, k ≠ w.heap.size → k < w6.heap.size → wc.heap[k]? = w6.heap[k]? := fun k hk hk2 => by
      rw [hwc]
      exact (((Below.heap_setCell wb ⟨w.heap.size, 8, none⟩ _ k hk).trans (BB.out.block k (Nat.lt_of_lt_of_le hk2 BA.out.size))).trans (Below.heap_setCell wa ⟨w.heap.size, 4, none⟩ _ k hk)).trans (BA.out.block k hk2)
    have hrest : wc.os = w6.os ∧ wc.tape = w6.tape ∧ wc.output = w6.output ∧ w6.heap.size ≤ wc.heap.size := by
      rw [hwc]
      exact ⟨BB.out.os.trans BA.out.os, BB.out.tape.trans BA.out.tape, BB.out.output.trans BA.out.output, by have := BA.out.size; simp; omega⟩
    have hfc : Fr (fun k => k = w.heap.size) w6 wc := ⟨hrest.1, hrest.2.1, hrest.2.2.1, hrest.2.2.2, fun k hk hn => hother k hn hk⟩
    have hoc : Ob wc base 40 q s1 acc := LL.out.ob.fr hfc (fun k hk hkk => by
      have hkk' : k = w.heap.size := hkk
      rcases LL.out.mu k hk with h1 | h1
      · have := (H.out.mu_lt h1).2; omega
      · omega) (fun x hx => by
      rw [LL.out.ns] at hx
      exact ⟨fun ad e hh => by have := (H.out.l x hx).lb ad e; have hh' : ad.block = w.heap.size := hh; omega, fun ad e hh => by have := (H.out.l x hx).lp ad e; have hh' : ad.block = w.heap.size := hh; omega⟩)
    have hmu6 : ∀ k, Mu q s1 k → k < w6.heap.size := fun k hk => (LL.out.ob.mu_lt hk).2
    have hOA : OwnR wc w6.heap.size (.slice A1 m.bs.length c1) m.bs := OA.out.keepAt fun k hk hk2 => by
      have h1 := (OA.out.lt_ hk).1
      rw [hwc]
      exact ((Below.heap_setCell wb ⟨w.heap.size, 8, none⟩ _ k (by simp; omega)).trans (BB.out.block k hk2)).trans (Below.heap_setCell wa ⟨w.heap.size, 4, none⟩ _ k (by simp; omega))
    have hOB : Own wc wa.heap.size (.slice A2 m.ps.length c2) m.ps := by
      refine ⟨OB.out.1, ?_⟩
      rcases OB.out.2 with hn | ⟨g', cap', cur, hv, hbg, hg, rest⟩
      · exact .inl hn
      · exact .inr ⟨g', cap', cur, hv, hbg, (by rw [hwc]; exact Below.heap_setCell wb ⟨w.heap.size, 8, none⟩ _ g' (by simp; omega) : wc.heap[g']? = wb.heap[g']?).trans hg, rest⟩
    have hnk : NOk wc (Mu q s1) m2 := by
      obtain ⟨Ax, cx, ex, hrx, hax, _⟩ := hOA.open2
      obtain ⟨Px, dx, ey, hry, hay, _⟩ := hOB.open2
      injection ex with ex1 ex2 ex3
      injection ey with ey1 ey2 ey3
      subst ex1 ey1
      subst hm2
      have hA := hOA.lo
      have hP := hOB.lo
      have hBA := BA.out.size
      exact ⟨⟨hrx, hry, by show U64 m.bm; rw [MB.out.2.2.2.2.2.2]; exact HN.out.1.bm, RB.out.2.2, RP.out.2.2⟩, fun e => by show c1 = 0; rw [ex3]; exact hax e, fun e => by show c2 = 0; rw [ey3]; exact hay e, fun ad e hm => by have := hmu6 _ hm; have := hA ad e; omega, fun ad e hm => by have := hmu6 _ hm; have := hP ad e; omega, fun ad e => (hA ad e).2, fun ad e => (hP ad e).2⟩
    have hsm : sameN (alN n ((s.cs.length : Int) + 1)) m2 := by rw [hm2, LL.out.me]; exact ⟨A1, c1, A2, c2, rfl⟩
    have hfs : FRs w.heap.size m2 := by rw [hm2]; exact ⟨fun ad e => by have := hOA.lo ad e; omega, fun ad e => by have := hOB.lo ad e; omega⟩
    have FS := Lib.hid hfs
    rw [← hwc]
    have OC := Lib.hid hoc
    have BC := Lib.hid hbxc
    have NK2 := Lib.hid hnk
    have FC := Lib.hid hfc
    have SM := Lib.hid hsm
    have hbc : w.heap.size < wc.heap.size := by have := hrest.2.2.2; omega
    have HBC := Lib.hid hbc
    have c0 := block_cell hoc.blk (i := 0) (v := .slice s1.nA s1.ns.length s1.nc) rfl
    have c0' := fun o => (World.cell?_alloc_lt wc o ⟨q, 0, none⟩ hoc.lt).trans c0
    have HQC := Lib.hid hoc.lt
    have hns : s1.ns.length < 1000 := by rw [LL.out.ns]; exact hl
    have HNS := Lib.hid hns
    have hmut : ∀ k, Mu q s1 k → Mu q s k ∨ w.heap.size ≤ k := fun k hk => (LL.out.mu k hk).imp id (fun h => by omega)
    have MUT := Lib.hid hmut
    have hfull : Fr (Mu q s) w wc := LL.out.fr.trans hfc fun i hi => .inr (by have hi' : i = w.heap.size := hi; omega)
    have FF := Lib.hid hfull
    obtain ⟨i0, hi0, hz0, hz1, hz2⟩ := info_parts nodeInfo14
    obtain ⟨z0, hz0'⟩ : ∃ z0, i0.zero = some z0 ∧ z0.cells.size = 14 := ⟨_, hz0, rfl⟩
    have HI := Lib.hid (⟨hi0, hz0'.1, hz1, hz2, hz0'.2⟩ : _ ∧ _ ∧ _ ∧ _ ∧ _)
    have hbase : base ≤ wc.heap.size := Nat.le_trans hoc.hq (Nat.le_of_lt hoc.lt)
    have HBS := Lib.hid hbase
    clear hm2 hwc hLt hAB hBs hBW hbxc hother hrest hfc hoc hmu6 hOA hOB hnk hsm hfs hbc hns hmut hfull hi0 hz0 hz0' hz1 hz2 hbase b4 g4 b8 b8' e8 h8 a4 a4'
    have lv := run_loadNode_drew BC.out
    have lv2 := fun o => run_loadNode_alloc BC.out o
    go_region_law
      ((refine step_append_lies _ (by rfl) (.tmp 47) (.tmp 49) 36 (by rfl) base 35 i0 z0 14 152 Try.underlying36 HI.out.1 HI.out.2.1 HI.out.2.2.1 HI.out.2.2.2.1 HI.out.2.2.2.2 (by omega) (.slice s1.nA s1.ns.length s1.nc) s1.ns.length (flatN s1.ns) (by rfl) (OC.out.nod.keepFrom fun k _ hk2 => Below.heap_alloc wc _ k hk2) ⟨wc.heap.size, 0, none⟩ 1 1 (flatN [m2]) (by rfl) (flatN_length [m2]) (fun j u hj => (by
          rw [Addr.add_lit, Nat.zero_add]
          exact (cell_of_row (wc.alloc (.cells (rowOf [m2.cs]) 35)) wc.heap.size j (rowOf [m2.cs]) 35 (0, 0) (heap_alloc_new wc _)).trans (rowOf_one m2 j u hj))) (flatN_one [m2]) (by omega) (by have := HNS.out; simp only [maxLen]; omega) (by have := HNS.out; omega) (Nat.le_trans HBS.out (by simp)) (wc.heap.size + 1) (by simp) ?_
        intro g1 cap1 w1 hown hgrow hat hlt
        have N := Lib.hid (OC.out.addN (by decide) (by decide) HNS.out NK2.out (.cells (rowOf [m2.cs]) 35) hown ⟨hgrow.os, hgrow.tape, hgrow.output, hgrow.size, hgrow.block⟩ hat)
        have hb1 : w1.heap[q]? = wc.heap[q]? := (hgrow.block q (by have := HQC.out; simp; omega) (fun e => OC.out.nod_ne (by decide) e.symm rfl)).trans (Below.heap_alloc wc _ q HQC.out)
        have e1 := block_cell (hb1.trans OC.out.blk) (i := 0) (v := .slice s1.nA s1.ns.length s1.nc) rfl
        have f1 := block_frozen (hb1.trans OC.out.blk) 0
        clear hown hgrow hat hlt hb1))
    all_goals
      obtain ⟨Z, hZ⟩ : ∃ Z, Z = w1.setCell ⟨q, 0, none⟩ (.slice (some ⟨g1, 0, none⟩) (s1.ns.length + 1) cap1) := ⟨_, rfl⟩
      have NZ := N.out
      rw [← hZ] at NZ ⊢
      have HZ := Lib.hid NZ
      clear hZ NZ c0 c0' e1 f1 lv lv2
      have d0 := block_cell HZ.out.1.blk (i := 0) (v := .slice (some ⟨g1, 0, none⟩) (s1.ns.length + 1) cap1) (by simp [Sd.addN])
      go_wp2
      go_ret
      refine ⟨s1.addN g1 cap1 m2, ?_, ⟨⟨m2, by show s1.ns ++ [m2] = _; rw [LL.out.ns], SM.out, FS.out⟩, LL.out.cs, LL.out.gen⟩, HZ.out.1, FF.out.trans HZ.out.2.1 MUT.out, fun k hk => (HZ.out.2.2 k hk).elim (MUT.out k) (fun h => .inr (by have := FF.out.size; omega))⟩
      rw [← LL.out.ns]
      first | rfl | exact ret_int (by simp)
  by_cases k6 : n.kind = 6
  ·
    have t2 : (n0.kind == 2) = false := by rw [hk0]; exact beq_eq_false_iff_ne.2 (by omega)
    have t3 : (n0.kind == 3) = false := by rw [hk0]; exact beq_eq_false_iff_ne.2 (by omega)
    have t5 : (n0.kind == 5) = false := by rw [hk0]; exact beq_eq_false_iff_ne.2 (by omega)
    have t6 : (n0.kind == 6) = true := by rw [hk0]; exact beq_iff_eq.2 k6
    have t8 : (n0.kind == 8) = false := by rw [hk0]; exact beq_eq_false_iff_ne.2 (by omega)
    have K := Lib.hid k6
    clear k6 hk0 k2 k3 k5
    go_upto_region 11 with (go_at_call 20; refine NC.out.mono ?_; rintro e w5 ⟨g, cap, rfl, hob, hf, hm⟩; have NB := Lib.hid (⟨hob, hf, hm⟩ : _ ∧ _ ∧ _); have x2 := node_cellA (hb5.out w5 hf) (i := 9) (v := .int .i64 n0.prev) rfl; have y2 := node_frozen (hb5.out w5 hf) 9; clear hob hf hm)
    obtain ⟨w6, hw6⟩ : ∃ w6, w6 = w5.setCell ⟨w.heap.size, 9, none⟩ (.int .i64 ((s.cs.length : Int) + 1)) := ⟨_, rfl⟩
    have L := Lib.hid (show ∃ s1 m, Laid w w6 base 40 q s s1 acc n m v from ⟨_, alN n ((s.cs.length : Int) + 1), by
      rw [hw6]
      exact laid_of H.out BV.out LV.out VB.out NB.out.1 NB.out.2.1 NB.out.2.2 (by rw [N0.out]; simp [alN, Nd.cs, show n.kind = 6 from K.out]) rfl (by simp [hasO, show n.kind = 6 from K.out])⟩)
    rw [← hw6]
    clear hw6 NB K t2 t3 t5 t6 t8 x2 y2 d0
    obtain ⟨s1, m, L1⟩ := L.out
    have LL := Lib.hid L1
    have MB := Lib.hid (show m.bA = n.bA ∧ m.bc = n.bc ∧ m.bs = n.bs ∧ m.pA = n.pA ∧ m.pc = n.pc ∧ m.ps = n.ps ∧ m.bm = n.bm by rw [L1.me]; exact ⟨rfl, rfl, rfl, rfl, rfl, rfl, rfl⟩)
    have RB := Lib.hid (show RdR w6 w6.heap.size m.bA m.bs ∧ (m.bA = none → m.bc = 0) ∧ m.bs.length ≤ 1000 by obtain ⟨h1, h2, h3, h4, h5, h6, _⟩ := MB.out; rw [h1, h2, h3]; exact ⟨rdR_fr2 HN.out.1.r LL.out.fr HN.out.2.2.2.1, HN.out.2.1, HN.out.1.bl⟩)
    have RP := Lib.hid (show Rd w6 w6.heap.size m.pA m.ps ∧ (m.pA = none → m.pc = 0) ∧ m.ps.length ≤ 1000 by obtain ⟨h1, h2, h3, h4, h5, h6, _⟩ := MB.out; rw [h4, h5, h6]; exact ⟨rd_fr2 HN.out.1.p LL.out.fr HN.out.2.2.2.2, HN.out.2.2.1, HN.out.1.pl⟩)
    have a4 := node_cellA L1.box (i := 4) (v := .slice m.bA m.bs.length m.bc) rfl
    have a4' := fun o => (World.cell?_alloc_lt w6 o ⟨w.heap.size, 4, none⟩ L1.lt).trans a4
    clear L1 L
    go_wp2_with (first
      | (at_builtin
         refine wpList_append_list (w0 := wa.setCell ⟨w.heap.size, 4, none⟩ (.slice A1 m.bs.length c1)) rfl (.tmp 37) (.tmp 39) rfl wa.heap.size (.slice (some ⟨wa.heap.size, 0, none⟩) 0 0) [] rfl (own_emptyG _ (by simp)) m.pA m.ps.length m.pc wa.heap.size m.ps rfl rfl (RP2.out.alloc (by simp) _) RP.out.2.1 (by have := RP.out.2.2; simp; omega) ((Below.refl _ _).alloc (by simp) _) (by simp) ?_
         intro vb wb HOb HBb
         obtain ⟨A2, c2, hvb, _, hA2, hc2⟩ := HOb.out.open2
         simp only [List.nil_append] at hvb
         subst hvb
         have OB := Lib.hid (show Own wb wa.heap.size (.slice A2 m.ps.length c2) m.ps from by simpa using HOb.out)
         have BB := Lib.hid HBb
         have hlt3 : w.heap.size < wa.heap.size := Nat.lt_of_lt_of_le LL.out.lt BA.out.size
         have bx := (HBb.block _ hlt3).trans BX.out
         have e8 := node_cellA bx (i := 8) (v := .slice m.pA m.ps.length m.pc) (by simp [Nd.cs])
         have h8 := node_frozen bx 8
         clear HOb HBb bx hlt3 hA2 hc2)
      | (at_builtin
         refine wpList_append_refs (w0 := w6) rfl (.tmp 32) (.tmp 34) rfl w6.heap.size (.slice (some ⟨w6.heap.size, 0, none⟩) 0 0) [] rfl (ownR_empty w6) m.bA m.bs.length m.bc w6.heap.size m.bs rfl rfl (RB.out.1.alloc (Nat.le_refl _) _) RB.out.2.1 (by have := RB.out.2.2; simp; omega) ((Below.refl _ w6).alloc (Nat.le_refl _) _) (by simp) ?_
         intro va wa HOa HBa
         obtain ⟨A1, c1, hva, _, hA1, hc1⟩ := HOa.out.open2
         simp only [List.nil_append] at hva
         subst hva
         have OA := Lib.hid (show OwnR wa w6.heap.size (.slice A1 m.bs.length c1) m.bs from by simpa using HOa.out)
         have BA := Lib.hid HBa
         have bx := (HBa.block _ LL.out.lt).trans LL.out.box
         have b4 := node_cellA bx (i := 4) (v := .slice m.bA m.bs.length m.bc) rfl
         have g4 := node_frozen bx 4
         have bx2 := set_field bx 4 (.slice A1 m.bs.length c1)
         have BX := Lib.hid bx2
         have b8 := node_cellA bx2 (i := 8) (v := .slice m.pA m.ps.length m.pc) (by simp [Nd.cs])
         have hlt2 : w.heap.size < (wa.setCell ⟨w.heap.size, 4, none⟩ (.slice A1 m.bs.length c1)).heap.size := (Array.getElem?_eq_some_iff.1 bx2).1
         have b8' := fun o => (World.cell?_alloc_lt _ o ⟨w.heap.size, 8, none⟩ hlt2).trans b8
         have RP2 := Lib.hid (show Rd (wa.setCell ⟨w.heap.size, 4, none⟩ (.slice A1 m.bs.length c1)) wa.heap.size m.pA m.ps by
           exact fun hn => by
             have hap : ∀ ad, m.pA = some ad → ad.block ≠ w.heap.size := fun ad e => by
               rw [MB.out.2.2.2.1] at e
               obtain ⟨ad', e', hb', _⟩ := HN.out.1.p (by rw [← MB.out.2.2.2.2.2.1]; exact hn)
               rw [e] at e'
               injection e' with e'
               subst e'
               omega
             obtain ⟨ad, e, hb, hc⟩ := RP.out.1 hn
             refine ⟨ad, e, Nat.lt_of_lt_of_le hb HBa.size, fun j u hu => ?_⟩
             have hbk : (ad.add j).block = ad.block := block_add ad j
             rw [World.cell?_setCell_other _ _ _ _ (fun h => hap ad e (by have := congrArg Addr.block h; rw [hbk] at this; first | exact this | exact this.symm))]
             exact (HBa.cell (by rw [hbk]; exact hb)).trans (hc j u hu))
         clear HOa HBa bx bx2 hlt2 hA1 hc1))
    obtain ⟨m2, hm2⟩ : ∃ m2 : Nd, m2 = { m with bA := A1, bc := c1, pA := A2, pc := c2 } := ⟨_, rfl⟩
    obtain ⟨wc, hwc⟩ : ∃ wc, wc = wb.setCell ⟨w.heap.size, 8, none⟩ (.slice A2 m.ps.length c2) := ⟨_, rfl⟩
    have hLt := LL.out.lt
    have hAB : w.heap.size < wa.heap.size := Nat.lt_of_lt_of_le hLt BA.out.size
    have hBs : (wa.setCell ⟨w.heap.size, 4, none⟩ (.slice A1 m.bs.length c1)).heap.size = wa.heap.size := by simp
    have hBW : wa.heap.size ≤ wb.heap.size := by have := BB.out.size; rw [hBs] at this; exact this
    have hbxc : wc.heap[w.heap.size]? = some (.cells m2.cs 35 (0, 0)) := by
      rw [hwc]
      have h1 := set_field ((BB.out.block _ hAB).trans BX.out) 8 (.slice A2 m.ps.length c2)
      rw [h1, hm2]
      rfl
    have hother : ∀ k, k ≠ w.heap.size → k < w6.heap.size → wc.heap[k]? = w6.heap[k]? := fun k hk hk2 => by
      rw [hwc]
      exact (((Below.heap_setCell wb ⟨w.heap.size, 8, none⟩ _ k hk).trans (BB.out.block k (Nat.lt_of_lt_of_le hk2 BA.out.size))).trans (Below.heap_setCell wa ⟨w.heap.size, 4, none⟩ _ k hk)).trans (BA.out.block k hk2)
    have hrest : wc.os = w6.os ∧ wc.tape = w6.tape ∧ wc.output = w6.output ∧ w6.heap.size ≤ wc.heap.size := by
      rw [hwc]
      exact ⟨BB.out.os.trans BA.out.os, BB.out.tape.trans BA.out.tape, BB.out.output.trans BA.out.output, by have := BA.out.size; simp; omega⟩
    have hfc : Fr (fun k => k = w.heap.size) w6 wc := ⟨hrest.1, hrest.2.1, hrest.2.2.1, hrest.2.2.2, fun k hk hn => hother k hn hk⟩
    have hoc : Ob wc base 40 q s1 acc := LL.out.ob.fr hfc (fun k hk hkk => by
      have hkk' : k = w.heap.size := hkk
      rcases LL.out.mu k hk with h1 | h1
      · have := (H.out.mu_lt h1).2; omega
      · omega) (fun x hx => by
      rw [LL.out.ns] at hx
      exact ⟨fun ad e hh => by have := (H.out.l x hx).lb ad e; have hh' : ad.block = w.heap.size := hh; omega, fun ad e hh => by have := (H.out.l x hx).lp ad e; have hh' : ad.block = w.heap.size := hh; omega⟩)
    have hmu6 : ∀ k, Mu q s1 k → k < w6.heap.size := fun k hk => (LL.out.ob.mu_lt hk).2
    have hOA : OwnR wc w6.heap.size (.slice A1 m.bs.length c1) m.bs := OA.out.keepAt fun k hk hk2 => by
      have h1 := (OA.out.lt_ hk).1
      rw [hwc]
      exact ((Below.heap_setCell wb ⟨w.heap.size, 8, none⟩ _ k (by simp; omega)).trans (BB.out.block k hk2)).trans (Below.heap_setCell wa ⟨w.heap.size, 4, none⟩ _ k (by simp; omega))
    have hOB : Own wc wa.heap.size (.slice A2 m.ps.length c2) m.ps := by
      refine ⟨OB.out.1, ?_⟩
      rcases OB.out.2 with hn | ⟨g', cap', cur, hv, hbg, hg, rest⟩
      · exact .inl hn
      · exact .inr ⟨g', cap', cur, hv, hbg, (by rw [hwc]; exact Below.heap_setCell wb ⟨w.heap.size, 8, none⟩ _ g' (by simp; omega) : wc.heap[g']? = wb.heap[g']?).trans hg, rest⟩
    have hnk : NOk wc (Mu q s1) m2 := by
      obtain ⟨Ax, cx, ex, hrx, hax, _⟩ := hOA.open2
      obtain ⟨Px, dx, ey, hry, hay, _⟩ := hOB.open2
      injection ex with ex1 ex2 ex3
      injection ey with ey1 ey2 ey3
      subst ex1 ey1
      subst hm2
      have hA := hOA.lo
      have hP := hOB.lo
      have hBA := BA.out.size
      exact ⟨⟨hrx, hry, by show U64 m.bm; rw [MB.out.2.2.2.2.2.2]; exact HN.out.1.bm, RB.out.2.2, RP.out.2.2⟩, fun e => by show c1 = 0; rw [ex3]; exact hax e, fun e => by show c2 = 0; rw [ey3]; exact hay e, fun ad e hm => by have := hmu6 _ hm; have := hA ad e; omega, fun ad e hm => by have := hmu6 _ hm; have := hP ad e; omega, fun ad e => (hA ad e).2, fun ad e => (hP ad e).2⟩
    have hsm : sameN (alN n ((s.cs.length : Int) + 1)) m2 := by rw [hm2, LL.out.me]; exact ⟨A1, c1, A2, c2, rfl⟩
    have hfs : FRs w.heap.size m2 := by rw [hm2]; exact ⟨fun ad e => by have := hOA.lo ad e; omega, fun ad e => by have := hOB.lo ad e; omega⟩
    have FS := Lib.hid hfs
    rw [← hwc]
    have OC := Lib.hid hoc
    have BC := Lib.hid hbxc
    have NK2 := Lib.hid hnk
    have FC := Lib.hid hfc
    have SM := Lib.hid hsm
    have hbc : w.heap.size < wc.heap.size := by have := hrest.2.2.2; omega
    have HBC := Lib.hid hbc
    have c0 := block_cell hoc.blk (i := 0) (v := .slice s1.nA s1.ns.length s1.nc) rfl
    have c0' := fun o => (World.cell?_alloc_lt wc o ⟨q, 0, none⟩ hoc.lt).trans c0
    have HQC := Lib.hid hoc.lt
    have hns : s1.ns.length < 1000 := by rw [LL.out.ns]; exact hl
    have HNS := Lib.hid hns
    have hmut : ∀ k, Mu q s1 k → Mu q s k ∨ w.heap.size ≤ k := fun k hk => (LL.out.mu k hk).imp id (fun h => by omega)
    have MUT := Lib.hid hmut
    have hfull : Fr (Mu q s) w wc := LL.out.fr.trans hfc fun i hi => .inr (by have hi' : i = w.heap.size := hi; omega)
    have FF := Lib.hid hfull
    obtain ⟨i0, hi0, hz0, hz1, hz2⟩ := info_parts nodeInfo14
    obtain ⟨z0, hz0'⟩ : ∃ z0, i0.zero = some z0 ∧ z0.cells.size = 14 := ⟨_, hz0, rfl⟩
    have HI := Lib.hid (⟨hi0, hz0'.1, hz1, hz2, hz0'.2⟩ : _ ∧ _ ∧ _ ∧ _ ∧ _)
    have hbase : base ≤ wc.heap.size := Nat.le_trans hoc.hq (Nat.le_of_lt hoc.lt)
    have HBS := Lib.hid hbase
    clear hm2 hwc hLt hAB hBs hBW hbxc hother hrest hfc hoc hmu6 hOA hOB hnk hsm hfs hbc hns hmut hfull hi0 hz0 hz0' hz1 hz2 hbase b4 g4 b8 b8' e8 h8 a4 a4'
    have lv := run_loadNode_drew BC.out
    have lv2 := fun o => run_loadNode_alloc BC.out o
    go_region_law
      ((refine step_append_lies _ (by rfl) (.tmp 47) (.tmp 49) 36 (by rfl) base 35 i0 z0 14 152 Try.underlying36 HI.out.1 HI.out.2.1 HI.out.2.2.1 HI.out.2.2.2.1 HI.out.2.2.2.2 (by omega) (.slice s1.nA s1.ns.length s1.nc) s1.ns.length (flatN s1.ns) (by rfl) (OC.out.nod.keepFrom fun k _ hk2 => Below.heap_alloc wc _ k hk2) ⟨wc.heap.size, 0, none⟩ 1 1 (flatN [m2]) (by rfl) (flatN_length [m2]) (fun j u hj => (by
          rw [Addr.add_lit, Nat.zero_add]
          exact (cell_of_row (wc.alloc (.cells (rowOf [m2.cs]) 35)) wc.heap.size j (rowOf [m2.cs]) 35 (0, 0) (heap_alloc_new wc _)).trans (rowOf_one m2 j u hj))) (flatN_one [m2]) (by omega) (by have := HNS.out; simp only [maxLen]; omega) (by have := HNS.out; omega) (Nat.le_trans HBS.out (by simp)) (wc.heap.size + 1) (by simp) ?_
        intro g1 cap1 w1 hown hgrow hat hlt
        have N := Lib.hid (OC.out.addN (by decide) (by decide) HNS.out NK2.out (.cells (rowOf [m2.cs]) 35) hown ⟨hgrow.os, hgrow.tape, hgrow.output, hgrow.size, hgrow.block⟩ hat)
        have hb1 : w1.heap[q]? = wc.heap[q]? := (hgrow.block q (by have := HQC.out; simp; omega) (fun e => OC.out.nod_ne (by decide) e.symm rfl)).trans (Below.heap_alloc wc _ q HQC.out)
        have e1 := block_cell (hb1.trans OC.out.blk) (i := 0) (v := .slice s1.nA s1.ns.length s1.nc) rfl
        have f1 := block_frozen (hb1.trans OC.out.blk) 0
        clear hown hgrow hat hlt hb1))
    all_goals
      obtain ⟨Z, hZ⟩ : ∃ Z, Z = w1.setCell ⟨q, 0, none⟩ (.slice (some ⟨g1, 0, none⟩) (s1.ns.length + 1) cap1) := ⟨_, rfl⟩
      have NZ := N.out
      rw [← hZ] at NZ ⊢
      have HZ := Lib.hid NZ
      clear hZ NZ c0 c0' e1 f1 lv lv2
      have d0 := block_cell HZ.out.1.blk (i := 0) (v := .slice (some ⟨g1, 0, none⟩) (s1.ns.length + 1) cap1) (by simp [Sd.addN])
      go_wp2
      go_ret
      refine ⟨s1.addN g1 cap1 m2, ?_, ⟨⟨m2, by show s1.ns ++ [m2] = _; rw [LL.out.ns], SM.out, FS.out⟩, LL.out.cs, LL.out.gen⟩, HZ.out.1, FF.out.trans HZ.out.2.1 MUT.out, fun k hk => (HZ.out.2.2 k hk).elim (MUT.out k) (fun h => .inr (by have := FF.out.size; omega))⟩
      rw [← LL.out.ns]
      first | rfl | exact ret_int (by simp)
  by_cases k8 : n.kind = 8
  ·
    have t2 : (n0.kind == 2) = false := by rw [hk0]; exact beq_eq_false_iff_ne.2 (by omega)
    have t3 : (n0.kind == 3) = false := by rw [hk0]; exact beq_eq_false_iff_ne.2 (by omega)
    have t5 : (n0.kind == 5) = false := by rw [hk0]; exact beq_eq_false_iff_ne.2 (by omega)
    have t6 : (n0.kind == 6) = false := by rw [hk0]; exact beq_eq_false_iff_ne.2 (by omega)
    have t8 : (n0.kind == 8) = true := by rw [hk0]; exact beq_iff_eq.2 k8
    have K := Lib.hid k8
    clear k8 hk0 k2 k3 k5 k6
    go_upto_region 11 with (go_at_call 20; refine NC.out.mono ?_; rintro e w5 ⟨g, cap, rfl, hob, hf, hm⟩; have NB := Lib.hid (⟨hob, hf, hm⟩ : _ ∧ _ ∧ _); have x2 := node_cellA (hb5.out w5 hf) (i := 13) (v := .int .i64 n0.status) rfl; have y2 := node_frozen (hb5.out w5 hf) 13; clear hob hf hm)
    obtain ⟨w6, hw6⟩ : ∃ w6, w6 = w5.setCell ⟨w.heap.size, 13, none⟩ (.int .i64 ((s.cs.length : Int) + 1)) := ⟨_, rfl⟩
    have L := Lib.hid (show ∃ s1 m, Laid w w6 base 40 q s s1 acc n m v from ⟨_, alN n ((s.cs.length : Int) + 1), by
      rw [hw6]
      exact laid_of H.out BV.out LV.out VB.out NB.out.1 NB.out.2.1 NB.out.2.2 (by rw [N0.out]; simp [alN, Nd.cs, show n.kind = 8 from K.out]) rfl (by simp [hasO, show n.kind = 8 from K.out])⟩)
    rw [← hw6]
    clear hw6 NB K t2 t3 t5 t6 t8 x2 y2 d0
    obtain ⟨s1, m, L1⟩ := L.out
    have LL := Lib.hid L1
    have MB := Lib.hid (show m.bA = n.bA ∧ m.bc = n.bc ∧ m.bs = n.bs ∧ m.pA = n.pA ∧ m.pc = n.pc ∧ m.ps = n.ps ∧ m.bm = n.bm by rw [L1.me]; exact ⟨rfl, rfl, rfl, rfl, rfl, rfl, rfl⟩)
    have RB := Lib.hid (show RdR w6 w6.heap.size m.bA m.bs ∧ (m.bA = none → m.bc = 0) ∧ m.bs.length ≤ 1000 by obtain ⟨h1, h2, h3, h4, h5, h6, _⟩ := MB.out; rw [h1, h2, h3]; exact ⟨rdR_fr2 HN.out.1.r LL.out.fr HN.out.2.2.2.1, HN.out.2.1, HN.out.1.bl⟩)
    have RP := Lib.hid (show Rd w6 w6.heap.size m.pA m.ps ∧ (m.pA = none → m.pc = 0) ∧ m.ps.length ≤ 1000 by obtain ⟨h1, h2, h3, h4, h5, h6, _⟩ := MB.out; rw [h4, h5, h6]; exact ⟨rd_fr2 HN.out.1.p LL.out.fr HN.out.2.2.2.2, HN.out.2.2.1, HN.out.1.pl⟩)
    have a4 := node_cellA L1.box (i := 4) (v := .slice m.bA m.bs.length m.bc) rfl
    have a4' := fun o => (World.cell?_alloc_lt w6 o ⟨w.heap.size, 4, none⟩ L1.lt).trans a4
    clear L1 L
    go_wp2_with (first
      | (at_builtin
         refine wpList_append_list (w0 := wa.setCell ⟨w.heap.size, 4, none⟩ (.slice A1 m.bs.length c1)) rfl (.tmp 37) (.tmp 39) rfl wa.heap.size (.slice (some ⟨wa.heap.size, 0, none⟩) 0 0) [] rfl (own_emptyG _ (by simp)) m.pA m.ps.length m.pc wa.heap.size m.ps rfl rfl (RP2.out.alloc (by simp) _) RP.out.2.1 (by have := RP.out.2.2; simp; omega) ((Below.refl _ _).alloc (by simp) _) (by simp) ?_
         intro vb wb HOb HBb
         obtain ⟨A2, c2, hvb, _, hA2, hc2⟩ := HOb.out.open2
         simp only [List.nil_append] at hvb
         subst hvb
         have OB := Lib.hid (show Own wb wa.heap.size (.slice A2 m.ps.length c2) m.ps from by simpa using HOb.out)
         have BB := Lib.hid HBb
         have hlt3 : w.heap.size < wa.heap.size := Nat.lt_of_lt_of_le LL.out.lt BA.out.size
         have bx := (HBb.block _ hlt3).trans BX.out
         have e8 := node_cellA bx (i := 8) (v := .slice m.pA m.ps.length m.pc) (by simp [Nd.cs])
         have h8 := node_frozen bx 8
         clear HOb HBb bx hlt3 hA2 hc2)
      | (at_builtin
         refine wpList_append_refs (w0 := w6) rfl (.tmp 32) (.tmp 34) rfl w6.heap.size (.slice (some ⟨w6.heap.size, 0, none⟩) 0 0) [] rfl (ownR_empty w6) m.bA m.bs.length m.bc w6.heap.size m.bs rfl rfl (RB.out.1.alloc (Nat.le_refl _) _) RB.out.2.1 (by have := RB.out.2.2; simp; omega) ((Below.refl _ w6).alloc (Nat.le_refl _) _) (by simp) ?_
         intro va wa HOa HBa
         obtain ⟨A1, c1, hva, _, hA1, hc1⟩ := HOa.out.open2
         simp only [List.nil_append] at hva
         subst hva
         have OA := Lib.hid (show OwnR wa w6.heap.size (.slice A1 m.bs.length c1) m.bs from by simpa using HOa.out)
         have BA := Lib.hid HBa
         have bx := (HBa.block _ LL.out.lt).trans LL.out.box
         have b4 := node_cellA bx (i := 4) (v := .slice m.bA m.bs.length m.bc) rfl
         have g4 := node_frozen bx 4
         have bx2 := set_field bx 4 (.slice A1 m.bs.length c1)
         have BX := Lib.hid bx2
         have b8 := node_cellA bx2 (i := 8) (v := .slice m.pA m.ps.length m.pc) (by simp [Nd.cs])
         have hlt2 : w.heap.size < (wa.setCell ⟨w.heap.size, 4, none⟩ (.slice A1 m.bs.length c1)).heap.size := (Array.getElem?_eq_some_iff.1 bx2).1
         have b8' := fun o => (World.cell?_alloc_lt _ o ⟨w.heap.size, 8, none⟩ hlt2).trans b8
         have RP2 := Lib.hid (show Rd (wa.setCell ⟨w.heap.size, 4, none⟩ (.slice A1 m.bs.length c1)) wa.heap.size m.pA m.ps by
           exact fun hn => by
             have hap : ∀ ad, m.pA = some ad → ad.block ≠ w.heap.size := fun ad e => by
               rw [MB.out.2.2.2.1] at e
               obtain ⟨ad', e', hb', _⟩ := HN.out.1.p (by rw [← MB.out.2.2.2.2.2.1]; exact hn)
               rw [e] at e'
               injection e' with e'
               subst e'
               omega
             obtain ⟨ad, e, hb, hc⟩ := RP.out.1 hn
             refine ⟨ad, e, Nat.lt_of_lt_of_le hb HBa.size, fun j u hu => ?_⟩
             have hbk : (ad.add j).block = ad.block := block_add ad j
             rw [World.cell?_setCell_other _ _ _ _ (fun h => hap ad e (by have := congrArg Addr.block h; rw [hbk] at this; first | exact this | exact this.symm))]
             exact (HBa.cell (by rw [hbk]; exact hb)).trans (hc j u hu))
         clear HOa HBa bx bx2 hlt2 hA1 hc1))
    obtain ⟨m2, hm2⟩ : ∃ m2 : Nd, m2 = { m with bA := A1, bc := c1, pA := A2, pc := c2 } := ⟨_, rfl⟩
    obtain ⟨wc, hwc⟩ : ∃ wc, wc = wb.setCell ⟨w.heap.size, 8, none⟩ (.slice A2 m.ps.length c2) := ⟨_, rfl⟩
    have hLt := LL.out.lt
    have hAB : w.heap.size < wa.heap.size := Nat.lt_of_lt_of_le hLt BA.out.size
    have hBs : (wa.setCell ⟨w.heap.size, 4, none⟩ (.slice A1 m.bs.length c1)).heap.size = wa.heap.size := by simp
    have hBW : wa.heap.size ≤ wb.heap.size := by have := BB.out.size; rw [hBs] at this; exact this
    have hbxc : wc.heap[w.heap.size]? = some (.cells m2.cs 35 (0, 0)) := by
      rw [hwc]
      have h1 := set_field ((BB.out.block _ hAB).trans BX.out) 8 (.slice A2 m.ps.length c2)
      rw [h1, hm2]
      rfl
    have hother : ∀ k, k ≠ w.heap.size → k < w6.heap.size → wc.heap[k]? = w6.heap[k]? := fun k hk hk2 => by
      rw [hwc]
      exact (((Below.heap_setCell wb ⟨w.heap.size, 8, none⟩ _ k hk).trans (BB.out.block k (Nat.lt_of_lt_of_le hk2 BA.out.size))).trans (Below.heap_setCell wa ⟨w.heap.size, 4, none⟩ _ k hk)).trans (BA.out.block k hk2)
    have hrest : wc.os = w6.os ∧ wc.tape = w6.tape ∧ wc.output = w6.output ∧ w6.heap.size ≤ wc.heap.size := by
      rw [hwc]
      exact ⟨BB.out.os.trans BA.out.os, BB.out.tape.trans BA.out.tape, BB.out.output.trans BA.out.output, by have := BA.out.size; simp; omega⟩
    have hfc : Fr (fun k => k = w.heap.size) w6 wc := ⟨hrest.1, hrest.2.1, hrest.2.2.1, hrest.2.2.2, fun k hk hn => hother k hn hk⟩
    have hoc : Ob wc base 40 q s1 acc := LL.out.ob.fr hfc (fun k hk hkk => by
      have hkk' : k = w.heap.size := hkk
      rcases LL.out.mu k hk with h1 | h1
      · have := (H.out.mu_lt h1).2; omega
      · omega) (fun x hx => by
      rw [LL.out.ns] at hx
      exact ⟨fun ad e hh => by have := (H.out.l x hx).lb ad e; have hh' : ad.block = w.heap.size := hh; omega, fun ad e hh => by have := (H.out.l x hx).lp ad e; have hh' : ad.block = w.heap.size := hh; omega⟩)
    have hmu6 : ∀ k, Mu q s1 k → k < w6.heap.size := fun k hk => (LL.out.ob.mu_lt hk).2
    have hOA : OwnR wc w6.heap.size (.slice A1 m.bs.length c1) m.bs := OA.out.keepAt fun k hk hk2 => by
      have h1 := (OA.out.lt_ hk).1
      rw [hwc]
      exact ((Below.heap_setCell wb ⟨w.heap.size, 8, none⟩ _ k (by simp; omega)).trans (BB.out.block k hk2)).trans (Below.heap_setCell wa ⟨w.heap.size, 4, none⟩ _ k (by simp; omega))
    have hOB : Own wc wa.heap.size (.slice A2 m.ps.length c2) m.ps := by
      refine ⟨OB.out.1, ?_⟩
      rcases OB.out.2 with hn | ⟨g', cap', cur, hv, hbg, hg, rest⟩
      · exact .inl hn
      · exact .inr ⟨g', cap', cur, hv, hbg, (by rw [hwc]; exact Below.heap_setCell wb ⟨w.heap.size, 8, none⟩ _ g' (by simp; omega) : wc.heap[g']? = wb.heap[g']?).trans hg, rest⟩
    have hnk : NOk wc (Mu q s1) m2 := by
      obtain ⟨Ax, cx, ex, hrx, hax, _⟩ := hOA.open2
      obtain ⟨Px, dx, ey, hry, hay, _⟩ := hOB.open2
      injection ex with ex1 ex2 ex3
      injection ey with ey1 ey2 ey3
      subst ex1 ey1
      subst hm2
      have hA := hOA.lo
      have hP := hOB.lo
      have hBA := BA.out.size
      exact ⟨⟨hrx, hry, by show U64 m.bm; rw [MB.out.2.2.2.2.2.2]; exact HN.out.1.bm, RB.out.2.2, RP.out.2.2⟩, fun e => by show c1 = 0; rw [ex3]; exact hax e, fun e => by show c2 = 0; rw [ey3]; exact hay e, fun ad e hm => by have := hmu6 _ hm; have := hA ad e; omega, fun ad e hm => by have := hmu6 _ hm; have := hP ad e; omega, fun ad e => (hA ad e).2, fun ad e => (hP ad e).2⟩
    have hsm : sameN (alN n ((s.cs.length : Int) + 1)) m2 := by rw [hm2, LL.out.me]; exact ⟨A1, c1, A2, c2, rfl⟩
    have hfs : FRs w.heap.size m2 := by rw [hm2]; exact ⟨fun ad e => by have := hOA.lo ad e; omega, fun ad e => by have := hOB.lo ad e; omega⟩
    have FS := Lib.hid hfs
    rw [← hwc]
    have OC := Lib.hid hoc
    have BC := Lib.hid hbxc
    have NK2 := Lib.hid hnk
    have FC := Lib.hid hfc
    have SM := Lib.hid hsm
    have hbc : w.heap.size < wc.heap.size := by have := hrest.2.2.2; omega
    have HBC := Lib.hid hbc
    have c0 := block_cell hoc.blk (i := 0) (v := .slice s1.nA s1.ns.length s1.nc) rfl
    have c0' := fun o => (World.cell?_alloc_lt wc o ⟨q, 0, none⟩ hoc.lt).trans c0
    have HQC := Lib.hid hoc.lt
    have hns : s1.ns.length < 1000 := by rw [LL.out.ns]; exact hl
    have HNS := Lib.hid hns
    have hmut : ∀ k, Mu q s1 k → Mu q s k ∨ w.heap.size ≤ k := fun k hk => (LL.out.mu k hk).imp id (fun h => by omega)
    have MUT := Lib.hid hmut
    have hfull : Fr (Mu q s) w wc := LL.out.fr.trans hfc fun i hi => .inr (by have hi' : i = w.heap.size := hi; omega)
    have FF := Lib.hid hfull
    obtain ⟨i0, hi0, hz0, hz1, hz2⟩ := info_parts nodeInfo14
    obtain ⟨z0, hz0'⟩ : ∃ z0, i0.zero = some z0 ∧ z0.cells.size = 14 := ⟨_, hz0, rfl⟩
    have HI := Lib.hid (⟨hi0, hz0'.1, hz1, hz2, hz0'.2⟩ : _ ∧ _ ∧ _ ∧ _ ∧ _)
    have hbase : base ≤ wc.heap.size := Nat.le_trans hoc.hq (Nat.le_of_lt hoc.lt)
    have HBS := Lib.hid hbase
    clear hm2 hwc hLt hAB hBs hBW hbxc hother hrest hfc hoc hmu6 hOA hOB hnk hsm hfs hbc hns hmut hfull hi0 hz0 hz0' hz1 hz2 hbase b4 g4 b8 b8' e8 h8 a4 a4'
    have lv := run_loadNode_drew BC.out
    have lv2 := fun o => run_loadNode_alloc BC.out o
    go_region_law
      ((refine step_append_lies _ (by rfl) (.tmp 47) (.tmp 49) 36 (by rfl) base 35 i0 z0 14 152 Try.underlying36 HI.out.1 HI.out.2.1 HI.out.2.2.1 HI.out.2.2.2.1 HI.out.2.2.2.2 (by omega) (.slice s1.nA s1.ns.length s1.nc) s1.ns.length (flatN s1.ns) (by rfl) (OC.out.nod.keepFrom fun k _ hk2 => Below.heap_alloc wc _ k hk2) ⟨wc.heap.size, 0, none⟩ 1 1 (flatN [m2]) (by rfl) (flatN_length [m2]) (fun j u hj => (by
          rw [Addr.add_lit, Nat.zero_add]
          exact (cell_of_row (wc.alloc (.cells (rowOf [m2.cs]) 35)) wc.heap.size j (rowOf [m2.cs]) 35 (0, 0) (heap_alloc_new wc _)).trans (rowOf_one m2 j u hj))) (flatN_one [m2]) (by omega) (by have := HNS.out; simp only [maxLen]; omega) (by have := HNS.out; omega) (Nat.le_trans HBS.out (by simp)) (wc.heap.size + 1) (by simp) ?_
        intro g1 cap1 w1 hown hgrow hat hlt
        have N := Lib.hid (OC.out.addN (by decide) (by decide) HNS.out NK2.out (.cells (rowOf [m2.cs]) 35) hown ⟨hgrow.os, hgrow.tape, hgrow.output, hgrow.size, hgrow.block⟩ hat)
        have hb1 : w1.heap[q]? = wc.heap[q]? := (hgrow.block q (by have := HQC.out; simp; omega) (fun e => OC.out.nod_ne (by decide) e.symm rfl)).trans (Below.heap_alloc wc _ q HQC.out)
        have e1 := block_cell (hb1.trans OC.out.blk) (i := 0) (v := .slice s1.nA s1.ns.length s1.nc) rfl
        have f1 := block_frozen (hb1.trans OC.out.blk) 0
        clear hown hgrow hat hlt hb1))
    all_goals
      obtain ⟨Z, hZ⟩ : ∃ Z, Z = w1.setCell ⟨q, 0, none⟩ (.slice (some ⟨g1, 0, none⟩) (s1.ns.length + 1) cap1) := ⟨_, rfl⟩
      have NZ := N.out
      rw [← hZ] at NZ ⊢
      have HZ := Lib.hid NZ
      clear hZ NZ c0 c0' e1 f1 lv lv2
      have d0 := block_cell HZ.out.1.blk (i := 0) (v := .slice (some ⟨g1, 0, none⟩) (s1.ns.length + 1) cap1) (by simp [Sd.addN])
      go_wp2
      go_ret
      refine ⟨s1.addN g1 cap1 m2, ?_, ⟨⟨m2, by show s1.ns ++ [m2] = _; rw [LL.out.ns], SM.out, FS.out⟩, LL.out.cs, LL.out.gen⟩, HZ.out.1, FF.out.trans HZ.out.2.1 MUT.out, fun k hk => (HZ.out.2.2 k hk).elim (MUT.out k) (fun h => .inr (by have := FF.out.size; omega))⟩
      rw [← LL.out.ns]
      first | rfl | exact ret_int (by simp)
  ·
    have t2 : (n0.kind == 2) = false := by rw [hk0]; exact beq_eq_false_iff_ne.2 (by omega)
    have t3 : (n0.kind == 3) = false := by rw [hk0]; exact beq_eq_false_iff_ne.2 (by omega)
    have t5 : (n0.kind == 5) = false := by rw [hk0]; exact beq_eq_false_iff_ne.2 (by omega)
    have t6 : (n0.kind == 6) = false := by rw [hk0]; exact beq_eq_false_iff_ne.2 (by omega)
    have t8 : (n0.kind == 8) = false := by rw [hk0]; exact beq_eq_false_iff_ne.2 (by omega)
    have K := Lib.hid (⟨k2, k3, k5, k6, k8⟩ : _ ∧ _ ∧ _ ∧ _ ∧ _)
    clear k2 k3 k5 k6 k8 hk0
    go_upto_region 11 with (fail)
    have L := Lib.hid (show ∃ s1 m, Laid w V base 40 q s s1 acc n m v from ⟨s, n0, VB.out, by rw [N0.out]; simp [alN, K.out.1, K.out.2.1, K.out.2.2.1, K.out.2.2.2.1, K.out.2.2.2.2], OV.out, Fr.of_below BV.out, fun k hk => .inl hk, rfl, rfl, rfl, rfl, by simp [hasO, K.out.1, K.out.2.1, K.out.2.2.1, K.out.2.2.2.1, K.out.2.2.2.2], LV.out⟩)
    clear t2 t3 t5 t6 t8 d0 K
    generalize V = w6 at L ⊢
    obtain ⟨s1, m, L1⟩ := L.out
    have LL := Lib.hid L1
    have MB := Lib.hid (show m.bA = n.bA ∧ m.bc = n.bc ∧ m.bs = n.bs ∧ m.pA = n.pA ∧ m.pc = n.pc ∧ m.ps = n.ps ∧ m.bm = n.bm by rw [L1.me]; exact ⟨rfl, rfl, rfl, rfl, rfl, rfl, rfl⟩)
    have RB := Lib.hid (show RdR w6 w6.heap.size m.bA m.bs ∧ (m.bA = none → m.bc = 0) ∧ m.bs.length ≤ 1000 by obtain ⟨h1, h2, h3, h4, h5, h6, _⟩ := MB.out; rw [h1, h2, h3]; exact ⟨rdR_fr2 HN.out.1.r LL.out.fr HN.out.2.2.2.1, HN.out.2.1, HN.out.1.bl⟩)
    have RP := Lib.hid (show Rd w6 w6.heap.size m.pA m.ps ∧ (m.pA = none → m.pc = 0) ∧ m.ps.length ≤ 1000 by obtain ⟨h1, h2, h3, h4, h5, h6, _⟩ := MB.out; rw [h4, h5, h6]; exact ⟨rd_fr2 HN.out.1.p LL.out.fr HN.out.2.2.2.2, HN.out.2.2.1, HN.out.1.pl⟩)
    have a4 := node_cellA L1.box (i := 4) (v := .slice m.bA m.bs.length m.bc) rfl
    have a4' := fun o => (World.cell?_alloc_lt w6 o ⟨w.heap.size, 4, none⟩ L1.lt).trans a4
    clear L1 L
    go_wp2_with (first
      | (at_builtin
         refine wpList_append_list (w0 := wa.setCell ⟨w.heap.size, 4, none⟩ (.slice A1 m.bs.length c1)) rfl (.tmp 37) (.tmp 39) rfl wa.heap.size (.slice (some ⟨wa.heap.size, 0, none⟩) 0 0) [] rfl (own_emptyG _ (by simp)) m.pA m.ps.length m.pc wa.heap.size m.ps rfl rfl (RP2.out.alloc (by simp) _) RP.out.2.1 (by have := RP.out.2.2; simp; omega) ((Below.refl _ _).alloc (by simp) _) (by simp) ?_
         intro vb wb HOb HBb
         obtain ⟨A2, c2, hvb, _, hA2, hc2⟩ := HOb.out.open2
         simp only [List.nil_append] at hvb
         subst hvb
         have OB := Lib.hid (show Own wb wa.heap.size (.slice A2 m.ps.length c2) m.ps from by simpa using HOb.out)
         have BB := Lib.hid HBb
         have hlt3 : w.heap.size < wa.heap.size := Nat.lt_of_lt_of_le LL.out.lt BA.out.size
         have bx := (HBb.block _ hlt3).trans BX.out
         have e8 := node_cellA bx (i := 8) (v := .slice m.pA m.ps.length m.pc) (by simp [Nd.cs])
         have h8 := node_frozen bx 8
         clear HOb HBb bx hlt3 hA2 hc2)
      | (at_builtin
         refine wpList_append_refs (w0 := w6) rfl (.tmp 32) (.tmp 34) rfl w6.heap.size (.slice (some ⟨w6.heap.size, 0, none⟩) 0 0) [] rfl (ownR_empty w6) m.bA m.bs.length m.bc w6.heap.size m.bs rfl rfl (RB.out.1.alloc (Nat.le_refl _) _) RB.out.2.1 (by have := RB.out.2.2; simp; omega) ((Below.refl _ w6).alloc (Nat.le_refl _) _) (by simp) ?_
         intro va wa HOa HBa
         obtain ⟨A1, c1, hva, _, hA1, hc1⟩ := HOa.out.open2
         simp only [List.nil_append] at hva
         subst hva
         have OA := Lib.hid (show OwnR wa w6.heap.size (.slice A1 m.bs.length c1) m.bs from by simpa using HOa.out)
         have BA := Lib.hid HBa
         have bx := (HBa.block _ LL.out.lt).trans LL.out.box
         have b4 := node_cellA bx (i := 4) (v := .slice m.bA m.bs.length m.bc) rfl
         have g4 := node_frozen bx 4
         have bx2 := set_field bx 4 (.slice A1 m.bs.length c1)
         have BX := Lib.hid bx2
         have b8 := node_cellA bx2 (i := 8) (v := .slice m.pA m.ps.length m.pc) (by simp [Nd.cs])
         have hlt2 : w.heap.size < (wa.setCell ⟨w.heap.size, 4, none⟩ (.slice A1 m.bs.length c1)).heap.size := (Array.getElem?_eq_some_iff.1 bx2).1
         have b8' := fun o => (World.cell?_alloc_lt _ o ⟨w.heap.size, 8, none⟩ hlt2).trans b8
         have RP2 := Lib.hid (show Rd (wa.setCell ⟨w.heap.size, 4, none⟩ (.slice A1 m.bs.length c1)) wa.heap.size m.pA m.ps by
           exact fun hn => by
             have hap : ∀ ad, m.pA = some ad → ad.block ≠ w.heap.size := fun ad e => by
               rw [MB.out.2.2.2.1] at e
               obtain ⟨ad', e', hb', _⟩ := HN.out.1.p (by rw [← MB.out.2.2.2.2.2.1]; exact hn)
               rw [e] at e'
               injection e' with e'
               subst e'
               omega
             obtain ⟨ad, e, hb, hc⟩ := RP.out.1 hn
             refine ⟨ad, e, Nat.lt_of_lt_of_le hb HBa.size, fun j u hu => ?_⟩
             have hbk : (ad.add j).block = ad.block := block_add ad j
             rw [World.cell?_setCell_other _ _ _ _ (fun h => hap ad e (by have := congrArg Addr.block h; rw [hbk] at this; first | exact this | exact this.symm))]
             exact (HBa.cell (by rw [hbk]; exact hb)).trans (hc j u hu))
         clear HOa HBa bx bx2 hlt2 hA1 hc1))
    obtain ⟨m2, hm2⟩ : ∃ m2 : Nd, m2 = { m with bA := A1, bc := c1, pA := A2, pc := c2 } := ⟨_, rfl⟩
    obtain ⟨wc, hwc⟩ : ∃ wc, wc = wb.setCell ⟨w.heap.size, 8, none⟩ (.slice A2 m.ps.length c2) := ⟨_, rfl⟩
    have hLt := LL.out.lt
    have hAB : w.heap.size < wa.heap.size := Nat.lt_of_lt_of_le hLt BA.out.size
    have hBs : (wa.setCell ⟨w.heap.size, 4, none⟩ (.slice A1 m.bs.length c1)).heap.size = wa.heap.size := by simp
    have hBW : wa.heap.size ≤ wb.heap.size := by have := BB.out.size; rw [hBs] at this; exact this
    have hbxc : wc.heap[w.heap.size]? = some (.cells m2.cs 35 (0, 0)) := by
      rw [hwc]
      have h1 := set_field ((BB.out.block _ hAB).trans BX.out) 8 (.slice A2 m.ps.length c2)
      rw [h1, hm2]
      rfl
    have hother : ∀ k, k ≠ w.heap.size → k < w6.heap.size → wc.heap[k]? = w6.heap[k]? := fun k hk hk2 => by
      rw [hwc]
      exact (((Below.heap_setCell wb ⟨w.heap.size, 8, none⟩ _ k hk).trans (BB.out.block k (Nat.lt_of_lt_of_le hk2 BA.out.size))).trans (Below.heap_setCell wa ⟨w.heap.size, 4, none⟩ _ k hk)).trans (BA.out.block k hk2)
    have hrest : wc.os = w6.os ∧ wc.tape = w6.tape ∧ wc.output = w6.output ∧ w6.heap.size ≤ wc.heap.size := by
      rw [hwc]
      exact ⟨BB.out.os.trans BA.out.os, BB.out.tape.trans BA.out.tape, BB.out.output.trans BA.out.output, by have := BA.out.size; simp; omega⟩
    have hfc : Fr (fun k => k = w.heap.size) w6 wc := ⟨hrest.1, hrest.2.1, hrest.2.2.1, hrest.2.2.2, fun k hk hn => hother k hn hk⟩
    have hoc : Ob wc base 40 q s1 acc := LL.out.ob.fr hfc (fun k hk hkk => by
      have hkk' : k = w.heap.size := hkk
      rcases LL.out.mu k hk with h1 | h1
      · have := (H.out.mu_lt h1).2; omega
      · omega) (fun x hx => by
      rw [LL.out.ns] at hx
      exact ⟨fun ad e hh => by have := (H.out.l x hx).lb ad e; have hh' : ad.block = w.heap.size := hh; omega, fun ad e hh => by have := (H.out.l x hx).lp ad e; have hh' : ad.block = w.heap.size := hh; omega⟩)
    have hmu6 : ∀ k, Mu q s1 k → k < w6.heap.size := fun k hk => (LL.out.ob.mu_lt hk).2
    have hOA : OwnR wc w6.heap.size (.slice A1 m.bs.length c1) m.bs := OA.out.keepAt fun k hk hk2 => by
      have h1 := (OA.out.lt_ hk).1
      rw [hwc]
      exact ((Below.heap_setCell wb ⟨w.heap.size, 8, none⟩ _ k (by simp; omega)).trans (BB.out.block k hk2)).trans (Below.heap_setCell wa ⟨w.heap.size, 4, none⟩ _ k (by simp; omega))
    have hOB : Own wc wa.heap.size (.slice A2 m.ps.length c2) m.ps := by
      refine ⟨OB.out.1, ?_⟩
      rcases OB.out.2 with hn | ⟨g', cap', cur, hv, hbg, hg, rest⟩
      · exact .inl hn
      · exact .inr ⟨g', cap', cur, hv, hbg, (by rw [hwc]; exact Below.heap_setCell wb ⟨w.heap.size, 8, none⟩ _ g' (by simp; omega) : wc.heap[g']? = wb.heap[g']?).trans hg, rest⟩
    have hnk : NOk wc (Mu q s1) m2 := by
      obtain ⟨Ax, cx, ex, hrx, hax, _⟩ := hOA.open2
      obtain ⟨Px, dx, ey, hry, hay, _⟩ := hOB.open2
      injection ex with ex1 ex2 ex3
      injection ey with ey1 ey2 ey3
      subst ex1 ey1
      subst hm2
      have hA := hOA.lo
      have hP := hOB.lo
      have hBA := BA.out.size
      exact ⟨⟨hrx, hry, by show U64 m.bm; rw [MB.out.2.2.2.2.2.2]; exact HN.out.1.bm, RB.out.2.2, RP.out.2.2⟩, fun e => by show c1 = 0; rw [ex3]; exact hax e, fun e => by show c2 = 0; rw [ey3]; exact hay e, fun ad e hm => by have := hmu6 _ hm; have := hA ad e; omega, fun ad e hm => by have := hmu6 _ hm; have := hP ad e; omega, fun ad e => (hA ad e).2, fun ad e => (hP ad e).2⟩
    have hsm : sameN (alN n ((s.cs.length : Int) + 1)) m2 := by rw [hm2, LL.out.me]; exact ⟨A1, c1, A2, c2, rfl⟩
    have hfs : FRs w.heap.size m2 := by rw [hm2]; exact ⟨fun ad e => by have := hOA.lo ad e; omega, fun ad e => by have := hOB.lo ad e; omega⟩
    have FS := Lib.hid hfs
    rw [← hwc]
    have OC := Lib.hid hoc
    have BC := Lib.hid hbxc
    have NK2 := Lib.hid hnk
    have FC := Lib.hid hfc
    have SM := Lib.hid hsm
    have hbc : w.heap.size < wc.heap.size := by have := hrest.2.2.2; omega
    have HBC := Lib.hid hbc
    have c0 := block_cell hoc.blk (i := 0) (v := .slice s1.nA s1.ns.length s1.nc) rfl
    have c0' := fun o => (World.cell?_alloc_lt wc o ⟨q, 0, none⟩ hoc.lt).trans c0
    have HQC := Lib.hid hoc.lt
    have hns : s1.ns.length < 1000 := by rw [LL.out.ns]; exact hl
    have HNS := Lib.hid hns
    have hmut : ∀ k, Mu q s1 k → Mu q s k ∨ w.heap.size ≤ k := fun k hk => (LL.out.mu k hk).imp id (fun h => by omega)
    have MUT := Lib.hid hmut
    have hfull : Fr (Mu q s) w wc := LL.out.fr.trans hfc fun i hi => .inr (by have hi' : i = w.heap.size := hi; omega)
    have FF := Lib.hid hfull
    obtain ⟨i0, hi0, hz0, hz1, hz2⟩ := info_parts nodeInfo14
    obtain ⟨z0, hz0'⟩ : ∃ z0, i0.zero = some z0 ∧ z0.cells.size = 14 := ⟨_, hz0, rfl⟩
    have HI := Lib.hid (⟨hi0, hz0'.1, hz1, hz2, hz0'.2⟩ : _ ∧ _ ∧ _ ∧ _ ∧ _)
    have hbase : base ≤ wc.heap.size := Nat.le_trans hoc.hq (Nat.le_of_lt hoc.lt)
    have HBS := Lib.hid hbase
    clear hm2 hwc hLt hAB hBs hBW hbxc hother hrest hfc hoc hmu6 hOA hOB hnk hsm hfs hbc hns hmut hfull hi0 hz0 hz0' hz1 hz2 hbase b4 g4 b8 b8' e8 h8 a4 a4'
    have lv := run_loadNode_drew BC.out
    have lv2 := fun o => run_loadNode_alloc BC.out o
    go_region_law
      ((refine step_append_lies _ (by rfl) (.tmp 47) (.tmp 49) 36 (by rfl) base 35 i0 z0 14 152 Try.underlying36 HI.out.1 HI.out.2.1 HI.out.2.2.1 HI.out.2.2.2.1 HI.out.2.2.2.2 (by omega) (.slice s1.nA s1.ns.length s1.nc) s1.ns.length (flatN s1.ns) (by rfl) (OC.out.nod.keepFrom fun k _ hk2 => Below.heap_alloc wc _ k hk2) ⟨wc.heap.size, 0, none⟩ 1 1 (flatN [m2]) (by rfl) (flatN_length [m2]) (fun j u hj => (by
          rw [Addr.add_lit, Nat.zero_add]
          exact (cell_of_row (wc.alloc (.cells (rowOf [m2.cs]) 35)) wc.heap.size j (rowOf [m2.cs]) 35 (0, 0) (heap_alloc_new wc _)).trans (rowOf_one m2 j u hj))) (flatN_one [m2]) (by omega) (by have := HNS.out; simp only [maxLen]; omega) (by have := HNS.out; omega) (Nat.le_trans HBS.out (by simp)) (wc.heap.size + 1) (by simp) ?_
        intro g1 cap1 w1 hown hgrow hat hlt
        have N := Lib.hid (OC.out.addN (by decide) (by decide) HNS.out NK2.out (.cells (rowOf [m2.cs]) 35) hown ⟨hgrow.os, hgrow.tape, hgrow.output, hgrow.size, hgrow.block⟩ hat)
        have hb1 : w1.heap[q]? = wc.heap[q]? := (hgrow.block q (by have := HQC.out; simp; omega) (fun e => OC.out.nod_ne (by decide) e.symm rfl)).trans (Below.heap_alloc wc _ q HQC.out)
        have e1 := block_cell (hb1.trans OC.out.blk) (i := 0) (v := .slice s1.nA s1.ns.length s1.nc) rfl
        have f1 := block_frozen (hb1.trans OC.out.blk) 0
        clear hown hgrow hat hlt hb1))
    all_goals
      obtain ⟨Z, hZ⟩ : ∃ Z, Z = w1.setCell ⟨q, 0, none⟩ (.slice (some ⟨g1, 0, none⟩) (s1.ns.length + 1) cap1) := ⟨_, rfl⟩
      have NZ := N.out
      rw [← hZ] at NZ ⊢
      have HZ := Lib.hid NZ
      clear hZ NZ c0 c0' e1 f1 lv lv2
      have d0 := block_cell HZ.out.1.blk (i := 0) (v := .slice (some ⟨g1, 0, none⟩) (s1.ns.length + 1) cap1) (by simp [Sd.addN])
      go_wp2
      go_ret
      refine ⟨s1.addN g1 cap1 m2, ?_, ⟨⟨m2, by show s1.ns ++ [m2] = _; rw [LL.out.ns], SM.out, FS.out⟩, LL.out.cs, LL.out.gen⟩, HZ.out.1, FF.out.trans HZ.out.2.1 MUT.out, fun k hk => (HZ.out.2.2 k hk).elim (MUT.out k) (fun h => .inr (by have := FF.out.size; omega))⟩
      rw [← LL.out.ns]
      first | rfl | exact ret_int (by simp)

end Go.Proofs.Ytbknbjabkhhlfaa
