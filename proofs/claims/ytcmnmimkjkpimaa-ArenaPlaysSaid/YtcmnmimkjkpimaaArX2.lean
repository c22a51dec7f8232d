/-
  The walk of the law's apply, with a raw node and a raw cell too.
-/
import Derived.Test.YtcmnmimkjkpimaaArQ1
import Derived.Test.YtcmnmimkjkpimaaArM2
import Derived.Deep.RegionHeld3
import Derived.Deep.DeepCutAuto
set_option linter.unusedVariables false
set_option maxRecDepth 100000
namespace Go.Proofs.Ytcmnmimkjkpimaa
open Go.Shelf Go.RowKit Go.Lib Go.Sort
attribute [local go_sem ↓] exec_load28 exec_store44
attribute [local go_sem] run_storeNode_new

/-- A node that may be handed to both arenas. -/
structure Fit (w : World) (qa qm : Nat) (s t : Sd) (m : Nd) : Prop where
  rd : NRd w w.heap.size m
  ba : m.bA = none → m.bc = 0
  pa : m.pA = none → m.pc = 0
  aa : (0 < m.bs.length → Av (Mu qa s) m.bA) ∧ (0 < m.ps.length → Av (Mu qa s) m.pA)
  am : (0 < m.bs.length → Av (Mu qm t) m.bA) ∧ (0 < m.ps.length → Av (Mu qm t) m.pA)
theorem Fit.fr {w w' : World} {qa qm : Nat} {s t : Sd} {m : Nd} {M : Nat → Prop} (h : Fit w qa qm s t m) (hf : Fr M w w') (ha : 0 < m.bs.length → Av M m.bA) (hp : 0 < m.ps.length → Av M m.pA) : Fit w' qa qm s t m :=
  ⟨⟨rdR_fr2 h.rd.r hf ha, rd_fr2 h.rd.p hf hp, h.rd.bm, h.rd.bl, h.rd.pl⟩, h.ba, h.pa, h.aa, h.am⟩
theorem Fit.up {w w' : World} {qa qm : Nat} {s t : Sd} {m : Nd} (h : Fit w qa qm s t m) (hb : RowKit.Below w.heap.size w w') : Fit w' qa qm s t m :=
  h.fr (M := fun _ => False) (Fr.of_below hb) (fun _ _ _ e => e) (fun _ _ _ e => e)
theorem fit_good {w : World} {qa qm lo : Nat} {s t : Sd} {m : Nd} (h : GoodN w m) (hf : FRs lo m) (ha : ∀ k, Mu qa s k → k < lo) (hm : ∀ k, Mu qm t k → k < lo) : Fit w qa qm s t m :=
  ⟨h.rd, h.ba, h.pa, ⟨fun _ ad e k => by have := hf.1 ad e; have := ha _ k; omega, fun _ ad e k => by have := hf.2 ad e; have := ha _ k; omega⟩, ⟨fun _ ad e k => by have := hf.1 ad e; have := hm _ k; omega, fun _ ad e k => by have := hf.2 ad e; have := hm _ k; omega⟩⟩
theorem heap_up' {V V' : World} {b : Nat} {o : Obj} (h : V.heap[b]? = some o) (hb : RowKit.Below V.heap.size V V') : V'.heap[b]? = some o := (hb.block b (Array.getElem?_eq_some_iff.1 h).1).trans h
theorem stp_raw {V : World} {b : Nat} {st : Stp} (h : V.heap[b]? = some (.cells st.cs 46 (0, 0))) : Sem.run Try.prog (loadNode (.pointer (some ⟨b, 5, none⟩))) V = .ok (.agg st.raw.cs) V := by
  refine run_loadNodeAt fun j hj => ?_
  rw [cell_of_row V b (5 + j) st.cs 46 (0, 0) h]
  rcases (by omega : j = 0 ∨ j = 1 ∨ j = 2 ∨ j = 3 ∨ j = 4 ∨ j = 5 ∨ j = 6 ∨ j = 7 ∨ j = 8 ∨ j = 9 ∨ j = 10 ∨ j = 11 ∨ j = 12 ∨ j = 13) with rfl | rfl | rfl | rfl | rfl | rfl | rfl | rfl | rfl | rfl | rfl | rfl | rfl | rfl <;> rfl
set_option maxHeartbeats 8000000 in
theorem apply_any2 (rb : Bool) (qa qm : Nat) (s t : Sd) (x y : Int) (st : Stp) (w : World) (h : Two w qa qm s t x y) (hx : 0 ≤ x ∧ x ≤ 1000) (hy : 0 ≤ y ∧ y ≤ 1000) (hg : 0 ≤ t.gen ∧ t.gen ≤ 1000) (hl1 : 2 ≤ t.ns.length) (hl2 : t.ns.length ≤ 90) (hl3 : t.cs.length ≤ 90)
    (hraw : rb = true → st.raw.bs.length < 70 → st.raw.ps.length < 20 → Fit w qa qm s t st.raw)
    (hcl : st.cl ≤ maxLen) (hch : ∀ j, j < st.cl → ∃ ad z, st.cA = some ad ∧ ad.block < w.heap.size ∧ w.cell? (ad.add j) = some (.int .i64 z)) :
    Calls Try.prog 17 #[.pointer (some ⟨qa, 0, none⟩), .pointer (some ⟨qm, 0, none⟩), .agg st.cs, .bool rb] w fun e w' => e = .returned (.bool true) ∧ ∃ s' t' x' y', App w w' qa qm s t s' t' x y x' y' := by
  obtain ⟨W, hW⟩ : ∃ W, W = w.alloc (.cells st.cs 46) := ⟨_, rfl⟩
  have HW := Lib.hid hW.symm
  have BW := Lib.hid (show RowKit.Below w.heap.size w W by rw [hW]; exact (RowKit.Below.refl _ w).alloc (Nat.le_refl _) _)
  have HB := Lib.hid (show W.heap[w.heap.size]? = some (.cells st.cs 46 (0, 0)) by rw [hW]; exact heap_alloc_new w _)
  have TW := Lib.hid (h.below BW.out)
  have MU := Lib.hid (⟨fun k hk => (h.a.mu_lt hk).2, fun k hk => (h.m.mu_lt hk).2⟩ : (∀ k, Mu qa s k → k < w.heap.size) ∧ (∀ k, Mu qm t k → k < w.heap.size))
  clear hW h
  have HRAW := Lib.hid hraw
  clear hraw
  have NEW := Lib.hid (show ∀ V, RowKit.Below W.heap.size W V → Calls Try.prog 8 #[.slice st.cA st.cl st.cc] V (NewP W V) from fun V hV =>
    (new_any st.cA st.cl st.cc V hcl (fun j hj => by
      obtain ⟨ad, z, e, hb, hc⟩ := hch j hj
      exact ⟨ad, z, e, (hV.cell (p := ad.add j) (by rw [block_add]; exact Nat.lt_of_lt_of_le hb BW.out.size)).trans ((BW.out.cell (p := ad.add j) (by rw [block_add]; exact hb)).trans hc)⟩)).mono fun e w' ⟨he, ht, hb⟩ => ⟨V.heap.size, he, Nat.le_refl _, ht, hV.trans (hb.mono hV.size), hb⟩)
  have NODE := Lib.hid (fun (V : World) (T : Nat) (hT : Tape T V) => node_any T t.ns.length V hT (by omega) (by omega))
  have LN := Lib.hid (⟨hl1, hl2, hl3⟩ : _ ∧ _ ∧ _)
  have XY := Lib.hid (⟨hx, hy, hg⟩ : _ ∧ _ ∧ _)
  have QM := Lib.hid TW.out.m.lt
  have M0 := Lib.hid (show MB4 qm t y W from TW.out.m.blk)
  have HB0 := Lib.hid HB.out
  unfold Stp.cs at HB
  clear hcl hch hl1 hl2 hl3 hx hy hg
  go_enter Try.func17, Try.ntmps17
  go_upto_region 1 with (fail)
  rw [HW.out]
  have KS := Lib.hid (show ∀ V, RowKit.Below W.heap.size W V → V.cell? ⟨w.heap.size, 4, none⟩ = some (.slice st.cA st.cl st.cc) ∧ V.cell? ⟨qm, 0, none⟩ = some (.slice t.nA t.ns.length t.nc) from fun V hV =>
    ⟨block_cell ((hV.block _ (Array.getElem?_eq_some_iff.1 HB.out).1).trans HB.out) rfl, ((M0.out.up QM.out hV).all).1⟩)
  have BD := Lib.hid (show RowKit.Below W.heap.size W W.drew from ⟨rfl, rfl, rfl, Nat.le_refl _, fun _ _ => rfl⟩)
  have BDA := Lib.hid (fun o => BD.out.alloc (Nat.le_refl W.heap.size) o)
  go_cut [9] (fun s9 wx => Cut1 W w.heap.size t.ns.length s9 wx)
  case first =>
    go_region_held3 (fun w' => w'.cell? ⟨w.heap.size, 4, none⟩ = some (.slice st.cA st.cl st.cc) ∧ w'.cell? ⟨qm, 0, none⟩ = some (.slice t.nA t.ns.length t.nc))
      (exact KS.out _ (by first | exact B2S.out | exact B2A.out _ | exact B2.out | exact B1A.out _ | exact B1.out | exact BDA.out _ | exact BD.out))
      (first
        | (go_at_call 8; refine (NEW.out _ BD.out).mono ?_; rintro e v1 ⟨T, rfl, hT, hTp, hb, hbv⟩; have T1 := Lib.hid hTp; have B1 := Lib.hid hb; have HT := Lib.hid hT; have B1A := Lib.hid (fun o => hb.alloc hb.size o); clear hTp hb hbv hT)
        | (go_at_call 8; refine (NEW.out _ (BDA.out _)).mono ?_; rintro e v1 ⟨T, rfl, hT, hTp, hb, hbv⟩; have T1 := Lib.hid hTp; have B1 := Lib.hid hb; have Z1 := Lib.hid ((hbv.block W.heap.size (by simp)).trans (heap_alloc_new W.drew Z44)); have ZS := Lib.hid (show W.heap.size < v1.heap.size by have := hbv.size; simp at this; omega); have HT := Lib.hid (show W.heap.size ≤ T by simp at hT; omega); have HTN := Lib.hid (show W.heap.size < T by simp at hT; omega); have B1A := Lib.hid (fun o => hb.alloc hb.size o); clear hTp hb hbv hT)
        | (go_at_call 26; refine (NODE.out _ _ T1.out).mono ?_; rintro e v2 ⟨n, rfl, gd, tp, gr, vn, fr⟩; have B2 := Lib.hid (below_node B1.out gr HT.out); have Z2 := Lib.hid ((gr.block W.heap.size ZS.out (by have := HTN.out; intro e; injection e with e; omega)).trans Z1.out); have R := run_storeNode n Z2.out rfl; have B2S := Lib.hid (below_row B2.out (Nat.le_refl W.heap.size) n.cs); have GG := Lib.hid (⟨gd, vn, fr⟩ : _ ∧ _ ∧ _); have GR := Lib.hid gr; clear gd tp gr vn fr)
        | (go_at_call 26; refine (NODE.out _ _ T1.out).mono ?_; rintro e v2 ⟨n, rfl, gd, tp, gr, vn, fr⟩; have B2 := Lib.hid (below_node B1.out gr HT.out); have B2A := Lib.hid (fun o => B2.out.alloc B2.out.size o); have GG := Lib.hid (⟨gd, vn, fr⟩ : _ ∧ _ ∧ _); have GR := Lib.hid gr; clear gd tp gr vn fr)
        | (go_at_call 26; refine (NODE.out _ _ (T1.out.kept (fun k hk => Below.heap_alloc v1 _ k (Nat.lt_of_le_of_lt hk T1.out.lt)) (by simp))).mono ?_; rintro e v2 ⟨n, rfl, gd, tp, gr, vn, fr⟩; have B2 := Lib.hid (below_node (B1A.out _) gr HT.out); have Z2 := Lib.hid ((gr.block v1.heap.size (by simp) (by have := T1.out.lt; intro e; injection e with e; omega)).trans (heap_alloc_new v1 Z44)); have R := run_storeNode n Z2.out rfl; have B2S := Lib.hid (below_row B2.out B1.out.size n.cs); have GG := Lib.hid (⟨gd, vn, fr⟩ : _ ∧ _ ∧ _); have GR := Lib.hid gr; clear gd tp gr vn fr))
    all_goals
      go_wp2_with fail
      go_meet
      first
        | exact cut1_new GG.out.1 GG.out.2.1 (FRs.mono GG.out.2.2 (Nat.le_trans BW.out.size B1.out.size)) B2.out
        | exact cut1_old (B := v1.heap.size) GG.out.1 GG.out.2.1 GG.out.2.2 (Nat.le_trans BW.out.size B1.out.size) ZS.out (Nat.le_refl _) Z2.out B2.out
        | exact cut1_old (B := (v1.alloc Z44).heap.size) GG.out.1 GG.out.2.1 GG.out.2.2 (Nat.le_trans BW.out.size (B1A.out _).size) (by simp) B1.out.size Z2.out B2.out
  case rest =>
    obtain ⟨b, n, rfl, F⟩ := hcut
    clear NEW NODE KS BD BDA
    have e0 := block_cell ((F.out.2.2.2.2.2.block _ (Array.getElem?_eq_some_iff.1 HB.out).1).trans HB.out) (i := 0) (v := .int .i64 st.kd) rfl
    have e1 := block_cell ((F.out.2.2.2.2.2.block _ (Array.getElem?_eq_some_iff.1 HB.out).1).trans HB.out) (i := 1) (v := .int .i64 st.a) rfl
    have e2 := block_cell ((F.out.2.2.2.2.2.block _ (Array.getElem?_eq_some_iff.1 HB.out).1).trans HB.out) (i := 2) (v := .int .i64 st.b) rfl
    have e3 := block_cell ((F.out.2.2.2.2.2.block _ (Array.getElem?_eq_some_iff.1 HB.out).1).trans HB.out) (i := 3) (v := .int .i64 st.c) rfl
    have HBG := Lib.hid (Nat.le_trans BW.out.size F.out.1)
    have HC := Lib.hid ((F.out.2.2.2.2.2.block _ (Array.getElem?_eq_some_iff.1 HB.out).1).trans HB.out)
    have T2 := Lib.hid (TW.out.below F.out.2.2.2.2.2)
    have M2 := Lib.hid (show MB4 qm t y wc from T2.out.m.blk)
    have m0 := M2.out.all.1
    have m1 := M2.out.all.2.1
    obtain ⟨r1, hr1, mo1⟩ := mod_any st.a (t.cs.length + 2) (by omega) (by have := LN.out; omega)
    obtain ⟨r2, hr2, mo2⟩ := mod_any st.b (t.ns.length + 1) (by omega) (by have := LN.out; omega)
    obtain ⟨r3, hr3, mo3⟩ := mod_any st.c (t.ns.length + 1) (by omega) (by have := LN.out; omega)
    obtain ⟨k, hk, mo4⟩ := mod_any st.kd 8 (by omega) (by omega)
    have mo5 : ∃ z : Int, (z = 0 ∨ z = 1 ∨ z = 2 ∨ z = 3 ∨ z = 4 ∨ z = 5 ∨ z = 6 ∨ z = 7) ∧ ∀ w, Calls Try.prog 11 #[.int .i64 st.kd, .int .i64 8] w fun e w' => e = .returned (.int .i64 z) ∧ w = w' := ⟨k, by omega, mo4⟩
    rw [show ((t.cs.length + 2 : Nat) : Int) = (t.cs.length : Int) + 2 by omega] at mo1
    rw [show ((t.ns.length + 1 : Nat) : Int) = (t.ns.length : Int) + 1 by omega] at mo2 mo3
    have j1 : IntKind.i64.wrap ((t.cs.length : Int) + 2) = (t.cs.length : Int) + 2 := by rw [IntKind.wrap_i64]; have := LN.out; omega
    have j2 : IntKind.i64.wrap ((t.ns.length : Int) + 1) = (t.ns.length : Int) + 1 := by rw [IntKind.wrap_i64]; have := LN.out; omega
    have MO1 := Lib.hid mo1
    have MO2 := Lib.hid mo2
    have MO3 := Lib.hid mo3
    have MO4 := Lib.hid mo5
    have HR1 := Lib.hid hr1
    clear mo1 mo2 mo3 mo4 mo5 hr1 hr2 hr3 hk
    have FT := Lib.hid (fit_good F.out.2.2.1 F.out.2.2.2.2.1 MU.out.1 MU.out.2 : Fit wc qa qm s t n)
    have HC0 := Lib.hid ((F.out.2.2.2.2.2.block _ (Array.getElem?_eq_some_iff.1 HB0.out).1).trans HB0.out)
    have FB := Lib.hid (⟨F.out.1, F.out.2.1, F.out.2.2.2.2.2⟩ : _ ∧ _ ∧ _)
    have T1 := Lib.hid T2.out
    have EE := Lib.hid (fun V (hV : RowKit.Below wc.heap.size wc V) => (heap_up' HC.out hV))
    clear F T2 m0 m1 e0 e1 e2 e3
    obtain ⟨w1, hw1⟩ : ∃ w1, w1 = wc := ⟨_, rfl⟩
    simp only [← hw1] at FT HC0 HC FB T1 M2 EE ⊢
    clear hw1
    have e9 := block_cell HC.out (i := 9) (v := .slice st.raw.bA st.raw.bs.length st.raw.bc) rfl
    have e13 := block_cell HC.out (i := 13) (v := .slice st.raw.pA st.raw.ps.length st.raw.pc) rfl
    go_upto_region 2 with (fail)
    go_cut [37] (fun s37 wx => ∃ bb : Bool, s37 = .bool bb ∧ (bb = true → rb = true ∧ st.raw.bs.length < 70 ∧ st.raw.ps.length < 20) ∧ wx = w1)
    case first =>
      cases rb with
      | false =>
        go_wp2_with fail
        go_meet
        exact ⟨false, rfl, (fun e => by cases e), rfl⟩
      | true =>
        by_cases q1 : st.raw.bs.length < 70
        · have q1' : (st.raw.bs.length : Int) < 70 := by omega
          by_cases q2 : st.raw.ps.length < 20
          · have q2' : (st.raw.ps.length : Int) < 20 := by omega
            go_wp2_with fail
            go_meet
            exact ⟨true, rfl, fun _ => ⟨by first | rfl | trivial, q1, q2⟩, rfl⟩
          · have q2' : ¬ (st.raw.ps.length : Int) < 20 := by omega
            go_wp2_with fail
            go_meet
            exact ⟨false, rfl, (fun e => by cases e), rfl⟩
        · have q1' : ¬ (st.raw.bs.length : Int) < 70 := by omega
          go_wp2_with fail
          go_meet
          exact ⟨false, rfl, (fun e => by cases e), rfl⟩
    case rest =>
      obtain ⟨bb, rfl, hbb, rfl⟩ := hcut
      have HBB0 := Lib.hid hbb
      clear hbb e9 e13
      go_upto_if 37 with (fail)
      obtain ⟨w1, hw1⟩ : ∃ w1, w1 = wc := ⟨_, rfl⟩
      simp only [← hw1] at FT HC0 HC FB T1 M2 EE ⊢
      clear hw1
      go_cut [] (fun wx => ∃ m : Nd, Aside (wx.heap[b]? = some (.cells m.cs 44 (0, 0)) ∧ Fit wx qa qm s t m ∧ RowKit.Below W.heap.size W wx))
      case first =>
        cases bb with
        | false =>
          go_wp2_with fail
          go_meet
          exact ⟨n, (⟨FB.out.2.1, FT.out, FB.out.2.2⟩ : _ ∧ _ ∧ _)⟩
        | true =>
          have hh := HBB0.out rfl
          have ld := stp_raw HC0.out
          have st5 := run_storeNode st.raw FB.out.2.1 rfl
          have FX := Lib.hid (HRAW.out hh.1 hh.2.1 hh.2.2)
          clear hh
          go_wp2_with fail
          go_meet
          have bw := BW.out.trans (FB.out.2.2.mono BW.out.size)
          have lo : w.heap.size ≤ b := Nat.le_trans BW.out.size FB.out.1
          have fw : Fit w1 qa qm s t st.raw := FX.out.up bw
          have fr : Fr (fun k => k = b) w1 (w1.setRow b st.raw.cs) := ⟨rfl, rfl, rfl, by simp, fun k _ hk => setRow_other _ _ _ _ hk⟩
          have f1 : Fit (w1.setRow b st.raw.cs) qa qm s t st.raw := by
            have gg : ∀ p : Addr, p.block < w.heap.size → (w1.setRow b st.raw.cs).cell? p = w.cell? p := fun p hp => (World.cell?_of_block (setRow_other _ _ _ _ (by omega))).trans (bw.cell (p := p) hp)
            exact ⟨⟨(FX.out.rd.r.keep gg).more (by have := bw.size; simp; omega), (FX.out.rd.p.keep gg).more (by have := bw.size; simp; omega), FX.out.rd.bm, FX.out.rd.bl, FX.out.rd.pl⟩, FX.out.ba, FX.out.pa, FX.out.aa, FX.out.am⟩
          exact ⟨st.raw, (⟨setRow_heap w1 b _ _ 44 (0, 0) FB.out.2.1, f1, below_row FB.out.2.2 FB.out.1 _⟩ : _ ∧ _ ∧ _)⟩
      case rest =>
        obtain ⟨m, FM⟩ := hcut
        obtain ⟨w2, hw2⟩ : ∃ w2, w2 = wc := ⟨_, rfl⟩
        simp only [← hw2] at FM ⊢
        clear hw2 HBB0 EE FT FB HC HC0 T1 M2
        have HC := Lib.hid ((FM.out.2.2.block _ (Array.getElem?_eq_some_iff.1 HB.out).1).trans HB.out)
        have T2 := Lib.hid (TW.out.below FM.out.2.2)
        have M2 := Lib.hid (show MB4 qm t y w2 from T2.out.m.blk)
        have e1 := block_cell HC.out (i := 1) (v := .int .i64 st.a) rfl
        have m1 := M2.out.all.2.1
        go_upto_if 43 with (fail)
        go_cut [10] (fun s10 wx => ∃ z : Int, s10 = .int .i64 z ∧ Aside (RowKit.Below w2.heap.size w2 wx))
        case first =>
          cases rb with
          | true =>
            go_wp2_with fail
            go_meet
            exact ⟨_, rfl, (RowKit.Below.refl _ _ : RowKit.Below w2.heap.size w2 w2)⟩
          | false =>
            go_upto_region 6 with (fail)
            go_quiet ((go_at_call 11; exact (MO1.out _).mono fun _ _ hh => ⟨hh.1, _, hh.2.symm⟩))
            go_wp2_with fail
            go_meet
            exact ⟨_, rfl, (show RowKit.Below w2.heap.size w2 (w2.drewN nq) from ⟨rfl, rfl, rfl, Nat.le_refl _, fun _ _ => rfl⟩)⟩
        case rest => as_aux_lemma =>
          obtain ⟨z1, rfl, BZ⟩ := hcut
          obtain ⟨V, hV⟩ : ∃ V, V = wc := ⟨_, rfl⟩
          simp only [← hV] at BZ ⊢
          clear e1 m1 hV
          go_upto_region 7 with (fail)
          have e2 := block_cell ((BZ.out.block _ (Array.getElem?_eq_some_iff.1 HC.out).1).trans HC.out) (i := 2) (v := .int .i64 st.b) rfl
          have e3 := block_cell ((BZ.out.block _ (Array.getElem?_eq_some_iff.1 HC.out).1).trans HC.out) (i := 3) (v := .int .i64 st.c) rfl
          have m0 := (M2.out.up T2.out.m.lt BZ.out).all.1
          have TV := Lib.hid (T2.out.below BZ.out)
          have NV := Lib.hid (⟨(BZ.out.block b (Array.getElem?_eq_some_iff.1 FM.out.1).1).trans FM.out.1, FM.out.2.1.up BZ.out⟩ : V.heap[b]? = some (.cells m.cs 44 (0, 0)) ∧ Fit V qa qm s t m)
          have WV := Lib.hid (FM.out.2.2.trans (BZ.out.mono FM.out.2.2.size))
          have HV := Lib.hid ((BZ.out.block _ (Array.getElem?_eq_some_iff.1 HC.out).1).trans HC.out)
          clear FM T2 M2 BZ HC
          go_cut [11, 12] (fun s11 s12 wx => s11 = .int .i64 r2 ∧ s12 = .int .i64 r3 ∧ Aside (RowKit.Below V.heap.size V wx))
          case first =>
            go_quiet ((first | (go_at_call 11; exact (MO2.out _).mono fun _ _ hh => ⟨hh.1, _, hh.2.symm⟩) | (go_at_call 11; exact (MO3.out _).mono fun _ _ hh => ⟨hh.1, _, hh.2.symm⟩)))
            go_wp2_with fail
            go_meet
            exact ⟨rfl, rfl, (show RowKit.Below V.heap.size V (V.drewN nq) from ⟨rfl, rfl, rfl, Nat.le_refl _, fun _ _ => rfl⟩)⟩
          case rest =>
            obtain ⟨rfl, rfl, B7⟩ := hcut
            have T7 := Lib.hid (TV.out.below B7.out)
            have N7 := Lib.hid (⟨(B7.out.block b (Array.getElem?_eq_some_iff.1 NV.out.1).1).trans NV.out.1, NV.out.2.up B7.out⟩ : wc.heap[b]? = some (.cells m.cs 44 (0, 0)) ∧ Fit wc qa qm s t m)
            have W7 := Lib.hid (WV.out.trans (B7.out.mono WV.out.size))
            have H7 := Lib.hid ((B7.out.block _ (Array.getElem?_eq_some_iff.1 HV.out).1).trans HV.out)
            have M7 := Lib.hid (show MB4 qm t y wc from T7.out.m.blk)
            clear TV NV WV HV B7 e2 e3 m0
            obtain ⟨w7, hw7⟩ : ∃ w7, w7 = wc := ⟨_, rfl⟩
            simp only [← hw7] at T7 N7 W7 H7 M7 ⊢
            clear hw7
            have e2 := block_cell H7.out (i := 2) (v := .int .i64 st.b) rfl
            have m1 := M7.out.all.2.1
            go_upto_region 8 with (fail)
            go_cut [91] (fun s91 wx => ∃ bb : Bool, s91 = .bool bb ∧ (bb = true → 1 ≤ z1 ∧ z1 ≤ (t.cs.length : Int)) ∧ wx = w7)
            case first =>
              by_cases g1 : z1 > 0
              · by_cases g2 : z1 ≤ (t.cs.length : Int)
                · go_wp2_with fail
                  all_goals
                    go_meet
                    first
                      | exact ⟨true, rfl, fun _ => ⟨by omega, by omega⟩, rfl⟩
                      | exact ⟨false, rfl, (fun e => by cases e), rfl⟩
                · go_wp2_with fail
                  all_goals
                    go_meet
                    exact ⟨false, rfl, (fun e => by cases e), rfl⟩
              · go_wp2_with fail
                all_goals
                  go_meet
                  exact ⟨false, rfl, (fun e => by cases e), rfl⟩
            case rest =>
              obtain ⟨bb, rfl, hbb, rfl⟩ := hcut
              have HBB := Lib.hid hbb
              clear hbb e2 m1
              go_upto_if 91 with (fail)
              go_cut [11] (fun s11 wx => ∃ v : Int, s11 = .int .i64 v ∧ wx = wc)
              case first =>
                cases bb with
                | false =>
                  go_wp2_with fail
                  go_meet
                  exact ⟨_, rfl, rfl⟩
                | true =>
                  have hb := HBB.out rfl
                  obtain ⟨g, hgc⟩ := T7.out.m.cel_at (by omega)
                  obtain ⟨kk, hkk⟩ : ∃ kk : Nat, z1 = (kk : Int) + 1 := ⟨(z1 - 1).toNat, by omega⟩
                  subst hkk
                  have hkl : kk < t.cs.length := by omega
                  obtain ⟨v0, hv0⟩ : ∃ v0, t.cs[kk]? = some v0 := ⟨_, List.getElem?_eq_getElem hkl⟩
                  have e1 := (T7.out.m.cell_ hgc hv0).1
                  have d1 := M7.out.all.2.1
                  rw [hgc] at d1
                  have hkn : (kk : Int) < (t.cs.length : Int) := by omega
                  have hk0 : (0 : Int) ≤ (kk : Int) := by omega
                  have j3 : IntKind.i64.wrap (kk : Int) = (kk : Int) := by rw [IntKind.wrap_i64]; have := LN.out; omega
                  have j4 : IntKind.i64.wrap ((kk : Int) + 1 - 1) = (kk : Int) := by rw [IntKind.wrap_i64]; have := LN.out; omega
                  clear hb hgc hkl hv0
                  go_wp2_with fail
                  go_meet
                  exact ⟨_, rfl, rfl⟩
              case rest =>
                obtain ⟨v, rfl, rfl⟩ := hcut
                have e0 := block_cell H7.out (i := 0) (v := .int .i64 st.kd) rfl
                obtain ⟨z, hz, mz⟩ := MO4.out
                have MZ := Lib.hid (fun w => mz w)
                clear mz
                go_upto_region 11 with (go_at_call 11; refine (MZ.out _).mono ?_; rintro e w' ⟨rfl, rfl⟩)
                clear e0
                have BWC := Lib.hid (BW.out.trans (W7.out.mono BW.out.size))
                rcases hz with rfl | rfl | rfl | rfl | rfl | rfl | rfl | rfl
                ·
                  go_upto_region 13 with (fail)
                  have BD8 := Lib.hid (show RowKit.Below wc.heap.size wc wc.drew from ⟨rfl, rfl, rfl, Nat.le_refl _, fun _ _ => rfl⟩)
                  have T8 := Lib.hid (T7.out.below BD8.out)
                  have G8 := Lib.hid (N7.out.2.up BD8.out)
                  have B8 := Lib.hid (BWC.out.trans (BD8.out.mono BWC.out.size))
                  have HBK := Lib.hid (show wc.drew.heap[b]? = some (.cells m.cs 44 (0, 0)) from N7.out.1)
                  have HBL := Lib.hid (Array.getElem?_eq_some_iff.1 N7.out.1).1
                  have LE := Lib.hid (show s.ns.length = t.ns.length from T7.out.ns.1.symm)
                  have AVA := Lib.hid N7.out.2.aa
                  have AVM := Lib.hid N7.out.2.am
                  have AA := Lib.hid (aalloc_any 0 qa s x m v wc.drew T8.out.a G8.out.rd G8.out.ba G8.out.pa (by have := LN.out; have := LE.out; omega) (by have := LN.out; have := T7.out.cs; rw [this]; omega))
                  have lv := run_loadNode HBK.out
                  go_region_held3 (fun w' => Sem.run Try.prog (loadNode (.pointer (some ⟨b, 0, none⟩))) w' = .ok (.agg m.cs) w')
                    (exact run_loadNode (by first | exact HB2.out | exact HB1.out | exact HBK.out))
                    (first
                      | (go_at_call 16; refine AA.out.mono ?_; rintro e u1 ⟨s1, he, hA, ho, hf, hm⟩; rw [LE.out] at he; obtain rfl := he; have A1 := Lib.hid hA; have O1 := Lib.hid ho; have D1 := Lib.hid (did_alloc (T := 77) hA hf hm); have HB1 := Lib.hid ((hf.block b HBL.out (fun hm => by have := MU.out.1 b hm; have := HBG.out; omega)).trans HBK.out); have G9 := Lib.hid (G8.out.fr hf AVA.out.1 AVA.out.2); have AB := Lib.hid (ralloc2_any 0 qm t y m v u1 (T8.out.mid D1.out) G9.out.rd G9.out.ba G9.out.pa AVM.out.1 AVM.out.2 (by have := LN.out; omega) (by have := LN.out; omega)); clear hA ho hf hm)
                      | (go_at_call 32; refine AB.out.mono ?_; rintro e u2 ⟨t1, rfl, hA, ho, hf, hm⟩; have A2 := Lib.hid hA; have O2 := Lib.hid ho; have D2 := Lib.hid (did_alloc (T := 77) hA hf hm); have HB2 := Lib.hid ((hf.block b (Nat.lt_of_lt_of_le HBL.out D1.out.fr.size) (fun hm => by have := MU.out.2 b hm; have := HBG.out; omega)).trans HB1.out); clear hA ho hf hm))
                  all_goals
                    go_wp2
                    go_ret
                    exact ⟨rfl, s1, t1, x, y, App.mk_ B8.out T8.out O1.out D1.out O2.out D2.out (alloced_same T8.out A1.out A2.out).1 (alloced_same T8.out A1.out A2.out).2.1 (alloced_same T8.out A1.out A2.out).2.2 (went_alloc A1.out)⟩
                ·
                  go_upto_region 13 with (fail)
                  have BD8 := Lib.hid (show RowKit.Below wc.heap.size wc wc.drew from ⟨rfl, rfl, rfl, Nat.le_refl _, fun _ _ => rfl⟩)
                  have T8 := Lib.hid (T7.out.below BD8.out)
                  have G8 := Lib.hid (N7.out.2.up BD8.out)
                  have B8 := Lib.hid (BWC.out.trans (BD8.out.mono BWC.out.size))
                  have HBK := Lib.hid (show wc.drew.heap[b]? = some (.cells m.cs 44 (0, 0)) from N7.out.1)
                  have HBL := Lib.hid (Array.getElem?_eq_some_iff.1 N7.out.1).1
                  have LE := Lib.hid (show s.ns.length = t.ns.length from T7.out.ns.1.symm)
                  have AVA := Lib.hid N7.out.2.aa
                  have AVM := Lib.hid N7.out.2.am
                  have AA := Lib.hid (aalloc_any 0 qa s x m v wc.drew T8.out.a G8.out.rd G8.out.ba G8.out.pa (by have := LN.out; have := LE.out; omega) (by have := LN.out; have := T7.out.cs; rw [this]; omega))
                  have lv := run_loadNode HBK.out
                  go_region_held3 (fun w' => Sem.run Try.prog (loadNode (.pointer (some ⟨b, 0, none⟩))) w' = .ok (.agg m.cs) w')
                    (exact run_loadNode (by first | exact HB2.out | exact HB1.out | exact HBK.out))
                    (first
                      | (go_at_call 16; refine AA.out.mono ?_; rintro e u1 ⟨s1, he, hA, ho, hf, hm⟩; rw [LE.out] at he; obtain rfl := he; have A1 := Lib.hid hA; have O1 := Lib.hid ho; have D1 := Lib.hid (did_alloc (T := 77) hA hf hm); have HB1 := Lib.hid ((hf.block b HBL.out (fun hm => by have := MU.out.1 b hm; have := HBG.out; omega)).trans HBK.out); have G9 := Lib.hid (G8.out.fr hf AVA.out.1 AVA.out.2); have AB := Lib.hid (ralloc2_any 0 qm t y m v u1 (T8.out.mid D1.out) G9.out.rd G9.out.ba G9.out.pa AVM.out.1 AVM.out.2 (by have := LN.out; omega) (by have := LN.out; omega)); clear hA ho hf hm)
                      | (go_at_call 32; refine AB.out.mono ?_; rintro e u2 ⟨t1, rfl, hA, ho, hf, hm⟩; have A2 := Lib.hid hA; have O2 := Lib.hid ho; have D2 := Lib.hid (did_alloc (T := 77) hA hf hm); have HB2 := Lib.hid ((hf.block b (Nat.lt_of_lt_of_le HBL.out D1.out.fr.size) (fun hm => by have := MU.out.2 b hm; have := HBG.out; omega)).trans HB1.out); clear hA ho hf hm))
                  all_goals
                    go_wp2
                    go_ret
                    exact ⟨rfl, s1, t1, x, y, App.mk_ B8.out T8.out O1.out D1.out O2.out D2.out (alloced_same T8.out A1.out A2.out).1 (alloced_same T8.out A1.out A2.out).2.1 (alloced_same T8.out A1.out A2.out).2.2 (went_alloc A1.out)⟩
                ·
                  have CA := Lib.hid (newCell_a 0 qa s x v wc T7.out.a (by have := LN.out; have := T7.out.cs; rw [this]; omega))
                  go_wp2_with (first
                    | (go_at_call 30; refine CA.out.mono ?_; rintro e u1 ⟨g1, cap1, he, ho, hf, hm⟩; rw [T7.out.cs] at he; obtain rfl := he; have O1 := Lib.hid ho; have D1 := Lib.hid (did_newC hf hm); have CB := Lib.hid (newCell_m 0 qm t y v u1 (T7.out.mid D1.out) (by have := LN.out; omega)); clear ho hf hm)
                    | (go_at_call 38; refine CB.out.mono ?_; rintro e u2 ⟨g2, cap2, rfl, ho, hf, hm⟩; have O2 := Lib.hid ho; have D2 := Lib.hid (did_newC hf hm); clear ho hf hm))
                  go_ret
                  exact ⟨rfl, _, _, x, y, App.mk_ BWC.out T7.out O1.out D1.out O2.out D2.out T7.out.ns (show s.cs ++ [v] = t.cs ++ [v] by rw [T7.out.cs]) T7.out.gen went_newC⟩
                ·
                  have CA := Lib.hid (newgen_any 0 qa s x wc T7.out.a (by rw [T7.out.gen]; have := XY.out; omega))
                  go_wp2_with (first
                    | (go_at_call 13; refine CA.out.mono ?_; rintro e u1 ⟨he, ho, hf⟩; rw [T7.out.gen] at he; obtain rfl := he; have O1 := Lib.hid ho; have D1 := Lib.hid (did_gen (s := s) (g := s.gen + 1) hf); have CB := Lib.hid (rnewgen_any 0 qm t y u1 (T7.out.mid D1.out) (by have := XY.out; omega)); clear ho hf)
                    | (go_at_call 39; refine CB.out.mono ?_; rintro e u2 ⟨rfl, ho, hf⟩; have O2 := Lib.hid ho; have D2 := Lib.hid (did_gen (s := t) (g := t.gen + 1) hf); clear ho hf))
                  go_ret
                  exact ⟨rfl, _, _, x, y, App.mk_ BWC.out T7.out O1.out D1.out O2.out D2.out T7.out.ns T7.out.cs (show s.gen + 1 = t.gen + 1 by rw [T7.out.gen]) went_gen⟩
                ·
                  have CA := Lib.hid (load_any 0 qa s x z1 wc T7.out.a (by have := XY.out; omega))
                  go_wp2_with (first
                    | (go_at_call 15; refine CA.out.mono ?_; rintro e u1 ⟨he, ho, hf⟩; rw [cell_eq T7.out.cs] at he; obtain rfl := he; have O1 := Lib.hid ho; have D1 := Lib.hid (did_self (s := s) hf); have CB := Lib.hid (rload_any 0 qm t y z1 u1 (T7.out.mid D1.out) (by have := XY.out; omega)); clear ho hf)
                    | (go_at_call 40; refine CB.out.mono ?_; rintro e u2 ⟨rfl, ho, hf⟩; have O2 := Lib.hid ho; have D2 := Lib.hid (did_self (s := t) hf); clear ho hf))
                  go_ret
                  exact ⟨rfl, _, _, x + 1, y + 1, App.mk_ BWC.out T7.out O1.out D1.out O2.out D2.out T7.out.ns T7.out.cs T7.out.gen went_self.1⟩
                ·
                  have CA := Lib.hid (cas_any 0 qa s x z1 v r3 wc T7.out.a (by have := XY.out; omega))
                  go_wp2_with (first
                    | (go_at_call 14; refine CA.out.mono ?_; rintro e u1 ⟨he, ho, hf⟩; rw [casB_eq T7.out.cs] at he; obtain rfl := he; have O1 := Lib.hid ho; have D1 := Lib.hid (did_cas (s := s) (c := z1) (old := v) (new := r3) hf); have CB := Lib.hid (rcas_any 0 qm t y z1 v r3 u1 (T7.out.mid D1.out) (by have := XY.out; omega)); clear ho hf)
                    | (go_at_call 41; refine CB.out.mono ?_; rintro e u2 ⟨rfl, ho, hf⟩; have O2 := Lib.hid ho; have D2 := Lib.hid (did_cas (s := t) (c := z1) (old := v) (new := r3) hf); clear ho hf))
                  go_ret
                  exact ⟨rfl, _, _, x + 1, y + 1, App.mk_ BWC.out T7.out O1.out D1.out O2.out D2.out (by rw [(casS_ns s _ _ _).1, (casS_ns t _ _ _).1]; exact T7.out.ns) (casS_cs T7.out.cs _ _ _) (by rw [(casS_ns s _ _ _).2, (casS_ns t _ _ _).2]; exact T7.out.gen) went_cas⟩
                ·
                  have CA := Lib.hid (cas_any 0 qa s x z1 v r3 wc T7.out.a (by have := XY.out; omega))
                  go_wp2_with (first
                    | (go_at_call 14; refine CA.out.mono ?_; rintro e u1 ⟨he, ho, hf⟩; rw [casB_eq T7.out.cs] at he; obtain rfl := he; have O1 := Lib.hid ho; have D1 := Lib.hid (did_cas (s := s) (c := z1) (old := v) (new := r3) hf); have CB := Lib.hid (rcas_any 0 qm t y z1 v r3 u1 (T7.out.mid D1.out) (by have := XY.out; omega)); clear ho hf)
                    | (go_at_call 41; refine CB.out.mono ?_; rintro e u2 ⟨rfl, ho, hf⟩; have O2 := Lib.hid ho; have D2 := Lib.hid (did_cas (s := t) (c := z1) (old := v) (new := r3) hf); clear ho hf))
                  go_ret
                  exact ⟨rfl, _, _, x + 1, y + 1, App.mk_ BWC.out T7.out O1.out D1.out O2.out D2.out (by rw [(casS_ns s _ _ _).1, (casS_ns t _ _ _).1]; exact T7.out.ns) (casS_cs T7.out.cs _ _ _) (by rw [(casS_ns s _ _ _).2, (casS_ns t _ _ _).2]; exact T7.out.gen) went_cas⟩
                ·
                  go_wp2_with fail
                  go_ret
                  exact ⟨rfl, s, t, x, y, App.mk_ BWC.out T7.out T7.out.a (Did.self wc qa s) T7.out.m (Did.self wc qm t) T7.out.ns T7.out.cs T7.out.gen went_self.2⟩
end Go.Proofs.Ytcmnmimkjkpimaa
