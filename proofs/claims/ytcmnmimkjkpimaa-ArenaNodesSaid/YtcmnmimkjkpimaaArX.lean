/-
  The walk of the law's apply.
-/
import Derived.Test.YtcmnmimkjkpimaaArW
import Derived.Deep.RegionHeld3
import Derived.Deep.DeepCutAuto
set_option linter.unusedVariables false
set_option maxRecDepth 100000
namespace Go.Proofs.Ytcmnmimkjkpimaa
open Go.Shelf Go.RowKit Go.Lib Go.Sort
attribute [local go_sem ↓] exec_load28 exec_store44
attribute [local go_sem] run_storeNode_new

theorem Did.self (w : World) (q : Nat) (s : Sd) : Did w w q s s := ⟨Fr.refl _ _, fun _ hk => .inl hk, fun _ hn => .inl hn⟩
/-- A step of a law. -/
structure Stp where
  (kd a b c : Int)
  cA : Option Addr
  (cl cc : Nat)
  raw : Nd
def Stp.cs (x : Stp) : Array Value := #[.int .i64 x.kd, .int .i64 x.a, .int .i64 x.b, .int .i64 x.c, .slice x.cA x.cl x.cc, .int .i64 x.raw.kind, .int .i64 x.raw.gen, .int .i64 x.raw.main, .int .u64 x.raw.bm, .slice x.raw.bA x.raw.bs.length x.raw.bc, .int .u64 x.raw.hash, .string x.raw.key, .int .u64 x.raw.val, .slice x.raw.pA x.raw.ps.length x.raw.pc, .int .i64 x.raw.prev, .int .i64 x.raw.old, .int .i64 x.raw.exp, .int .i64 x.raw.new, .int .i64 x.raw.status]
/-- What region 1 leaves. -/
def Cut1 (W : World) (lo : Nat) (rf : Nat) (v : Value) (w : World) : Prop := ∃ (b : Nat) (n : Nd), v = .pointer (some ⟨b, 0, none⟩) ∧ Aside (W.heap.size ≤ b ∧ w.heap[b]? = some (.cells n.cs 44 (0, 0)) ∧ GoodN w n ∧ VN rf n ∧ FRs lo n ∧ Below W.heap.size W w)
theorem GoodN.fr {w w' : World} {n : Nd} {M : Nat → Prop} (h : GoodN w n) (hf : Fr M w w') (ha : Av M n.bA) (hp : Av M n.pA) : GoodN w' n :=
  ⟨⟨h.rd.r.fr hf ha, h.rd.p.fr hf hp, h.rd.bm, h.rd.bl, h.rd.pl⟩, h.ba, h.pa, h.bc, h.pc, h.bl, h.pl, h.key⟩
theorem FRs.mono {lo hi : Nat} {n : Nd} (h : FRs hi n) (hl : lo ≤ hi) : FRs lo n := ⟨fun ad e => Nat.le_trans hl (h.1 ad e), fun ad e => Nat.le_trans hl (h.2 ad e)⟩
theorem cut1_new {W v : World} {lo rf : Nat} {n : Nd} (hg : GoodN v n) (hv : VN rf n) (hf : FRs lo n) (hb : RowKit.Below W.heap.size W v) : Cut1 W lo rf (.pointer (some ⟨v.heap.size, 0, none⟩)) (v.alloc (.cells n.cs 44)) :=
  ⟨v.heap.size, n, rfl, (⟨hb.size, heap_alloc_new v _, hg.fr (M := fun _ => False) ((Fr.refl _ v).alloc _) (fun _ _ e => e) (fun _ _ e => e), hv, hf, hb.alloc hb.size _⟩ : _ ∧ _ ∧ _ ∧ _ ∧ _ ∧ _)⟩
theorem cut1_old {W v : World} {lo rf b B : Nat} {n : Nd} {old : Array Value} (hg : GoodN v n) (hv : VN rf n) (hf : FRs B n) (hlo : lo ≤ B) (hbB : b < B) (hWb : W.heap.size ≤ b) (ho : v.heap[b]? = some (.cells old 44 (0, 0))) (hb : RowKit.Below W.heap.size W v) : Cut1 W lo rf (.pointer (some ⟨b, 0, none⟩)) (v.setRow b n.cs) := by
  have hfr : Fr (fun k => k = b) v (v.setRow b n.cs) := ⟨rfl, rfl, rfl, by simp, fun k _ hk => setRow_other _ _ _ _ hk⟩
  have h1 : GoodN (v.setRow b n.cs) n := hg.fr hfr (fun ad e hm => by have := hf.1 ad e; have hm' : ad.block = b := hm; omega) (fun ad e hm => by have := hf.2 ad e; have hm' : ad.block = b := hm; omega)
  have h2 : FRs lo n := ⟨fun ad e => Nat.le_trans hlo (hf.1 ad e), fun ad e => Nat.le_trans hlo (hf.2 ad e)⟩
  have h3 : RowKit.Below W.heap.size v (v.setRow b n.cs) := ⟨rfl, rfl, rfl, by simp, fun k hk => setRow_other _ _ _ _ (by omega)⟩
  exact ⟨b, n, rfl, (⟨hWb, setRow_heap v b _ n.cs 44 (0, 0) ho, h1, hv, h2, hb.trans h3⟩ : _ ∧ _ ∧ _ ∧ _ ∧ _ ∧ _)⟩
theorem below_row {W v : World} {b : Nat} (hb : RowKit.Below W.heap.size W v) (h : W.heap.size ≤ b) (cs : Array Value) : RowKit.Below W.heap.size W (v.setRow b cs) :=
  hb.trans (b := v) ⟨rfl, rfl, rfl, by simp, fun k hk => setRow_other _ _ _ _ (by omega)⟩
theorem below_node {W V v : World} {T : Nat} (hb : RowKit.Below W.heap.size W V) (hg : V.grownBy v (some T)) (hT : W.heap.size ≤ T) : RowKit.Below W.heap.size W v :=
  hb.trans ((Fr.of_grown hg).below hb.size fun k e => by injection e with e; omega)
abbrev Z44 : Obj := .cells #[.int .i64 0, .int .i64 0, .int .i64 0, .int .u64 0, .slice none 0 0, .int .u64 0, .string ⟨#[]⟩, .int .u64 0, .slice none 0 0, .int .i64 0, .int .i64 0, .int .i64 0, .int .i64 0, .int .i64 0] 44
def NewP (W V : World) (e : Ending) (w' : World) : Prop := ∃ T, e = .returned (.pointer (some ⟨T, 0, none⟩)) ∧ V.heap.size ≤ T ∧ Tape T w' ∧ RowKit.Below W.heap.size W w' ∧ RowKit.Below V.heap.size V w'
set_option maxHeartbeats 8000000 in
theorem apply_any (qa qm : Nat) (s t : Sd) (x y : Int) (st : Stp) (w : World) (h : Two w qa qm s t x y) (hx : 0 ≤ x ∧ x ≤ 1000) (hy : 0 ≤ y ∧ y ≤ 1000) (hg : 0 ≤ t.gen ∧ t.gen ≤ 1000) (hl1 : 2 ≤ t.ns.length) (hl2 : t.ns.length ≤ 90) (hl3 : t.cs.length ≤ 90)
    (hcl : st.cl ≤ maxLen) (hch : ∀ j, j < st.cl → ∃ ad z, st.cA = some ad ∧ ad.block < w.heap.size ∧ w.cell? (ad.add j) = some (.int .i64 z)) :
    Calls Try.prog 17 #[.pointer (some ⟨qa, 0, none⟩), .pointer (some ⟨qm, 0, none⟩), .agg st.cs, .bool false] w fun e w' => e = .returned (.bool true) ∧ ∃ s' t' x' y', App w w' qa qm s t s' t' x y x' y' := by
  obtain ⟨W, hW⟩ : ∃ W, W = w.alloc (.cells st.cs 46) := ⟨_, rfl⟩
  have HW := Lib.hid hW.symm
  have BW := Lib.hid (show RowKit.Below w.heap.size w W by rw [hW]; exact (RowKit.Below.refl _ w).alloc (Nat.le_refl _) _)
  have HB := Lib.hid (show W.heap[w.heap.size]? = some (.cells st.cs 46 (0, 0)) by rw [hW]; exact heap_alloc_new w _)
  have TW := Lib.hid (h.below BW.out)
  have MU := Lib.hid (⟨fun k hk => (h.a.mu_lt hk).2, fun k hk => (h.m.mu_lt hk).2⟩ : (∀ k, Mu qa s k → k < w.heap.size) ∧ (∀ k, Mu qm t k → k < w.heap.size))
  clear hW h
  have NEW := Lib.hid (show ∀ V, RowKit.Below W.heap.size W V → Calls Try.prog 8 #[.slice st.cA st.cl st.cc] V (NewP W V) from fun V hV =>
    (new_any st.cA st.cl st.cc V hcl (fun j hj => by
      obtain ⟨ad, z, e, hb, hc⟩ := hch j hj
      exact ⟨ad, z, e, (hV.cell (p := ad.add j) (by rw [block_add]; exact Nat.lt_of_lt_of_le hb BW.out.size)).trans ((BW.out.cell (p := ad.add j) (by rw [block_add]; exact hb)).trans hc)⟩)).mono fun e w' ⟨he, ht, hb⟩ => ⟨V.heap.size, he, Nat.le_refl _, ht, hV.trans (hb.mono hV.size), hb⟩)
  have NODE := Lib.hid (fun (V : World) (T : Nat) (hT : Tape T V) => node_any T t.ns.length V hT (by omega) (by omega))
  have LN := Lib.hid (⟨hl1, hl2, hl3⟩ : _ ∧ _ ∧ _)
  have XY := Lib.hid (⟨hx, hy, hg⟩ : _ ∧ _ ∧ _)
  have QM := Lib.hid TW.out.m.lt
  have M0 := Lib.hid (show MB4 qm t y W from TW.out.m.blk)
  unfold Stp.cs at HB
  clear hcl hch hl1 hl2 hl3 hx hy hg
  go_enter Try.func17, Try.ntmps17
  go_upto_region 1 with (fail)
  rw [HW.out]
  have KS := Lib.hid (show ∀ V, RowKit.Below W.heap.size W V → V.cell? ⟨w.heap.size, 4, none⟩ = some (.slice st.cA st.cl st.cc) ∧ V.cell? ⟨qm, 0, none⟩ = some (.slice t.nA t.ns.length t.nc) from fun V hV =>
    ⟨block_cell ((hV.block _ (Array.getElem?_eq_some_iff.1 HB.out).1).trans HB.out) rfl, ((M0.out.up QM.out hV).all).1⟩)
  have BD := Lib.hid (show RowKit.Below W.heap.size W W.drew from ⟨rfl, rfl, rfl, Nat.le_refl _, fun _ _ => rfl⟩)
  have BDA := Lib.hid (fun o => BD.out.alloc (Nat.le_refl W.heap.size) o)
  go_cut [9] (fun s9 wx => Cut1 W w.heap.size t.ns.length s9 wx)
  case first =>
    go_region_held3 (fun w' => w'.cell? ⟨w.heap.size, 4, none⟩ = some (.slice st.cA st.cl st.cc) ∧ w'.cell? ⟨qm, 0, none⟩ = some (.slice t.nA t.ns.length t.nc))
      (exact KS.out _ (by first | exact B2S.out | exact B2A.out _ | exact B2.out | exact B1A.out _ | exact B1.out | exact BDA.out _ | exact BD.out))
      (first
        | (go_at_call 8; refine (NEW.out _ BD.out).mono ?_; rintro e v1 ⟨T, rfl, hT, hTp, hb, hbv⟩; have T1 := Lib.hid hTp; have B1 := Lib.hid hb; have HT := Lib.hid hT; have B1A := Lib.hid (fun o => hb.alloc hb.size o); clear hTp hb hbv hT)
        | (go_at_call 8; refine (NEW.out _ (BDA.out _)).mono ?_; rintro e v1 ⟨T, rfl, hT, hTp, hb, hbv⟩; have T1 := Lib.hid hTp; have B1 := Lib.hid hb; have Z1 := Lib.hid ((hbv.block W.heap.size (by simp)).trans (heap_alloc_new W.drew Z44)); have ZS := Lib.hid (show W.heap.size < v1.heap.size by have := hbv.size; simp at this; omega); have HT := Lib.hid (show W.heap.size ≤ T by simp at hT; omega); have HTN := Lib.hid (show W.heap.size < T by simp at hT; omega); have B1A := Lib.hid (fun o => hb.alloc hb.size o); clear hTp hb hbv hT)
        | (go_at_call 26; refine (NODE.out _ _ T1.out).mono ?_; rintro e v2 ⟨n, rfl, gd, tp, gr, vn, fr⟩; have B2 := Lib.hid (below_node B1.out gr HT.out); have Z2 := Lib.hid ((gr.block W.heap.size ZS.out (by have := HTN.out; intro e; injection e with e; omega)).trans Z1.out); have R := run_storeNode n Z2.out rfl; have B2S := Lib.hid (below_row B2.out (Nat.le_refl W.heap.size) n.cs); have GG := Lib.hid (⟨gd, vn, fr⟩ : _ ∧ _ ∧ _); have GR := Lib.hid gr; clear gd tp gr vn fr)
        | (go_at_call 26; refine (NODE.out _ _ T1.out).mono ?_; rintro e v2 ⟨n, rfl, gd, tp, gr, vn, fr⟩; have B2 := Lib.hid (below_node B1.out gr HT.out); have B2A := Lib.hid (fun o => B2.out.alloc B2.out.size o); have GG := Lib.hid (⟨gd, vn, fr⟩ : _ ∧ _ ∧ _); have GR := Lib.hid gr; clear gd tp gr vn fr)
        | (go_at_call 26; refine (NODE.out _ _ (T1.out.kept (fun k hk => Below.heap_alloc v1 _ k (Nat.lt_of_le_of_lt hk T1.out.lt)) (by simp))).mono ?_; rintro e v2 ⟨n, rfl, gd, tp, gr, vn, fr⟩; have B2 := Lib.hid (below_node (B1A.out _) gr HT.out); have Z2 := Lib.hid ((gr.block v1.heap.size (by simp) (by have := T1.out.lt; intro e; injection e with e; omega)).trans (heap_alloc_new v1 Z44)); have R := run_storeNode n Z2.out rfl; have B2S := Lib.hid (below_row B2.out B1.out.size n.cs); have GG := Lib.hid (⟨gd, vn, fr⟩ : _ ∧ _ ∧ _); have GR := Lib.hid gr; clear gd tp gr vn fr))
    all_goals
      go_wp2_with fail
      go_meet
      first
        | exact cut1_new GG.out.1 GG.out.2.1 (FRs.mono GG.out.2.2 (Nat.le_trans BW.out.size B1.out.size)) B2.out
        | exact cut1_old (B := v1.heap.size) GG.out.1 GG.out.2.1 GG.out.2.2 (Nat.le_trans BW.out.size B1.out.size) ZS.out (Nat.le_refl _) Z2.out B2.out
        | exact cut1_old (B := (v1.alloc Z44).heap.size) GG.out.1 GG.out.2.1 GG.out.2.2 (Nat.le_trans BW.out.size (B1A.out _).size) (by simp) B1.out.size Z2.out B2.out
  case rest =>
    obtain ⟨b, n, rfl, F⟩ := hcut
    clear NEW NODE KS BD BDA
    have e0 := block_cell ((F.out.2.2.2.2.2.block _ (Array.getElem?_eq_some_iff.1 HB.out).1).trans HB.out) (i := 0) (v := .int .i64 st.kd) rfl
    have e1 := block_cell ((F.out.2.2.2.2.2.block _ (Array.getElem?_eq_some_iff.1 HB.out).1).trans HB.out) (i := 1) (v := .int .i64 st.a) rfl
    have e2 := block_cell ((F.out.2.2.2.2.2.block _ (Array.getElem?_eq_some_iff.1 HB.out).1).trans HB.out) (i := 2) (v := .int .i64 st.b) rfl
    have e3 := block_cell ((F.out.2.2.2.2.2.block _ (Array.getElem?_eq_some_iff.1 HB.out).1).trans HB.out) (i := 3) (v := .int .i64 st.c) rfl
    have HBG := Lib.hid (Nat.le_trans BW.out.size F.out.1)
    have HC := Lib.hid ((F.out.2.2.2.2.2.block _ (Array.getElem?_eq_some_iff.1 HB.out).1).trans HB.out)
    have T2 := Lib.hid (TW.out.below F.out.2.2.2.2.2)
    have M2 := Lib.hid (show MB4 qm t y wc from T2.out.m.blk)
    have m0 := M2.out.all.1
    have m1 := M2.out.all.2.1
    obtain ⟨r1, hr1, mo1⟩ := mod_any st.a (t.cs.length + 2) (by omega) (by have := LN.out; omega)
    obtain ⟨r2, hr2, mo2⟩ := mod_any st.b (t.ns.length + 1) (by omega) (by have := LN.out; omega)
    obtain ⟨r3, hr3, mo3⟩ := mod_any st.c (t.ns.length + 1) (by omega) (by have := LN.out; omega)
    obtain ⟨k, hk, mo4⟩ := mod_any st.kd 8 (by omega) (by omega)
    have mo5 : ∃ z : Int, (z = 0 ∨ z = 1 ∨ z = 2 ∨ z = 3 ∨ z = 4 ∨ z = 5 ∨ z = 6 ∨ z = 7) ∧ ∀ w, Calls Try.prog 11 #[.int .i64 st.kd, .int .i64 8] w fun e w' => e = .returned (.int .i64 z) ∧ w = w' := ⟨k, by omega, mo4⟩
    rw [show ((t.cs.length + 2 : Nat) : Int) = (t.cs.length : Int) + 2 by omega] at mo1
    rw [show ((t.ns.length + 1 : Nat) : Int) = (t.ns.length : Int) + 1 by omega] at mo2 mo3
    have j1 : IntKind.i64.wrap ((t.cs.length : Int) + 2) = (t.cs.length : Int) + 2 := by rw [IntKind.wrap_i64]; have := LN.out; omega
    have j2 : IntKind.i64.wrap ((t.ns.length : Int) + 1) = (t.ns.length : Int) + 1 := by rw [IntKind.wrap_i64]; have := LN.out; omega
    have MO1 := Lib.hid mo1
    have MO2 := Lib.hid mo2
    have MO3 := Lib.hid mo3
    have MO4 := Lib.hid mo5
    have HR1 := Lib.hid hr1
    clear mo1 mo2 mo3 mo4 mo5 hr1 hr2 hr3 hk
    go_upto_region 6 with (fail)
    go_quiet ((go_at_call 11; exact (MO1.out _).mono fun _ _ hh => ⟨hh.1, _, hh.2.symm⟩))
    go_upto_region 7 with (fail)
    obtain ⟨V, hV⟩ : ∃ V, V = wc.drewN nq := ⟨_, rfl⟩
    have BV := Lib.hid (show RowKit.Below wc.heap.size wc V by rw [hV]; exact ⟨rfl, rfl, rfl, Nat.le_refl _, fun _ _ => rfl⟩)
    simp only [← hV]
    clear e0 e1 e2 e3 m0 m1 hV
    have e2 := block_cell ((BV.out.block _ (Array.getElem?_eq_some_iff.1 HC.out).1).trans HC.out) (i := 2) (v := .int .i64 st.b) rfl
    have e3 := block_cell ((BV.out.block _ (Array.getElem?_eq_some_iff.1 HC.out).1).trans HC.out) (i := 3) (v := .int .i64 st.c) rfl
    have m0 := (M2.out.up T2.out.m.lt BV.out).all.1
    have TV := Lib.hid (T2.out.below BV.out)
    have NV := Lib.hid (⟨(BV.out.block b (Array.getElem?_eq_some_iff.1 F.out.2.1).1).trans F.out.2.1, F.out.2.2.1.fr (M := fun _ => False) (Fr.of_below BV.out) (fun _ _ e => e) (fun _ _ e => e), F.out.2.2.2.1, F.out.2.2.2.2.1⟩ : V.heap[b]? = some (.cells n.cs 44 (0, 0)) ∧ GoodN V n ∧ VN t.ns.length n ∧ FRs w.heap.size n)
    have WV := Lib.hid (F.out.2.2.2.2.2.trans (BV.out.mono F.out.2.2.2.2.2.size))
    have HV := Lib.hid ((BV.out.block _ (Array.getElem?_eq_some_iff.1 HC.out).1).trans HC.out)
    clear F T2 M2 BV HC
    go_cut [11, 12] (fun s11 s12 wx => s11 = .int .i64 r2 ∧ s12 = .int .i64 r3 ∧ Aside (RowKit.Below V.heap.size V wx))
    case first =>
      go_quiet ((first | (go_at_call 11; exact (MO2.out _).mono fun _ _ hh => ⟨hh.1, _, hh.2.symm⟩) | (go_at_call 11; exact (MO3.out _).mono fun _ _ hh => ⟨hh.1, _, hh.2.symm⟩)))
      go_wp2_with fail
      go_meet
      exact ⟨rfl, rfl, (show RowKit.Below V.heap.size V (V.drewN nq) from ⟨rfl, rfl, rfl, Nat.le_refl _, fun _ _ => rfl⟩)⟩
    case rest =>
      obtain ⟨rfl, rfl, B7⟩ := hcut
      have T7 := Lib.hid (TV.out.below B7.out)
      have N7 := Lib.hid (⟨(B7.out.block b (Array.getElem?_eq_some_iff.1 NV.out.1).1).trans NV.out.1, NV.out.2.1.fr (M := fun _ => False) (Fr.of_below B7.out) (fun _ _ e => e) (fun _ _ e => e), NV.out.2.2.1, NV.out.2.2.2⟩ : wc.heap[b]? = some (.cells n.cs 44 (0, 0)) ∧ GoodN wc n ∧ VN t.ns.length n ∧ FRs w.heap.size n)
      have W7 := Lib.hid (WV.out.trans (B7.out.mono WV.out.size))
      have H7 := Lib.hid ((B7.out.block _ (Array.getElem?_eq_some_iff.1 HV.out).1).trans HV.out)
      have M7 := Lib.hid (show MB4 qm t y wc from T7.out.m.blk)
      clear TV NV WV HV B7 e2 e3 m0
      obtain ⟨w7, hw7⟩ : ∃ w7, w7 = wc := ⟨_, rfl⟩
      simp only [← hw7] at T7 N7 W7 H7 M7 ⊢
      clear hw7
      have e2 := block_cell H7.out (i := 2) (v := .int .i64 st.b) rfl
      have m1 := M7.out.all.2.1
      go_upto_region 8 with (fail)
      go_cut [91] (fun s91 wx => ∃ bb : Bool, s91 = .bool bb ∧ (bb = true → 1 ≤ r1 ∧ r1 ≤ t.cs.length) ∧ wx = w7)
      case first =>
        by_cases g1 : 0 < r1
        · by_cases g2 : r1 ≤ t.cs.length
          · go_wp2_with fail
            all_goals
              go_meet
              first
                | exact ⟨true, rfl, fun _ => ⟨by omega, by omega⟩, rfl⟩
                | exact ⟨false, rfl, (fun e => by cases e), rfl⟩
          · go_wp2_with fail
            all_goals
              go_meet
              exact ⟨false, rfl, (fun e => by cases e), rfl⟩
        · go_wp2_with fail
          all_goals
            go_meet
            exact ⟨false, rfl, (fun e => by cases e), rfl⟩
      case rest =>
        obtain ⟨bb, rfl, hbb, rfl⟩ := hcut
        have HBB := Lib.hid hbb
        clear hbb e2 m1
        go_upto_if 91 with (fail)
        go_cut [11] (fun s11 wx => ∃ v : Int, s11 = .int .i64 v ∧ wx = wc)
        case first =>
          cases bb with
          | false =>
            go_wp2_with fail
            go_meet
            exact ⟨_, rfl, rfl⟩
          | true =>
            have hb := HBB.out rfl
            obtain ⟨g, hgc⟩ := T7.out.m.cel_at (by omega)
            obtain ⟨kk, hkk⟩ : ∃ kk : Nat, r1 = kk + 1 := ⟨r1 - 1, by omega⟩
            subst hkk
            have hkl : kk < t.cs.length := by omega
            obtain ⟨v0, hv0⟩ : ∃ v0, t.cs[kk]? = some v0 := ⟨_, List.getElem?_eq_getElem hkl⟩
            have e1 := (T7.out.m.cell_ hgc hv0).1
            have d1 := M7.out.all.2.1
            rw [hgc] at d1
            have hkn : (kk : Int) < (t.cs.length : Int) := by omega
            have hk0 : (0 : Int) ≤ (kk : Int) := by omega
            have j3 : IntKind.i64.wrap (kk : Int) = (kk : Int) := by rw [IntKind.wrap_i64]; have := LN.out; omega
            have j4 : IntKind.i64.wrap ((kk : Int) + 1 - 1) = (kk : Int) := by rw [IntKind.wrap_i64]; have := LN.out; omega
            clear hb hgc hkl hv0
            go_wp2_with fail
            go_meet
            exact ⟨_, rfl, rfl⟩
        case rest =>
          obtain ⟨v, rfl, rfl⟩ := hcut
          have e0 := block_cell H7.out (i := 0) (v := .int .i64 st.kd) rfl
          obtain ⟨z, hz, mz⟩ := MO4.out
          have MZ := Lib.hid (fun w => mz w)
          clear mz
          go_upto_region 11 with (go_at_call 11; refine (MZ.out _).mono ?_; rintro e w' ⟨rfl, rfl⟩)
          clear e0
          have BWC := Lib.hid (BW.out.trans (W7.out.mono BW.out.size))
          rcases hz with rfl | rfl | rfl | rfl | rfl | rfl | rfl | rfl
          ·
            go_upto_region 13 with (fail)
            have BD8 := Lib.hid (show RowKit.Below wc.heap.size wc wc.drew from ⟨rfl, rfl, rfl, Nat.le_refl _, fun _ _ => rfl⟩)
            have T8 := Lib.hid (T7.out.below BD8.out)
            have G8 := Lib.hid (N7.out.2.1.fr (M := fun _ => False) (Fr.of_below BD8.out) (fun _ _ e => e) (fun _ _ e => e))
            have B8 := Lib.hid (BWC.out.trans (BD8.out.mono BWC.out.size))
            have HBK := Lib.hid (show wc.drew.heap[b]? = some (.cells n.cs 44 (0, 0)) from N7.out.1)
            have HBL := Lib.hid (Array.getElem?_eq_some_iff.1 N7.out.1).1
            have LE := Lib.hid (show s.ns.length = t.ns.length from T7.out.ns.1.symm)
            have AVA := Lib.hid (⟨fun ad e hm => by have := N7.out.2.2.2.1 ad e; have := MU.out.1 _ hm; omega, fun ad e hm => by have := N7.out.2.2.2.2 ad e; have := MU.out.1 _ hm; omega⟩ : Av (Mu qa s) n.bA ∧ Av (Mu qa s) n.pA)
            have AVM := Lib.hid (⟨fun ad e hm => by have := N7.out.2.2.2.1 ad e; have := MU.out.2 _ hm; omega, fun ad e hm => by have := N7.out.2.2.2.2 ad e; have := MU.out.2 _ hm; omega⟩ : Av (Mu qm t) n.bA ∧ Av (Mu qm t) n.pA)
            have AA := Lib.hid (aalloc_any 0 qa s x n v wc.drew T8.out.a G8.out.rd G8.out.ba G8.out.pa (by have := LN.out; have := LE.out; omega) (by have := LN.out; have := T7.out.cs; rw [this]; omega))
            have lv := run_loadNode HBK.out
            go_region_held3 (fun w' => Sem.run Try.prog (loadNode (.pointer (some ⟨b, 0, none⟩))) w' = .ok (.agg n.cs) w')
              (exact run_loadNode (by first | exact HB2.out | exact HB1.out | exact HBK.out))
              (first
                | (go_at_call 16; refine AA.out.mono ?_; rintro e u1 ⟨s1, he, hA, ho, hf, hm⟩; rw [LE.out] at he; obtain rfl := he; have A1 := Lib.hid hA; have O1 := Lib.hid ho; have D1 := Lib.hid (did_alloc (T := 77) hA hf hm); have HB1 := Lib.hid ((hf.block b HBL.out (fun hm => by have := MU.out.1 b hm; have := HBG.out; omega)).trans HBK.out); have G9 := Lib.hid (G8.out.fr hf AVA.out.1 AVA.out.2); have AB := Lib.hid (ralloc_any 0 qm t y n v u1 (T8.out.mid D1.out) G9.out.rd G9.out.ba G9.out.pa AVM.out.1 AVM.out.2 (by have := LN.out; omega) (by have := LN.out; omega)); clear hA ho hf hm)
                | (go_at_call 32; refine AB.out.mono ?_; rintro e u2 ⟨t1, rfl, hA, ho, hf, hm⟩; have A2 := Lib.hid hA; have O2 := Lib.hid ho; have D2 := Lib.hid (did_alloc (T := 77) hA hf hm); have HB2 := Lib.hid ((hf.block b (Nat.lt_of_lt_of_le HBL.out D1.out.fr.size) (fun hm => by have := MU.out.2 b hm; have := HBG.out; omega)).trans HB1.out); clear hA ho hf hm))
            all_goals
              go_wp2
              go_ret
              exact ⟨rfl, s1, t1, x, y, App.mk_ B8.out T8.out O1.out D1.out O2.out D2.out (alloced_same T8.out A1.out A2.out).1 (alloced_same T8.out A1.out A2.out).2.1 (alloced_same T8.out A1.out A2.out).2.2 (went_alloc A1.out)⟩
          ·
            go_upto_region 13 with (fail)
            have BD8 := Lib.hid (show RowKit.Below wc.heap.size wc wc.drew from ⟨rfl, rfl, rfl, Nat.le_refl _, fun _ _ => rfl⟩)
            have T8 := Lib.hid (T7.out.below BD8.out)
            have G8 := Lib.hid (N7.out.2.1.fr (M := fun _ => False) (Fr.of_below BD8.out) (fun _ _ e => e) (fun _ _ e => e))
            have B8 := Lib.hid (BWC.out.trans (BD8.out.mono BWC.out.size))
            have HBK := Lib.hid (show wc.drew.heap[b]? = some (.cells n.cs 44 (0, 0)) from N7.out.1)
            have HBL := Lib.hid (Array.getElem?_eq_some_iff.1 N7.out.1).1
            have LE := Lib.hid (show s.ns.length = t.ns.length from T7.out.ns.1.symm)
            have AVA := Lib.hid (⟨fun ad e hm => by have := N7.out.2.2.2.1 ad e; have := MU.out.1 _ hm; omega, fun ad e hm => by have := N7.out.2.2.2.2 ad e; have := MU.out.1 _ hm; omega⟩ : Av (Mu qa s) n.bA ∧ Av (Mu qa s) n.pA)
            have AVM := Lib.hid (⟨fun ad e hm => by have := N7.out.2.2.2.1 ad e; have := MU.out.2 _ hm; omega, fun ad e hm => by have := N7.out.2.2.2.2 ad e; have := MU.out.2 _ hm; omega⟩ : Av (Mu qm t) n.bA ∧ Av (Mu qm t) n.pA)
            have AA := Lib.hid (aalloc_any 0 qa s x n v wc.drew T8.out.a G8.out.rd G8.out.ba G8.out.pa (by have := LN.out; have := LE.out; omega) (by have := LN.out; have := T7.out.cs; rw [this]; omega))
            have lv := run_loadNode HBK.out
            go_region_held3 (fun w' => Sem.run Try.prog (loadNode (.pointer (some ⟨b, 0, none⟩))) w' = .ok (.agg n.cs) w')
              (exact run_loadNode (by first | exact HB2.out | exact HB1.out | exact HBK.out))
              (first
                | (go_at_call 16; refine AA.out.mono ?_; rintro e u1 ⟨s1, he, hA, ho, hf, hm⟩; rw [LE.out] at he; obtain rfl := he; have A1 := Lib.hid hA; have O1 := Lib.hid ho; have D1 := Lib.hid (did_alloc (T := 77) hA hf hm); have HB1 := Lib.hid ((hf.block b HBL.out (fun hm => by have := MU.out.1 b hm; have := HBG.out; omega)).trans HBK.out); have G9 := Lib.hid (G8.out.fr hf AVA.out.1 AVA.out.2); have AB := Lib.hid (ralloc_any 0 qm t y n v u1 (T8.out.mid D1.out) G9.out.rd G9.out.ba G9.out.pa AVM.out.1 AVM.out.2 (by have := LN.out; omega) (by have := LN.out; omega)); clear hA ho hf hm)
                | (go_at_call 32; refine AB.out.mono ?_; rintro e u2 ⟨t1, rfl, hA, ho, hf, hm⟩; have A2 := Lib.hid hA; have O2 := Lib.hid ho; have D2 := Lib.hid (did_alloc (T := 77) hA hf hm); have HB2 := Lib.hid ((hf.block b (Nat.lt_of_lt_of_le HBL.out D1.out.fr.size) (fun hm => by have := MU.out.2 b hm; have := HBG.out; omega)).trans HB1.out); clear hA ho hf hm))
            all_goals
              go_wp2
              go_ret
              exact ⟨rfl, s1, t1, x, y, App.mk_ B8.out T8.out O1.out D1.out O2.out D2.out (alloced_same T8.out A1.out A2.out).1 (alloced_same T8.out A1.out A2.out).2.1 (alloced_same T8.out A1.out A2.out).2.2 (went_alloc A1.out)⟩
          ·
            have CA := Lib.hid (newCell_a 0 qa s x v wc T7.out.a (by have := LN.out; have := T7.out.cs; rw [this]; omega))
            go_wp2_with (first
              | (go_at_call 30; refine CA.out.mono ?_; rintro e u1 ⟨g1, cap1, he, ho, hf, hm⟩; rw [T7.out.cs] at he; obtain rfl := he; have O1 := Lib.hid ho; have D1 := Lib.hid (did_newC hf hm); have CB := Lib.hid (newCell_m 0 qm t y v u1 (T7.out.mid D1.out) (by have := LN.out; omega)); clear ho hf hm)
              | (go_at_call 38; refine CB.out.mono ?_; rintro e u2 ⟨g2, cap2, rfl, ho, hf, hm⟩; have O2 := Lib.hid ho; have D2 := Lib.hid (did_newC hf hm); clear ho hf hm))
            go_ret
            exact ⟨rfl, _, _, x, y, App.mk_ BWC.out T7.out O1.out D1.out O2.out D2.out T7.out.ns (show s.cs ++ [v] = t.cs ++ [v] by rw [T7.out.cs]) T7.out.gen went_newC⟩
          ·
            have CA := Lib.hid (newgen_any 0 qa s x wc T7.out.a (by rw [T7.out.gen]; have := XY.out; omega))
            go_wp2_with (first
              | (go_at_call 13; refine CA.out.mono ?_; rintro e u1 ⟨he, ho, hf⟩; rw [T7.out.gen] at he; obtain rfl := he; have O1 := Lib.hid ho; have D1 := Lib.hid (did_gen (s := s) (g := s.gen + 1) hf); have CB := Lib.hid (rnewgen_any 0 qm t y u1 (T7.out.mid D1.out) (by have := XY.out; omega)); clear ho hf)
              | (go_at_call 39; refine CB.out.mono ?_; rintro e u2 ⟨rfl, ho, hf⟩; have O2 := Lib.hid ho; have D2 := Lib.hid (did_gen (s := t) (g := t.gen + 1) hf); clear ho hf))
            go_ret
            exact ⟨rfl, _, _, x, y, App.mk_ BWC.out T7.out O1.out D1.out O2.out D2.out T7.out.ns T7.out.cs (show s.gen + 1 = t.gen + 1 by rw [T7.out.gen]) went_gen⟩
          ·
            have CA := Lib.hid (load_any 0 qa s x r1 wc T7.out.a (by have := XY.out; omega))
            go_wp2_with (first
              | (go_at_call 15; refine CA.out.mono ?_; rintro e u1 ⟨he, ho, hf⟩; rw [cell_eq T7.out.cs] at he; obtain rfl := he; have O1 := Lib.hid ho; have D1 := Lib.hid (did_self (s := s) hf); have CB := Lib.hid (rload_any 0 qm t y r1 u1 (T7.out.mid D1.out) (by have := XY.out; omega)); clear ho hf)
              | (go_at_call 40; refine CB.out.mono ?_; rintro e u2 ⟨rfl, ho, hf⟩; have O2 := Lib.hid ho; have D2 := Lib.hid (did_self (s := t) hf); clear ho hf))
            go_ret
            exact ⟨rfl, _, _, x + 1, y + 1, App.mk_ BWC.out T7.out O1.out D1.out O2.out D2.out T7.out.ns T7.out.cs T7.out.gen went_self.1⟩
          ·
            have CA := Lib.hid (cas_any 0 qa s x r1 v r3 wc T7.out.a (by have := XY.out; omega))
            go_wp2_with (first
              | (go_at_call 14; refine CA.out.mono ?_; rintro e u1 ⟨he, ho, hf⟩; rw [casB_eq T7.out.cs] at he; obtain rfl := he; have O1 := Lib.hid ho; have D1 := Lib.hid (did_cas (s := s) (c := r1) (old := v) (new := r3) hf); have CB := Lib.hid (rcas_any 0 qm t y r1 v r3 u1 (T7.out.mid D1.out) (by have := XY.out; omega)); clear ho hf)
              | (go_at_call 41; refine CB.out.mono ?_; rintro e u2 ⟨rfl, ho, hf⟩; have O2 := Lib.hid ho; have D2 := Lib.hid (did_cas (s := t) (c := r1) (old := v) (new := r3) hf); clear ho hf))
            go_ret
            exact ⟨rfl, _, _, x + 1, y + 1, App.mk_ BWC.out T7.out O1.out D1.out O2.out D2.out (by rw [(casS_ns s _ _ _).1, (casS_ns t _ _ _).1]; exact T7.out.ns) (casS_cs T7.out.cs _ _ _) (by rw [(casS_ns s _ _ _).2, (casS_ns t _ _ _).2]; exact T7.out.gen) went_cas⟩
          ·
            have CA := Lib.hid (cas_any 0 qa s x r1 v r3 wc T7.out.a (by have := XY.out; omega))
            go_wp2_with (first
              | (go_at_call 14; refine CA.out.mono ?_; rintro e u1 ⟨he, ho, hf⟩; rw [casB_eq T7.out.cs] at he; obtain rfl := he; have O1 := Lib.hid ho; have D1 := Lib.hid (did_cas (s := s) (c := r1) (old := v) (new := r3) hf); have CB := Lib.hid (rcas_any 0 qm t y r1 v r3 u1 (T7.out.mid D1.out) (by have := XY.out; omega)); clear ho hf)
              | (go_at_call 41; refine CB.out.mono ?_; rintro e u2 ⟨rfl, ho, hf⟩; have O2 := Lib.hid ho; have D2 := Lib.hid (did_cas (s := t) (c := r1) (old := v) (new := r3) hf); clear ho hf))
            go_ret
            exact ⟨rfl, _, _, x + 1, y + 1, App.mk_ BWC.out T7.out O1.out D1.out O2.out D2.out (by rw [(casS_ns s _ _ _).1, (casS_ns t _ _ _).1]; exact T7.out.ns) (casS_cs T7.out.cs _ _ _) (by rw [(casS_ns s _ _ _).2, (casS_ns t _ _ _).2]; exact T7.out.gen) went_cas⟩
          ·
            go_wp2_with fail
            go_ret
            exact ⟨rfl, s, t, x, y, App.mk_ BWC.out T7.out T7.out.a (Did.self wc qa s) T7.out.m (Did.self wc qm t) T7.out.ns T7.out.cs T7.out.gen went_self.2⟩

end Go.Proofs.Ytcmnmimkjkpimaa
