/-
  The law's own walk.
-/
import Derived.Test.YtcmnmimkjkpimaaLOfF
import Derived.Test.YtcmnmimkjkpimaaLOfG
import Derived.Test.YtcmnmimkjkpimaaLArS
import Derived.Lib.Hide
import Derived.Deep.RegionHeld3
import Derived.Deep.DeepCutAuto
set_option linter.unusedVariables false
set_option maxRecDepth 100000
namespace Go.Proofs.Ytcmnmimkjkpimaa
open Go.Shelf Go.RowKit Go.Lib Go.Sort

theorem rg_of {n : Nd} (hv : validN n = true) (hc : ∀ c, cellOf n = some c → I64 c) : Rg n := by
  obtain ⟨kind, gen, main, bm, bA, bc, bs, hash, key, val, pA, pc, ps, prev, old, exp, new, status⟩ := n
  have hz : I64 0 := by unfold I64; omega
  unfold validN at hv
  rw [Bool.and_eq_true] at hv
  have he := hv.1
  by_cases k2 : kind = 2
  · subst k2
    have h1 := hc main rfl
    simp [eqN, own, Nd.zero] at he
    simp [Rg, he, h1, hz]
  by_cases k8 : kind = 8
  · subst k8
    have h1 := hc status rfl
    simp [eqN, own, Nd.zero] at he
    simp [Rg, he, h1, hz]
  by_cases k3 : kind = 3
  · subst k3
    have h1 := hc prev rfl
    simp [eqN, own, Nd.zero] at he
    simp [Rg, he, h1, hz]
  by_cases k5 : kind = 5
  · subst k5
    have h1 := hc prev rfl
    simp [eqN, own, Nd.zero] at he
    simp [Rg, he, h1, hz]
  by_cases k6 : kind = 6
  · subst k6
    have h1 := hc prev rfl
    simp [eqN, own, Nd.zero] at he
    simp [Rg, he, h1, hz]
  by_cases k4 : kind = 4
  · subst k4
    simp [eqN, own, Nd.zero] at he
    simp [Rg, he, hz]
  by_cases k7 : kind = 7
  · subst k7
    simp [eqN, own, Nd.zero] at he
    simp [Rg, he, hz]
  · simp [eqN, own, Nd.zero, k2, k3, k4, k5, k6, k7, k8] at he
    simp [Rg, he, hz]
theorem GS.rg {lo : Nat} {s : Sd} (h : GS lo s) (hl : s.cs.length ≤ 9) : ∀ n ∈ s.ns, Rg n := fun n hn => by
  have h1 := (h.ok n hn).1
  unfold nodeP at h1
  rw [Bool.and_eq_true] at h1
  refine rg_of h1.1 fun c hc => ?_
  have hm : c ∈ s.ns.filterMap cellOf := List.mem_filterMap.2 ⟨n, hn, hc⟩
  rw [h.own] at hm
  obtain ⟨i, hi, rfl⟩ := List.mem_map.1 hm
  have := List.mem_range.1 hi
  unfold I64
  omega
def MemO (B0 : Nat) (w : World) (e : Ending) (w' : World) : Prop := ∃ q s, e = .returned (.pointer (some ⟨q, 0, none⟩)) ∧ MB q s w' ∧ q < w'.heap.size ∧ SRd w' w'.heap.size s ∧ (1 ≤ s.ns.length ∧ s.ns.length ≤ 9 ∧ s.cs.length ≤ 9 ∧ (s.nA = none → s.nc = 0) ∧ (∀ n ∈ s.ns, Rg n)) ∧ Below B0 w w'
theorem mem_o (T : Nat) (w : World) (h : Tape T w) : Calls Try.prog 9 #[.pointer (some ⟨T, 0, none⟩)] w (MemO T w) :=
  (mem_any T w h).mono fun e w' ⟨q, s, he, hob, hgs, h1, h2, hg⟩ => by
    have hl : 1 ≤ s.ns.length := by obtain ⟨y, hy, _⟩ := hgs.m0; have := (List.getElem?_eq_some_iff.1 hy).1; omega
    refine ⟨q, s, he, hob.blk, hob.lt, hob.srd, ⟨hl, h1, h2, fun hn => ?_, hgs.rg h2⟩, below_of_grown hg (Nat.le_refl _) (Nat.le_of_lt h.lt)⟩
    obtain ⟨g, e1, _⟩ := hob.nod.open3 hl
    rw [hn] at e1; cases e1
theorem IsState.srd {w : World} {s : Sd} (h : IsState w 1048576 s) : SRd w w.heap.size s :=
  ⟨h.n, h.c, h.ca, fun n hn => ⟨⟨(h.l n hn).1.1.r, (h.l n hn).1.1.p, (h.l n hn).1.1.bm, by have := (h.l n hn).2.1; omega, by have := (h.l n hn).2.2; omega⟩, (h.l n hn).1.1.ba, (h.l n hn).1.1.pa⟩, by have := h.nl; omega, by have := h.cl; omega⟩
theorem SRd.upto {w w' : World} {s : Sd} (h : SRd w w.heap.size s) (hb : Below w.heap.size w w') : SRd w' w'.heap.size s := (h.below hb).more hb.size

theorem sameL_rfl (l : List Nd) : SameL l l := ⟨rfl, fun i x y hx hy => by rw [hx] at hy; injection hy with hy; subst hy; exact sameN.refl _⟩
theorem sameS_new {u : Sd} {g g' : Nat} (h : SameS u (newS g)) : SameS u (newS g') := by
  obtain ⟨h1, h2, h3, h4⟩ := h
  exact ⟨h1, h2, h3, h4⟩
theorem below_keep {B : Nat} {w w' : World} (h : Below B w w') {k : Nat} (hk : k < B) {o : Obj} (ho : w.heap[k]? = some o) : w'.heap[k]? = some o := (h.block k hk).trans ho
theorem s_of {w w' : World} {q : Nat} {s sm : Sd} {raw : Nd} (h1 : w'.heap[w.heap.size]? = some (.cells s.vals 35 (0, 0))) (h2 : MB q sm w') (h3 : w'.heap[w.heap.size + 1]? = some (.cells raw.cs 44 (0, 0))) : w'.cell? ⟨w.heap.size, 0, none⟩ = some (.slice s.nA s.ns.length s.nc) ∧ w'.cell? ⟨w.heap.size, 1, none⟩ = some (.slice s.cA s.cs.length s.cc) ∧ w'.cell? ⟨w.heap.size, 2, none⟩ = some (.int .i64 s.gen) ∧ w'.cell? ⟨q, 0, none⟩ = some (.slice sm.nA sm.ns.length sm.nc) ∧ w'.cell? ⟨q, 1, none⟩ = some (.slice sm.cA sm.cs.length sm.cc) ∧ w'.cell? ⟨q, 2, none⟩ = some (.int .i64 sm.gen) ∧ w'.cell? ⟨w.heap.size + 1, 0, none⟩ = some (.int .i64 raw.kind) ∧ w'.cell? ⟨w.heap.size + 1, 1, none⟩ = some (.int .i64 raw.gen) ∧ w'.cell? ⟨w.heap.size + 1, 2, none⟩ = some (.int .i64 raw.main) ∧ w'.cell? ⟨w.heap.size + 1, 3, none⟩ = some (.int .u64 raw.bm) ∧ w'.cell? ⟨w.heap.size + 1, 4, none⟩ = some (.slice raw.bA raw.bs.length raw.bc) ∧ w'.cell? ⟨w.heap.size + 1, 5, none⟩ = some (.int .u64 raw.hash) ∧ w'.cell? ⟨w.heap.size + 1, 6, none⟩ = some (.string raw.key) ∧ w'.cell? ⟨w.heap.size + 1, 7, none⟩ = some (.int .u64 raw.val) ∧ w'.cell? ⟨w.heap.size + 1, 8, none⟩ = some (.slice raw.pA raw.ps.length raw.pc) ∧ w'.cell? ⟨w.heap.size + 1, 9, none⟩ = some (.int .i64 raw.prev) ∧ w'.cell? ⟨w.heap.size + 1, 10, none⟩ = some (.int .i64 raw.old) ∧ w'.cell? ⟨w.heap.size + 1, 11, none⟩ = some (.int .i64 raw.exp) ∧ w'.cell? ⟨w.heap.size + 1, 12, none⟩ = some (.int .i64 raw.new) ∧ w'.cell? ⟨w.heap.size + 1, 13, none⟩ = some (.int .i64 raw.status) :=
  ⟨block_cell h1 (i := 0) rfl, block_cell h1 (i := 1) rfl, block_cell h1 (i := 2) rfl, h2.at0, h2.at1, h2.at2, block_cell h3 (i := 0) rfl, block_cell h3 (i := 1) rfl, block_cell h3 (i := 2) rfl, block_cell h3 (i := 3) rfl, block_cell h3 (i := 4) rfl, block_cell h3 (i := 5) rfl, block_cell h3 (i := 6) rfl, block_cell h3 (i := 7) rfl, block_cell h3 (i := 8) rfl, block_cell h3 (i := 9) rfl, block_cell h3 (i := 10) rfl, block_cell h3 (i := 11) rfl, block_cell h3 (i := 12) rfl, block_cell h3 (i := 13) rfl⟩
def ChP2 (w : World) (e : Ending) (w' : World) : Prop := ∃ t : Sd, e = .returned (.agg #[.slice t.nA t.ns.length t.nc, .slice t.cA t.cs.length t.cc, .int .i64 t.gen]) ∧ SRd w' w'.heap.size t ∧ (∀ n ∈ t.ns, Rg n) ∧ Below w.heap.size w w'
theorem changed_d (s : Sd) (raw : Nd) (kind v : Int) (w : World) (h : SRd w w.heap.size s) (hnum : 1 ≤ s.ns.length ∧ s.ns.length ≤ 9 ∧ s.cs.length ≤ 9 ∧ (s.nA = none → s.nc = 0) ∧ (∀ n ∈ s.ns, Rg n))
    (hraw : NRd w w.heap.size raw ∧ (raw.bA = none → raw.bc = 0) ∧ (raw.pA = none → raw.pc = 0)) (hrr : Rg raw) :
    Calls Try.prog 20 #[.agg #[.slice s.nA s.ns.length s.nc, .slice s.cA s.cs.length s.cc, .int .i64 s.gen], .int .i64 kind, .int .i64 v, .agg raw.cs] w.drew (ChP2 w) := by
  have hd : Below w.heap.size w w.drew := bdrew (Below.refl _ w)
  refine (changed_any s raw kind v w.drew (h.upto hd) ⟨hnum.1, Nat.le_trans hnum.2.1 (by omega)⟩ (Nat.le_trans hnum.2.2.1 (by omega)) hnum.2.2.2.1 hnum.2.2.2.2 ⟨(hraw.1.below hd).more hd.size, hraw.2⟩ hrr).mono ?_
  rintro e w' ⟨t, he, h1, h2, h3⟩
  exact ⟨t, he, h1, h2, hd.trans (h3.mono (Nat.le_refl _))⟩

set_option maxHeartbeats 8000000 in
theorem arenaOf_walk (s : Sd) (a1 : Option Addr) (len1 cap1 : Nat) (kind v : Int) (raw : Nd) (w : World) (w0 : IsState w 1048576 s) (w1 : IsInts w a1 len1) (w4 : (IsNode w raw ∧ Rg raw) ∧ raw.bs.length ≤ 1048576 ∧ raw.ps.length ≤ 1048576) :
    Calls Try.prog 4 #[.agg s.vals, .slice a1 len1 cap1, .int .i64 kind, .int .i64 v, .agg raw.cs] w fun e w' => e = .returned (.bool true) ∧ Below w.heap.size w w' := by
  have mixed := mixedOrders
  obtain ⟨W, hW⟩ : ∃ W, W = (w.alloc (.cells s.vals 35)).alloc (.cells raw.cs 44) := ⟨_, rfl⟩
  have HSB := Lib.hid (show W.heap[w.heap.size]? = some (.cells s.vals 35 (0, 0)) by rw [hW]; exact alloc_keep (heap_alloc_new w _))
  have HRB := Lib.hid (show W.heap[w.heap.size + 1]? = some (.cells raw.cs 44 (0, 0)) by rw [hW]; exact alloc_at (by simp))
  have GW := Lib.hid (show Below w.heap.size w W by rw [hW]; exact ((Below.refl _ w).alloc (Nat.le_refl _) _).alloc (by simp) _)
  have HWS := Lib.hid (show W.heap.size = w.heap.size + 2 by rw [hW]; simp)
  have HW := Lib.hid hW.symm
  have H := Lib.hid w0.srd
  have HRG := Lib.hid (fun n hn => (w0.l n hn).1.2 : ∀ n ∈ s.ns, Rg n)
  have HRAW := Lib.hid (⟨⟨w4.1.1.r, w4.1.1.p, w4.1.1.bm, by have := w4.2.1; omega, by have := w4.2.2; omega⟩, w4.1.1.ba, w4.1.1.pa⟩ : NRd w w.heap.size raw ∧ (raw.bA = none → raw.bc = 0) ∧ (raw.pA = none → raw.pc = 0))
  have HRR := Lib.hid w4.1.2
  have NW := Lib.hid (new_c a1 len1 cap1 W w1.1 (fun j hj => by
    obtain ⟨ad, z, e, hc⟩ := w1.2 j hj
    exact ⟨ad, z, e, (GW.out.cell (block_of_cell hc)).trans hc⟩))
  unfold Sd.vals at HW
  unfold Nd.cs at HW
  unfold Sd.vals Nd.cs
  clear hW w0 w1 w4
  go_enter Try.func4, Try.ntmps4
  go_upto_region 1 with (fail)
  rw [HW.out]
  go_upto_region 2 with (first
    | (go_at_call 9; refine MM.out.mono ?_; rintro e u2 ⟨q, sm, rfl, hmb, hql, hsr, hnum, hb⟩; have M2 := Lib.hid hmb; have Q2 := Lib.hid hql; have S2 := Lib.hid hsr; have N2 := Lib.hid hnum; have B2 := Lib.hid hb; clear hmb hql hsr hnum hb)
    | (go_at_call 8; refine NW.out.mono ?_; rintro e u1 ⟨rfl, hT, hb⟩; have B1 := Lib.hid hb; have MM := Lib.hid (mem_o W.heap.size u1 hT); clear hT hb))
  have hws := HWS.out
  have B12 := Lib.hid (B1.out.trans B2.out)
  have S1 := Lib.hid ((B12.out.block _ (by omega)).trans HSB.out)
  have R1 := Lib.hid ((B12.out.block _ (by omega)).trans HRB.out)
  have CH := Lib.hid (changed_d sm raw kind v u2 S2.out N2.out (by have hb := GW.out.trans (B12.out.mono GW.out.size); exact ⟨(HRAW.out.1.below hb).more hb.size, HRAW.out.2⟩) HRR.out)
  have L0 := Lib.hid (show w.heap.size < u2.heap.size ∧ w.heap.size + 1 < u2.heap.size by have := B12.out.size; omega)
  unfold Nd.cs at CH
  clear hws NW MM HW HSB HRB
  go_region_held3 (fun w' => w'.cell? ⟨w.heap.size, 0, none⟩ = some (.slice s.nA s.ns.length s.nc) ∧ w'.cell? ⟨w.heap.size, 1, none⟩ = some (.slice s.cA s.cs.length s.cc) ∧ w'.cell? ⟨w.heap.size, 2, none⟩ = some (.int .i64 s.gen) ∧ w'.cell? ⟨q, 0, none⟩ = some (.slice sm.nA sm.ns.length sm.nc) ∧ w'.cell? ⟨q, 1, none⟩ = some (.slice sm.cA sm.cs.length sm.cc) ∧ w'.cell? ⟨q, 2, none⟩ = some (.int .i64 sm.gen) ∧ w'.cell? ⟨w.heap.size + 1, 0, none⟩ = some (.int .i64 raw.kind) ∧ w'.cell? ⟨w.heap.size + 1, 1, none⟩ = some (.int .i64 raw.gen) ∧ w'.cell? ⟨w.heap.size + 1, 2, none⟩ = some (.int .i64 raw.main) ∧ w'.cell? ⟨w.heap.size + 1, 3, none⟩ = some (.int .u64 raw.bm) ∧ w'.cell? ⟨w.heap.size + 1, 4, none⟩ = some (.slice raw.bA raw.bs.length raw.bc) ∧ w'.cell? ⟨w.heap.size + 1, 5, none⟩ = some (.int .u64 raw.hash) ∧ w'.cell? ⟨w.heap.size + 1, 6, none⟩ = some (.string raw.key) ∧ w'.cell? ⟨w.heap.size + 1, 7, none⟩ = some (.int .u64 raw.val) ∧ w'.cell? ⟨w.heap.size + 1, 8, none⟩ = some (.slice raw.pA raw.ps.length raw.pc) ∧ w'.cell? ⟨w.heap.size + 1, 9, none⟩ = some (.int .i64 raw.prev) ∧ w'.cell? ⟨w.heap.size + 1, 10, none⟩ = some (.int .i64 raw.old) ∧ w'.cell? ⟨w.heap.size + 1, 11, none⟩ = some (.int .i64 raw.exp) ∧ w'.cell? ⟨w.heap.size + 1, 12, none⟩ = some (.int .i64 raw.new) ∧ w'.cell? ⟨w.heap.size + 1, 13, none⟩ = some (.int .i64 raw.status))
    (exact s_of (by (repeat (first | with_reducible exact S1.out | with_reducible refine drew_keep ?_ | with_reducible refine alloc_keep ?_ | with_reducible refine below_keep BT.out L0.out.1 ?_))) (by (unfold MB; (repeat (first | exact M2.out | with_reducible refine drew_keep ?_ | with_reducible refine alloc_keep ?_ | with_reducible refine below_keep BT.out Q2.out ?_)))) (by (repeat (first | with_reducible exact R1.out | with_reducible refine drew_keep ?_ | with_reducible refine alloc_keep ?_ | with_reducible refine below_keep BT.out L0.out.2 ?_))))
    (first
      | (go_at_call 20; refine CH.out.mono ?_; rintro e V ⟨t, rfl, hst, hrt, hbt⟩; have ST := Lib.hid hst; have RT := Lib.hid hrt; have BT := Lib.hid hbt; clear hst hrt hbt))
  obtain ⟨U, hU⟩ : ∃ U, U = V.alloc (.cells #[.slice s.nA s.ns.length s.nc, .slice s.cA s.cs.length s.cc, .int .i64 s.gen, .slice sm.nA sm.ns.length sm.nc, .slice sm.cA sm.cs.length sm.cc, .int .i64 sm.gen, .slice t.nA t.ns.length t.nc, .slice t.cA t.cs.length t.cc, .int .i64 t.gen] 35) := ⟨_, rfl⟩
  rw [← hU]
  have hVU : Below V.heap.size V U := by rw [hU]; exact (Below.refl _ V).alloc (Nat.le_refl _) _
  have hwV : Below w.heap.size w V := GW.out.trans ((B12.out.trans (BT.out.mono B12.out.size)).mono GW.out.size)
  have BU := Lib.hid (hwV.trans (hVU.mono hwV.size))
  have GL := Lib.hid (show V.heap.size < U.heap.size by rw [hU]; simp)
  have XS := Lib.hid (show ∀ i, i < 3 → ∃ x : Sd, U.cell? ⟨V.heap.size, i * 3, none⟩ = some (.slice x.nA x.ns.length x.nc) ∧ U.cell? ⟨V.heap.size, i * 3 + 1, none⟩ = some (.slice x.cA x.cs.length x.cc) ∧ U.cell? ⟨V.heap.size, i * 3 + 2, none⟩ = some (.int .i64 x.gen) ∧ SRd U U.heap.size x ∧ ∀ n ∈ x.ns, Rg n from fun i hi => by
    have hb : U.heap[V.heap.size]? = some (.cells #[.slice s.nA s.ns.length s.nc, .slice s.cA s.cs.length s.cc, .int .i64 s.gen, .slice sm.nA sm.ns.length sm.nc, .slice sm.cA sm.cs.length sm.cc, .int .i64 sm.gen, .slice t.nA t.ns.length t.nc, .slice t.cA t.cs.length t.cc, .int .i64 t.gen] 35 (0, 0)) := by rw [hU]; exact heap_alloc_new V _
    rcases (show i = 0 ∨ i = 1 ∨ i = 2 by omega) with rfl | rfl | rfl
    · exact ⟨s, block_cell hb (i := 0) rfl, block_cell hb (i := 1) rfl, block_cell hb (i := 2) rfl, H.out.upto BU.out, HRG.out⟩
    · exact ⟨sm, block_cell hb (i := 3) rfl, block_cell hb (i := 4) rfl, block_cell hb (i := 5) rfl, (S2.out.upto BT.out).upto hVU, N2.out.2.2.2.2⟩
    · exact ⟨t, block_cell hb (i := 6) rfl, block_cell hb (i := 7) rfl, block_cell hb (i := 8) rfl, ST.out.upto hVU, RT.out⟩)
  clear hU hVU hwV ST RT BT CH S1 R1 B12 B1 B2 M2 Q2 S2 N2 H HRG HRAW HRR GW HWS L0
  go_wp2_with fail
  go_loopg [34] 3 (fun kx s34 wr => ∃ i : Nat, s34 = .int .i64 i ∧ i ≤ 3 ∧ 3 - i ≤ kx ∧ Aside (Below U.heap.size U wr))
  case atStart => exact ⟨0, rfl, by omega, by omega, Below.refl _ U⟩
  case round =>
    obtain ⟨i, rfl, hi, hkx, R⟩ := hrel
    obtain ⟨wo, hwo⟩ : ∃ X, X = wr := ⟨_, rfl⟩
    simp only [← hwo] at R ⊢
    clear hwo
    by_cases h3 : i < 3
    · obtain ⟨x, x0, x1, x2, hsx, hrx⟩ := XS.out i h3
      have h3z : (i : Int) < 3 := by omega
      have hi0 : (0 : Int) ≤ (i : Int) := by omega
      have hin : ((i : Int)).toNat = i := by omega
      have SX := Lib.hid (hsx.upto R.out)
      have RX := Lib.hid hrx
      have c0 := (R.out.cell (p := ⟨V.heap.size, i * 3, none⟩) GL.out).trans x0
      have c1 := (R.out.cell (p := ⟨V.heap.size, i * 3 + 1, none⟩) GL.out).trans x1
      have c2 := (R.out.cell (p := ⟨V.heap.size, i * 3 + 2, none⟩) GL.out).trans x2
      clear x0 x1 x2 hsx hrx
      go_upto_region 5 with (fail)
      obtain ⟨X, hX⟩ : ∃ X, X = wo.alloc (.cells #[.slice x.nA x.ns.length x.nc, .slice x.cA x.cs.length x.cc, .int .i64 x.gen] 35) := ⟨_, rfl⟩
      rw [← hX]
      have hwX : Below wo.heap.size wo X := by rw [hX]; exact (Below.refl _ wo).alloc (Nat.le_refl _) _
      have XB := Lib.hid (show X.heap[wo.heap.size]? = some (.cells x.vals 35 (0, 0)) by rw [hX]; exact heap_alloc_new wo _)
      have XL := Lib.hid (show wo.heap.size < X.heap.size by rw [hX]; simp)
      have RX2 := Lib.hid (R.out.trans (hwX.mono R.out.size))
      have SX2 := Lib.hid (SX.out.upto hwX)
      have d0 := block_cell XB.out (i := 0) (v := .slice x.nA x.ns.length x.nc) rfl
      have d1 := block_cell XB.out (i := 1) (v := .slice x.cA x.cs.length x.cc) rfl
      have d2 := block_cell XB.out (i := 2) (v := .int .i64 x.gen) rfl
      have j1 : IntKind.i64.wrap ((i : Int) + 1) = (i : Int) + 1 := by rw [IntKind.wrap_i64]; omega
      clear hX hwX c0 c1 c2 R SX
      by_cases hA : (x.ns.length : Int) > 40
      · go_wp2_with (fail)
        go_roundg (3 - (i + 1))
        case measure => omega
        case rel => exact ⟨i + 1, by go_num, by omega, by omega, RX2.out⟩
      by_cases hB : (x.cs.length : Int) > 100
      · go_wp2_with (fail)
        go_roundg (3 - (i + 1))
        case measure => omega
        case rel => exact ⟨i + 1, by go_num, by omega, by omega, RX2.out⟩
      by_cases hp : properB x = true
      · have OF := Lib.hid (of_c x X SX2.out hp)
        go_upto_region 7 with (go_at_call 10; refine OF.out.mono ?_; rintro e Y ⟨qa, y, rfl, hob, hsl, hcs, hgn, hb⟩; have OY := Lib.hid hob; have KY := Lib.hid (⟨hsl, hcs, hgn⟩ : _ ∧ _ ∧ _); have BY := Lib.hid hb; have YB := Lib.hid ((hb.block _ XL.out).trans XB.out); have e0 := block_cell YB.out (i := 0) (v := .slice x.nA x.ns.length x.nc) rfl; have e1 := block_cell YB.out (i := 1) (v := .slice x.cA x.cs.length x.cc) rfl; have e2 := block_cell YB.out (i := 2) (v := .int .i64 x.gen) rfl; have PR := Lib.hid (rproper_any x X.heap.size Y (SX2.out.below hb) hb.size RX.out); clear hob hsl hcs hgn hb)
        unfold Sd.vals at PR
        rw [hp] at PR
        go_upto_region 9 with (go_at_call 21; refine PR.out.mono ?_; rintro e Z ⟨rfl, hb⟩; have BZ := Lib.hid hb; have ZB := Lib.hid ((hb.block _ (Nat.lt_of_lt_of_le XL.out BY.out.size)).trans YB.out); clear hb)
        have BXZ := Lib.hid (BY.out.trans (BZ.out.mono BY.out.size))
        have ZO := Lib.hid ((OY.out.up BZ.out).up (bdrew (RowKit.Below.refl _ Z)))
        have SC := Lib.hid (state_c (B := X.heap.size) (s := x) ZO.out BXZ.out.size KY.out.1 KY.out.2.1 KY.out.2.2)
        clear OF PR OY KY YB e0 e1 e2 d0 d1 d2
        go_region_held3 (fun w' => w'.cell? ⟨wo.heap.size, 0, none⟩ = some (.slice x.nA x.ns.length x.nc) ∧ w'.cell? ⟨wo.heap.size, 1, none⟩ = some (.slice x.cA x.cs.length x.cc) ∧ w'.cell? ⟨wo.heap.size, 2, none⟩ = some (.int .i64 x.gen))
          (exact cells3 (t := 35) (by (repeat (first | exact ZB.out | with_reducible refine drew_keep ?_ | with_reducible refine below_keep BS.out XL.out ?_ | with_reducible refine below_keep BE.out XL.out ?_))))
          (first
            | (go_at_call 22; refine SM.out.mono ?_; rintro e Z2 ⟨rfl, hb⟩; have BE := Lib.hid hb; clear hb)
            | (go_at_call 23; refine SC.out.mono ?_; rintro e Z1 ⟨u, rfl, hsu, hru, hb⟩; have BS := Lib.hid hb; have BX1 := Lib.hid ((bdrew BXZ.out).trans hb); have SM := Lib.hid (same_c (B := X.heap.size) (SX2.out.upto BX1.out) hru hsu BX1.out.size); clear hsu hru hb))
        all_goals
          go_wp2_with (fail)
          go_roundg (3 - (i + 1))
          case measure => omega
          case rel => exact ⟨i + 1, by go_num, by omega, by omega, RX2.out.trans ((BX1.out.trans BE.out).mono RX2.out.size)⟩
      · have hp' : properB x = false := by simpa using hp
        have OF := Lib.hid (of_bad x X.heap.size X SX2.out (Nat.le_refl _) hp')
        unfold Sd.vals at OF
        go_upto_region 7 with (go_at_call 10; refine OF.out.mono ?_; rintro e Y ⟨rfl, hb⟩; have BY := Lib.hid hb; have YB := Lib.hid ((hb.block _ XL.out).trans XB.out); have e0 := block_cell YB.out (i := 0) (v := .slice x.nA x.ns.length x.nc) rfl; have e1 := block_cell YB.out (i := 1) (v := .slice x.cA x.cs.length x.cc) rfl; have e2 := block_cell YB.out (i := 2) (v := .int .i64 x.gen) rfl; have PR := Lib.hid (rproper_any x X.heap.size Y (SX2.out.below hb) hb.size RX.out); clear hb)
        unfold Sd.vals at PR
        rw [hp'] at PR
        go_upto_region 9 with (go_at_call 21; refine PR.out.mono ?_; rintro e Z ⟨rfl, hb⟩; have BZ := Lib.hid hb; clear hb)
        clear OF PR YB e0 e1 e2 d0 d1 d2
        go_quiet (fail)
        go_wp2_with (fail)
        go_roundg (3 - (i + 1))
        case measure => omega
        case rel => exact ⟨i + 1, by go_num, by omega, by omega, below_drew (RX2.out.trans ((BY.out.trans (BZ.out.mono BY.out.size)).mono RX2.out.size)) nq⟩
    · obtain rfl : i = 3 := by omega
      have A0 := Lib.hid (awake_any wo)
      go_upto_region 13 with (first
        | (go_at_call 22; refine SM.out.mono ?_; rintro e V5 ⟨rfl, hb⟩; have B5 := Lib.hid hb; clear hb)
        | (go_at_call 25; refine (rnew_any V3).mono ?_; rintro e V4 ⟨g4, q4, rfl, hob, hb⟩; obtain ⟨z4, hz4⟩ : ∃ z, z = newS g4 := ⟨_, rfl⟩; have SS4 := Lib.hid (show SameS u z4 by rw [hz4]; exact sameS_new SU.out); rw [← hz4] at hob; have B4 := Lib.hid hb; have e0 := block_cell hob.blk (i := 0) (v := .slice z4.nA z4.ns.length z4.nc) rfl; have e1 := block_cell hob.blk (i := 1) (v := .slice z4.cA z4.cs.length z4.cc) rfl; have e2 := block_cell hob.blk (i := 2) (v := .int .i64 z4.gen) rfl; have SM := Lib.hid (same_c (B := V3.heap.size) hob.srd (UR.out.upto hb) SS4.out hb.size); clear hob hb hz4)
        | (go_at_call 23; refine (state_c (B := V1.heap.size) (s := newS g2) O2.out B2.out.size (sameL_rfl _) rfl rfl).mono ?_; rintro e V3 ⟨u, rfl, hsu, hru, hb⟩; have SU := Lib.hid hsu; have UR := Lib.hid hru; have B3 := Lib.hid hb; clear hsu hru hb)
        | (go_at_call 24; refine (anew_any V1).mono ?_; rintro e V2 ⟨g2, q2, rfl, hob, hb⟩; have O2 := Lib.hid hob; have B2 := Lib.hid hb; clear hob hb)
        | (go_at_call 19; refine A0.out.mono ?_; rintro e V1 ⟨rfl, hb⟩; have B1 := Lib.hid hb; clear hb))
      have c1 := BU.out.trans (R.out.mono BU.out.size)
      have c2 := c1.trans (B1.out.mono c1.size)
      have c3 := c2.trans ((B2.out.trans B3.out).mono c2.size)
      have CF := Lib.hid (c3.trans ((B4.out.trans B5.out).mono c3.size))
      clear c1 c2 c3
      go_wp2_with (fail)
      go_ret
      exact ⟨rfl, CF.out⟩
end Go.Proofs.Ytcmnmimkjkpimaa
