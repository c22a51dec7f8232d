/- For every input the Go function NodeValid of package ctrielaw04 returns true, and each argument reads afterwards as it read before. Conditions: none but those that every row of the form bears by itself. The frame follows the guide's proof-skeleton; the walk is ours. -/
import Derived.Test.YtojcdnjnhejlmaaRows
import Derived.WalkKit
import Derived.ProofKit
import Derived.OpenShut
import Derived.ShutString
import Derived.ChangeOld
import Derived.Below
import Derived.Test.YtojcdnjnhejlmaaFrame
import Derived.Test.YtojcdnjnhejlmaaWalksX
import Derived.Test.YtojcdnjnhejlmaaWalksV
import Derived.Test.YtojcdnjnhejlmaaWalksZ
import Derived.Test.YtojcdnjnhejlmaaWalksG
import Derived.Test.YtojcdnjnhejlmaaEqP
import Derived.Test.YtojcdnjnhejlmaaEqR
import Derived.Test.YtojcdnjnhejlmaaWalksH
import Derived.Lib.Hide
import Derived.Deep.WholeRow
import Derived.Deep.RegionHeld3
namespace Go.Proofs.Ytojcdnjnhejlmaa.nodeValid
open Go.Lib Go.Sort
open Go.ChangeShapes Go.WideShapes Go.ChangeAt Go.RowKit
open Go.ChangeMaps (open_string shut_string)
set_option linter.unusedVariables false

theorem own : ownKnob Try.prog.godebug = none := by kernel_rfl
theorem laidOut : laidOutB Try.prog = true := by kernel_rfl

attribute [local go_sem ↓] exec_build4 exec_load28
attribute [local go_sem] run_build4 cs_size14
theorem eqN_refl (n : Nd) : eqN n n = true := by simp [eqN]

/-! ### STEP 1: THE WALK -/
set_option maxRecDepth 100000 in
set_option maxHeartbeats 16000000 in
theorem walk (n0 : Nd) (n1 : Nd) (a2 : Option Addr) (len2 cap2 : Nat) (a3 : Int) (a4 : Int) (w : World) (w0 : IsNode w n0) (w1 : IsNode w n1) (w2 : IsInts w a2 len2) (w3 : (Lit.int .i64 a3).wf = true) (w4 : (Lit.int .i64 a4).wf = true) :
    Calls Try.prog 3 #[.agg n0.cs, .agg n1.cs, .slice a2 len2 cap2, .int .i64 a3, .int .i64 a4] w fun e w' => e = .returned (.bool true) ∧ Below w.heap.size w w' := by
  have mixed := mixedOrders
  obtain ⟨W, hW⟩ : ∃ W, W = (w.alloc (.cells n0.cs 28)).alloc (.cells n1.cs 28) := ⟨_, rfl⟩
  have hga : W.heap[w.heap.size]? = some (.cells n0.cs 28 (0, 0)) := by rw [hW]; exact (Below.heap_alloc _ _ _ (by simp)).trans (heap_alloc_new w _)
  have hgb : W.heap[w.heap.size + 1]? = some (.cells n1.cs 28 (0, 0)) := by
    rw [hW]
    have := heap_alloc_new (w.alloc (.cells n0.cs 28)) (.cells n1.cs 28)
    simpa using this
  have hbW : Below w.heap.size w W := by rw [hW]; exact ((Below.refl _ _).alloc (Nat.le_refl _) _).alloc (by simp) _
  have hsW : W.heap.size = w.heap.size + 2 := by rw [hW]; simp
  have a4 := node_cellA hga (i := 4) (v := .slice n0.bA n0.bs.length n0.bc) rfl
  have a8 := node_cellA hga (i := 8) (v := .slice n0.pA n0.ps.length n0.pc) rfl
  have b4 := node_cellA hgb (i := 4) (v := .slice n1.bA n1.bs.length n1.bc) rfl
  have b8 := node_cellA hgb (i := 8) (v := .slice n1.pA n1.ps.length n1.pc) rfl
  have Hga := Lib.hid hga
  have Hgb := Lib.hid hgb
  have HbW := Lib.hid hbW
  have HsW := Lib.hid hsW
  have HW := Lib.hid hW.symm
  clear hW hga hgb hbW hsW w3 w4
  by_cases h1 : 100 < n0.bs.length
  · have d : decide ((n0.bs.length : Int) > 100) = true := decide_eq_true (by omega)
    clear h1 w0 w1 w2
    go_enter Try.func3, Try.ntmps3
    go_upto_region 1 with (fail)
    rw [HW.out]
    go_wp2_with (go_at_call 7; refine (awake_any _).mono ?_; rintro e w1 ⟨rfl, hb⟩; have HB := Lib.hid hb; clear hb)
    go_ret
    exact ⟨rfl, HbW.out.trans (HB.out.mono HbW.out.size)⟩
  have dh1 : decide ((n0.bs.length : Int) > 100) = false := decide_eq_false (by omega)
  by_cases h2 : 40 < n0.ps.length
  · have d : decide ((n0.ps.length : Int) > 40) = true := decide_eq_true (by omega)
    clear h2 w0 w1 w2
    go_enter Try.func3, Try.ntmps3
    go_upto_region 1 with (fail)
    rw [HW.out]
    go_wp2_with (go_at_call 7; refine (awake_any _).mono ?_; rintro e w1 ⟨rfl, hb⟩; have HB := Lib.hid hb; clear hb)
    go_ret
    exact ⟨rfl, HbW.out.trans (HB.out.mono HbW.out.size)⟩
  have dh2 : decide ((n0.ps.length : Int) > 40) = false := decide_eq_false (by omega)
  by_cases h3 : 100 < n1.bs.length
  · have d : decide ((n1.bs.length : Int) > 100) = true := decide_eq_true (by omega)
    clear h3 w0 w1 w2
    go_enter Try.func3, Try.ntmps3
    go_upto_region 1 with (fail)
    rw [HW.out]
    go_wp2_with (go_at_call 7; refine (awake_any _).mono ?_; rintro e w1 ⟨rfl, hb⟩; have HB := Lib.hid hb; clear hb)
    go_ret
    exact ⟨rfl, HbW.out.trans (HB.out.mono HbW.out.size)⟩
  have dh3 : decide ((n1.bs.length : Int) > 100) = false := decide_eq_false (by omega)
  by_cases h4 : 40 < n1.ps.length
  · have d : decide ((n1.ps.length : Int) > 40) = true := decide_eq_true (by omega)
    clear h4 w0 w1 w2
    go_enter Try.func3, Try.ntmps3
    go_upto_region 1 with (fail)
    rw [HW.out]
    go_wp2_with (go_at_call 7; refine (awake_any _).mono ?_; rintro e w1 ⟨rfl, hb⟩; have HB := Lib.hid hb; clear hb)
    go_ret
    exact ⟨rfl, HbW.out.trans (HB.out.mono HbW.out.size)⟩
  have dh4 : decide ((n1.ps.length : Int) > 40) = false := decide_eq_false (by omega)
  have HI : Hid (IsInts W a2 len2) := ⟨w2.1, fun j hj => by
    obtain ⟨ad, z, e, hc⟩ := w2.2 j hj
    exact ⟨ad, z, e, (HbW.out.cell (block_of_cell hc)).trans hc⟩⟩
  have NA := Lib.hid (show NRd W W.heap.size n0 from NRd.up (⟨w0.r, w0.p, w0.bm, by omega, by omega⟩ : NRd w w.heap.size n0) HbW.out)
  have NB := Lib.hid (show NRd W W.heap.size n1 from NRd.up (⟨w1.r, w1.p, w1.bm, by omega, by omega⟩ : NRd w w.heap.size n1) HbW.out)
  clear h1 h2 h3 h4 w0 w1 w2
  go_enter Try.func3, Try.ntmps3
  go_upto_region 1 with (fail)
  rw [HW.out]
  go_wp2_with fail
  refine (new_any a2 len2 cap2 W HI.out.1 HI.out.2).mono ?_
  rintro e u1 ⟨rfl, hT, hb⟩
  have TP := Lib.hid hT
  have HB1 := Lib.hid hb
  clear hT hb dh1 dh2 dh3 dh4 a4 a8 b4 b8 HI
  go_wp2_with fail
  refine (node_any W.heap.size u1 TP.out).mono ?_
  rintro e u2 ⟨x, rfl, hx, hT, hg⟩
  have HB2 := Lib.hid (HB1.out.trans (below_of_grown hg (Nat.le_refl _) HB1.out.size))
  have GX := Lib.hid hx
  clear hx hT hg TP HB1
  go_wp2_with ((refine wpList_store_row rfl 28 (.tmp 12) (.tmp 41) rfl u2.heap.size x.cs rfl rfl 28 #[.int .i64 0, .int .i64 0, .int .i64 0, .int .u64 0, .slice none 0 0, .int .u64 0, .string ⟨#[]⟩, .int .u64 0, .slice none 0 0, .int .i64 0, .int .i64 0, .int .i64 0, .int .i64 0, .int .i64 0] (heap_alloc_new u2 _) nodeSize rfl (cs_all x) ?_))
  rw [World.setRow_alloc_new]
  obtain ⟨X, hX⟩ : ∃ X, X = u2.heap.size := ⟨_, rfl⟩
  obtain ⟨u3, hu3⟩ : ∃ u3, u3 = u2.alloc (.cells x.cs 28) := ⟨_, rfl⟩
  rw [← hu3, ← hX]
  have Hgx := Lib.hid (show u3.heap[X]? = some (.cells x.cs 28 (0, 0)) by rw [hu3, hX]; exact heap_alloc_new u2 _)
  have hb3 : Below u2.heap.size u2 u3 := by rw [hu3]; exact (Below.refl _ _).alloc (Nat.le_refl _) _
  have HB3 := Lib.hid (HB2.out.trans (hb3.mono HB2.out.size))
  have GX3 := Lib.hid (show GoodN u3 x from ⟨GX.out.rd.up hb3, GX.out.ba, GX.out.pa, GX.out.bc, GX.out.pc, GX.out.bl, GX.out.pl, GX.out.key⟩)
  have Hga3 := Lib.hid ((HB3.out.block w.heap.size (by rw [HsW.out]; omega)).trans Hga.out)
  have Hgb3 := Lib.hid ((HB3.out.block (w.heap.size + 1) (by rw [HsW.out]; omega)).trans Hgb.out)
  clear hX hu3 hb3 HB2 GX
  have la := run_loadNode Hga3.out
  have lb := run_loadNode Hgb3.out
  have lx := run_loadNode Hgx.out
  have la' := run_loadNode_drew Hga3.out
  have lb' := run_loadNode_drew Hgb3.out
  have lx' := run_loadNode_drew Hgx.out
  go_region_held3 (fun w' => Sem.run Try.prog (loadNode (.pointer (some ⟨w.heap.size, 0, none⟩))) w' = .ok (.agg n0.cs) w' ∧ Sem.run Try.prog (loadNode (.pointer (some ⟨w.heap.size + 1, 0, none⟩))) w' = .ok (.agg n1.cs) w' ∧ Sem.run Try.prog (loadNode (.pointer (some ⟨X, 0, none⟩))) w' = .ok (.agg x.cs) w')
    (first | assumption | go_keep | exact ⟨run_loadNode_alloc Hga5.out _, run_loadNode_alloc Hgb5.out _, run_loadNode_alloc Hgx5.out _⟩)
    (first
      | (go_at_call 10
         refine (changed_any x a3 a4 u3.drew ⟨NRd.up GX3.out.rd (below_drew (Below.refl u3.heap.size u3) 1), GX3.out.ba, GX3.out.pa, GX3.out.bc, GX3.out.pc, GX3.out.bl, GX3.out.pl, GX3.out.key⟩).mono ?_
         rintro e u5 ⟨y, rfl, hy, hb⟩
         have hb' : Below u3.heap.size u3 u5 := ⟨hb.os, hb.tape, hb.output, hb.size, hb.block⟩
         have Hga5 := Lib.hid ((hb'.block w.heap.size (Array.getElem?_eq_some_iff.1 Hga3.out).1).trans Hga3.out)
         have Hgb5 := Lib.hid ((hb'.block (w.heap.size + 1) (Array.getElem?_eq_some_iff.1 Hgb3.out).1).trans Hgb3.out)
         have Hgx5 := Lib.hid ((hb'.block X (Array.getElem?_eq_some_iff.1 Hgx.out).1).trans Hgx.out)
         have hS5 : Sem.run Try.prog (loadNode (.pointer (some ⟨w.heap.size, 0, none⟩))) u5 = .ok (.agg n0.cs) u5 ∧ Sem.run Try.prog (loadNode (.pointer (some ⟨w.heap.size + 1, 0, none⟩))) u5 = .ok (.agg n1.cs) u5 ∧ Sem.run Try.prog (loadNode (.pointer (some ⟨X, 0, none⟩))) u5 = .ok (.agg x.cs) u5 := ⟨run_loadNode Hga5.out, run_loadNode Hgb5.out, run_loadNode Hgx5.out⟩
         have HY := Lib.hid hy
         have HB5 := Lib.hid hb'
         clear hb hb' hy))
  obtain ⟨g, hgd⟩ : ∃ g, g = u5.heap.size := ⟨_, rfl⟩
  obtain ⟨U, hU⟩ : ∃ U, U = u5.alloc (.cells (rowOf [n0.cs, n1.cs, x.cs, y.cs]) 28) := ⟨_, rfl⟩
  have hgU : U.heap[g]? = some (.cells (rowOf ([n0, n1, x, y].map Nd.cs)) 28 (0, 0)) := by rw [hU, hgd]; exact heap_alloc_new u5 _
  have hbU : Below u5.heap.size u5 U := by rw [hU]; exact (Below.refl _ _).alloc (Nat.le_refl _) _
  rw [← hU, ← hgd]
  have HG := Lib.hid hgU
  have HGA := Lib.hid ((hbU.block w.heap.size (Array.getElem?_eq_some_iff.1 Hga5.out).1).trans Hga5.out)
  have HGX := Lib.hid ((hbU.block X (Array.getElem?_eq_some_iff.1 Hgx5.out).1).trans Hgx5.out)
  have hb35 : Below W.heap.size W u5 := HB3.out.trans (HB5.out.mono HB3.out.size)
  have hbWU : Below W.heap.size W U := hb35.trans (hbU.mono hb35.size)
  have hb3U : Below u3.heap.size u3 U := HB5.out.trans (hbU.mono HB5.out.size)
  have HB := Lib.hid (HbW.out.trans (hbWU.mono HbW.out.size))
  have NA := Lib.hid (NRd.up NA.out hbWU)
  have NB := Lib.hid (NRd.up NB.out hbWU)
  have NX := Lib.hid (NRd.up GX3.out.rd hb3U)
  have NY := Lib.hid (NRd.up HY.out hbU)
  have HN : Hid (∀ (i : Nat) (n : Nd), [n0, n1, x, y][i]? = some n → NRd U U.heap.size n) := by
    intro i n hn
    match i, hn with
    | 0, hn => injection hn with hn; subst hn; exact NA.out
    | 1, hn => injection hn with hn; subst hn; exact NB.out
    | 2, hn => injection hn with hn; subst hn; exact NX.out
    | 3, hn => injection hn with hn; subst hn; exact NY.out
    | i + 4, hn => simp at hn
  have HSZ := Lib.hid (Array.getElem?_eq_some_iff.1 hgU).1
  clear hgd hU hgU hbU hb35 hbWU hb3U hS5 la lb lx la' lb' lx' Hga3 Hgb3 Hga5 Hgb5 Hgx5 Hgx Hga Hgb HB5 HY GX3 HB3 NB NY HW HsW
  go_wp2_with fail
  go_loopg [51] 4 (fun kx s51 wr => ∃ i : Nat, s51 = .int .i64 i ∧ i ≤ 4 ∧ 4 - i ≤ kx ∧ Aside (Below U.heap.size U wr))
  case atStart => exact ⟨0, rfl, Nat.zero_le _, by omega, Below.refl _ _⟩
  case round =>
    obtain ⟨i, rfl, hi, hkx, K0⟩ := hrel
    by_cases hlt : i < 4
    · have hltz : (i : Int) < 4 := by omega
      obtain ⟨n, hn⟩ : ∃ n, [n0, n1, x, y][i]? = some n := ⟨_, List.getElem?_eq_getElem (by simpa using hlt)⟩
      have hcs : ([n0, n1, x, y].map Nd.cs)[i]? = some n.cs := by rw [List.getElem?_map, hn]; rfl
      have NN := Lib.hid (NRd.up (HN.out i n hn) K0.out)
      have NA' := Lib.hid (NRd.up NA.out K0.out)
      have NX' := Lib.hid (NRd.up NX.out K0.out)
      have hgr := (K0.out.block g HSZ.out).trans HG.out
      have hga := (K0.out.block w.heap.size (Array.getElem?_eq_some_iff.1 HGA.out).1).trans HGA.out
      have hgx := (K0.out.block X (Array.getElem?_eq_some_iff.1 HGX.out).1).trans HGX.out
      have hlt' := hlt
      have lel : Sem.run Try.prog (loadNode (.pointer (some ⟨g, i * 14, none⟩))) wr = .ok (.agg n.cs) wr := run_loadNodeAt fun j hj => by
        obtain ⟨v, hv⟩ : ∃ v, n.cs[j]? = some v := ⟨_, Array.getElem?_eq_getElem (by rw [cs_size14]; exact hj)⟩
        rw [hv]
        exact (cell_of_row wr g _ _ 28 (0, 0) hgr).trans (rowOf_get hcs hj hv)
      clear hn hcs hgr hlt'
      have HGa := Lib.hid hga
      have HGx := Lib.hid hgx
      clear hga hgx
      go_wp2_with ((refine wpList_store_row rfl 28 (.tmp 14) (.tmp 54) rfl wr.heap.size n.cs rfl rfl 28 #[.int .i64 0, .int .i64 0, .int .i64 0, .int .u64 0, .slice none 0 0, .int .u64 0, .string ⟨#[]⟩, .int .u64 0, .slice none 0 0, .int .i64 0, .int .i64 0, .int .i64 0, .int .i64 0, .int .i64 0] (heap_alloc_new wr _) nodeSize rfl (cs_all n) ?_))
      rw [World.setRow_alloc_new]
      obtain ⟨q, hq⟩ : ∃ q, q = wr.heap.size := ⟨_, rfl⟩
      obtain ⟨V, hV⟩ : ∃ V, V = wr.alloc (.cells n.cs 28) := ⟨_, rfl⟩
      rw [← hV, ← hq]
      have hbV : Below wr.heap.size wr V := by rw [hV]; exact (Below.refl _ _).alloc (Nat.le_refl _) _
      have hgq : V.heap[q]? = some (.cells n.cs 28 (0, 0)) := by rw [hV, hq]; exact heap_alloc_new wr _
      have l14 := run_loadNode_grown hgq
      have l5 := run_loadNode_grown ((hbV.block w.heap.size (Array.getElem?_eq_some_iff.1 HGa.out).1).trans HGa.out)
      have l12 := run_loadNode_grown ((hbV.block X (Array.getElem?_eq_some_iff.1 HGx.out).1).trans HGx.out)
      have hnn := NRd.up NN.out hbV
      have hna := NRd.up NA'.out hbV
      have hnx := NRd.up NX'.out hbV
      have CV := Lib.hid (fun (Y : World) (hY : Gr V Y) => valid_any n V.heap.size Y (hnn.gr (Nat.le_refl _) hY) hY.size)
      have CR := Lib.hid (fun (Y : World) (hY : Gr V Y) => rvalid_any n V.heap.size Y (hnn.gr (Nat.le_refl _) hY) hY.size)
      have CM := Lib.hid (fun (Y : World) => main_any n Y)
      have CN := Lib.hid (fun (Y : World) => rmain_any n Y)
      have CE := Lib.hid (fun (Y : World) (hY : Gr V Y) => equal_any n n V.heap.size Y (hnn.gr (Nat.le_refl _) hY) (hnn.gr (Nat.le_refl _) hY) hY.size)
      rw [eqN_refl n] at CE
      have CA := Lib.hid (fun (Y : World) (hY : Gr V Y) => equal_any n0 n V.heap.size Y (hna.gr (Nat.le_refl _) hY) (hnn.gr (Nat.le_refl _) hY) hY.size)
      have CB := Lib.hid (fun (Y : World) (hY : Gr V Y) => requal_any n0 n V.heap.size Y (hna.gr (Nat.le_refl _) hY) (hnn.gr (Nat.le_refl _) hY) hY.size)
      have CX := Lib.hid (fun (Y : World) (hY : Gr V Y) => equal_any n x V.heap.size Y (hnn.gr (Nat.le_refl _) hY) (hnx.gr (Nat.le_refl _) hY) hY.size)
      have CY := Lib.hid (fun (Y : World) (hY : Gr V Y) => requal_any n x V.heap.size Y (hnn.gr (Nat.le_refl _) hY) (hnx.gr (Nat.le_refl _) hY) hY.size)
      have KV := Lib.hid (K0.out.trans (hbV.mono K0.out.size))
      clear hV hq hbV hgq hnn hna hnx lel
      generalize validN n = b1 at CV CR
      generalize mainB n = b2 at CM CN
      generalize eqN n0 n = b3 at CA CB
      generalize eqN n x = b4 at CX CY
      have t1 : (b1 != b1) = false := bne_self_eq_false b1
      have t2 : (b2 != b2) = false := bne_self_eq_false b2
      have t3 : (b3 != b3) = false := bne_self_eq_false b3
      have t4 : (b4 != b4) = false := bne_self_eq_false b4
      go_quiet_grown (first
        | (go_at_call 11; exact Gr.called (CV.out _ ((Gr.refl V).grow _ _)))
        | (go_at_call 12; exact Gr.called (CR.out _ ((Gr.refl V).grow _ _)))
        | (go_at_call 13; exact Gr.called (CM.out _))
        | (go_at_call 14; exact Gr.called (CN.out _))
        | (go_at_call 15; with_reducible exact Gr.called (CE.out _ ((Gr.refl V).grow _ _)))
        | (go_at_call 15; with_reducible exact Gr.called (CA.out _ ((Gr.refl V).grow _ _)))
        | (go_at_call 15; with_reducible exact Gr.called (CX.out _ ((Gr.refl V).grow _ _)))
        | (go_at_call 16; with_reducible exact Gr.called (CB.out _ ((Gr.refl V).grow _ _)))
        | (go_at_call 16; with_reducible exact Gr.called (CY.out _ ((Gr.refl V).grow _ _))))
      go_wp2
      go_roundg (4 - (i + 1))
      case measure => omega
      case rel => exact ⟨i + 1, by go_num, by omega, Nat.le_refl _, KV.out.trans (((Gr.refl V).grow nq osq).b.mono KV.out.size)⟩
    · obtain rfl : i = 4 := by omega
      have HB := Lib.hid (HB.out.trans (K0.out.mono HB.out.size))
      clear K0
      go_wp2_with fail
      refine (awake_any wr).mono ?_
      rintro e w1 ⟨rfl, hb⟩
      have HB := Lib.hid (HB.out.trans (hb.mono HB.out.size))
      clear hb
      go_wp2
      go_ret
      exact ⟨rfl, HB.out⟩

/-! ### THE ROW's STEP -/
set_option maxRecDepth 100000 in
theorem lifted (os : Os) (started : os.Started) (H : Type) (enc : TypeId × Value → H) :
    ReturnsInHanded {} Try.checked os 3 .any (Rows.nodeValidSpec.pre6 enc Try.prog Try.f3 Rows.nodeValidRow.domain false) (Rows.nodeValidSpec.post enc Try.prog Try.f3 false true false false) := by
  refine returnsInHanded_of_change (C := Try.checked) own started (by kernel_rfl) Try.func3
    (ChangeSpec.witness6 (enc := enc) (C := Try.checked) false ⟨#[], #[.agg #[.int .i64 0, .int .i64 0, .int .i64 0, .int .u64 0, .slice none 0 0, .int .u64 0, .string ByteArray.empty, .int .u64 0, .slice none 0 0, .int .i64 0, .int .i64 0, .int .i64 0, .int .i64 0, .int .i64 0], .agg #[.int .i64 0, .int .i64 0, .int .i64 0, .int .u64 0, .slice none 0 0, .int .u64 0, .string ByteArray.empty, .int .u64 0, .slice none 0 0, .int .i64 0, .int .i64 0, .int .i64 0, .int .i64 0, .int .i64 0], .slice none 0 0, .int .i64 0, .int .i64 0], []⟩ 8 (by kernel_rfl) (by kernel_rfl) (by kernel_rfl) (by kernel_rfl)) ?_
  intro W base args ds gs before hval0 hW hcnd _
  have hval : ∀ (j : Nat) t v, Try.f3.params[j]? = some t → args[j]? = some v → Value.okWide Try.prog W .any base t v := hval0
  have hW' := hW
  obtain ⟨p, q, hA0, hV, rfl, hfz, hnd⟩ := hW
  have hA : DataW.TrodAll enc Try.prog W 0 (fun _ => true) true Try.f3.params.toList args.toList ds p := hA0
  rw [Try.params3] at hA hval
  obtain ⟨v0, vs0, d0, ds0, p0, q0, hargs, rfl, rfl, h0, r0⟩ := trodAll_cons hA
  obtain ⟨v1, vs1, d1, ds1, p1, q1, rfl, rfl, rfl, h1, r1⟩ := trodAll_cons r0
  obtain ⟨v2, vs2, d2, ds2, p2, q2, rfl, rfl, rfl, h2, r2⟩ := trodAll_cons r1
  obtain ⟨v3, vs3, d3, ds3, p3, q3, rfl, rfl, rfl, h3, r3⟩ := trodAll_cons r2
  obtain ⟨v4, vs4, d4, ds4, p4, q4, rfl, rfl, rfl, h4, r4⟩ := trodAll_cons r3
  obtain ⟨rfl, rfl, rfl⟩ := trodAll_nil r4
  obtain rfl : args = #[v0, v1, v2, v3, v4] := by cases args; simp_all
  obtain ⟨rfl, rfl⟩ := trodVars_none hV
  have k0 := h0
  have lt0 : ∀ x ∈ p0, x.block < W.heap.size := by obtain ⟨m, hm⟩ := k0; exact DataW.trod_lt m _ _ _ hm
  obtain ⟨n0, rfl, w0⟩ := open_node (hval 0 28 v0 rfl rfl) h0
  have k1 := h1
  have lt1 : ∀ x ∈ p1, x.block < W.heap.size := by obtain ⟨m, hm⟩ := k1; exact DataW.trod_lt m _ _ _ hm
  obtain ⟨n1, rfl, w1⟩ := open_node (hval 1 28 v1 rfl rfl) h1
  obtain ⟨a2, len2, cap2, rfl⟩ := okWide_slice Try.underlying29 (hval 2 29 v2 rfl rfl)
  have k2 := h2
  have lt2 : ∀ x ∈ p2, x.block < W.heap.size := by obtain ⟨m, hm⟩ := k2; exact DataW.trod_lt m _ _ _ hm
  have w2 := open_intsT h2
  obtain ⟨a3, rfl, rfl, rfl, w3⟩ := open_int Try.underlying3 (hval 3 3 v3 rfl rfl) h3
  obtain ⟨a4, rfl, rfl, rfl, w4⟩ := open_int Try.underlying3 (hval 4 3 v4 rfl rfl) h4
  clear hA0 hval0
  refine (walk n0 n1 a2 len2 cap2 a3 a4 W w0 w1 w2 w3 w4).mono fun e W' ⟨he, bel⟩ => ?_
  subst he
  exact ⟨_, rfl, _, _, _, [], _, [], hW', trodAll_mk1 (shut_bool Try.underlying4 _), (trodAll_cons_mk (Below.trod laidOut (by kernel_rfl) (of_decide_eq_true (by kernel_rfl)) k0 bel lt0) (trodAll_cons_mk (Below.trod laidOut (by kernel_rfl) (of_decide_eq_true (by kernel_rfl)) k1 bel lt1) (trodAll_cons_mk (Below.trod laidOut (by kernel_rfl) (of_decide_eq_true (by kernel_rfl)) k2 bel lt2) (trodAll_cons_mk (shut_int Try.underlying3 w3) (trodAll_cons_mk (shut_int Try.underlying3 w4) trodAll_mk0))))), rfl, bel.frame _, fun h => by cases h⟩

theorem over : Rows.nodeValidRow.holds Try.pinned (OpenSpec.ofChange Rows.nodeValidSpec) :=
  OpenClaim.holds_of_wide 3 Try.f3 rfl rfl rfl rfl rfl rfl rfl ⟨rfl, rfl, rfl, rfl, rfl⟩ rfl rfl rfl rfl rfl (by kernel_rfl) Try.func3 (by kernel_rfl)
    (of_decide_eq_true (by kernel_rfl)) (by unfold Func.isWrapper; first | (rw [if_pos (by decide +kernel)]; kernel_rfl) | (rw [if_neg (by decide +kernel)]; exact ⟨rfl, rfl⟩))
    (fun os started H enc _ => lifted os started H enc)

/-- ████ THE STATEMENT ████ -/
theorem proved : Rows.NodeValidSaid := over
#print axioms proved
end Go.Proofs.Ytojcdnjnhejlmaa.nodeValid
