/- For every input the Go function BranchExact of package ctrielaw06 returns true, and each argument reads afterwards as it read before. Conditions: none but those that every row of the form bears by itself. The frame follows the guide's proof-skeleton; the walk is ours. -/
import Derived.Test.YtcigljjnopfohaaRows
import Derived.WalkKit
import Derived.ProofKit
import Derived.OpenShut
import Derived.ShutString
import Derived.ChangeOld
import Derived.Below
import Derived.Test.YtcigljjnopfohaaFrame
import Derived.Test.YtcigljjnopfohaaBrR
import Derived.Lib.Hide
import Derived.Deep.RegionHeld3
namespace Go.Proofs.Ytcigljjnopfohaa.branchExact
open Go.Lib
open Go.ChangeShapes Go.WideShapes Go.ChangeAt Go.RowKit
open Go.ChangeMaps (open_string shut_string)
set_option linter.unusedVariables false

theorem own : ownKnob Try.prog.godebug = none := by kernel_rfl
theorem laidOut : laidOutB Try.prog = true := by kernel_rfl
open Go.Sort
set_option maxRecDepth 100000
attribute [local go_sem ↓] exec_load28 exec_storeN
attribute [local go_sem] run_storeNode_new

/-! ### STEP 1: THE WALK -/
set_option maxRecDepth 100000 in
set_option maxHeartbeats 16000000 in
theorem walk (n0 : Nd) (a1 : Option Addr) (len1 cap1 : Nat) (a2 : Int) (a3 : Int) (a4 : Int) (w : World) (w0 : IsNode w n0) (w1 : IsInts w a1 len1) (w2 : (Lit.int .i64 a2).wf = true) (w3 : (Lit.int .i64 a3).wf = true) (w4 : (Lit.int .u8 a4).wf = true) :
    Calls Try.prog 3 #[.agg n0.cs, .slice a1 len1 cap1, .int .i64 a2, .int .i64 a3, .int .u8 a4] w fun e w' => e = .returned (.bool true) ∧ Below w.heap.size w w' := by
  obtain ⟨W, hW⟩ : ∃ W, W = w.alloc (.cells n0.cs 28) := ⟨_, rfl⟩
  have hz1 := Lib.hid w1
  have BW := Lib.hid (show Below w.heap.size w W by rw [hW]; exact alloc_below w _)
  have HB := Lib.hid (show W.heap[w.heap.size]? = some (.cells n0.cs 28 (0, 0)) by rw [hW]; exact heap_alloc_new w _)
  have LN := Lib.hid (lnode2 a1 len1 cap1 W w1.1 (fun j hj => by
    obtain ⟨ad, z, e, hc⟩ := w1.2 j hj
    refine ⟨ad, z, e, ?_⟩
    rw [hW, World.cell?_alloc_lt _ _ _ (block_of_cell' hc)]; exact hc))
  have HN := Lib.hid w0
  have HW := Lib.hid hW.symm
  clear hW w0 w1 hz1
  have mixed := mixedOrders
  go_enter Try.func3, Try.ntmps3
  go_upto_region 1 with (fail)
  rw [HW.out]
  go_upto_region 2 with (go_at_call 8; refine LN.out.mono ?_; rintro e u0 ⟨n, rfl, gn, hc, hl, hb⟩; have X := Lib.hid (⟨gn, hc, hl, hb⟩ : _ ∧ _ ∧ _ ∧ _); clear gn hc hl hb)
  obtain ⟨V0, hV0⟩ : ∃ X, X = u0.alloc (.cells n.cs 28) := ⟨_, rfl⟩
  have B0 := Lib.hid (show Below W.heap.size W V0 by rw [hV0]; exact X.out.2.2.2.alloc X.out.2.2.2.size _)
  have NN0 := Lib.hid (show NB V0 u0.heap.size n by rw [hV0]; exact nb_new X.out.1)
  rw [← hV0]; clear hV0
  generalize u0.heap.size = b0 at NN0 ⊢
  go_upto_region 3 with (fail)
  generalize wrap64 (wrap64 (a4.tmod 68) - 2) = k2
  obtain ⟨U, hU⟩ : ∃ X, X = V0.alloc (.cells #[.int .i64 a2, .int .i64 k2] 3) := ⟨_, rfl⟩
  have BU := Lib.hid (show Below W.heap.size W U by rw [hU]; exact B0.out.alloc B0.out.size _)
  have NU := Lib.hid (show NB U b0 n by rw [hU]; exact NN0.out.up (alloc_below V0 _))
  have GU := Lib.hid (show U.heap[V0.heap.size]? = some (.cells #[.int .i64 a2, .int .i64 k2] 3 (0, 0)) by rw [hU]; exact heap_alloc_new V0 _)
  rw [← hU]; clear hU
  generalize V0.heap.size = g at GU ⊢
  have HBU := Lib.hid (heap_up HB.out BU.out)
  have AW := Lib.hid (fun X => awake_any X)
  obtain ⟨q, hq, hm⟩ := mod_any a3 90 (by omega) (by omega)
  have MD := Lib.hid hm
  have hw1 : IntKind.i64.wrap ((1 : Int) + (q : Int)) = (1 : Int) + (q : Int) := by rw [IntKind.wrap_i64]; omega
  clear hm X NN0 B0 LN HW
  go_wp2_with fail
  go_loopg [23] 2 (fun kx s23 wr => ∃ j : Nat, s23 = .int .i64 j ∧ j ≤ 2 ∧ 2 - j ≤ kx ∧ Aside (RowKit.Below U.heap.size U wr))
  case atStart => exact ⟨0, rfl, by omega, by omega, Below.refl _ _⟩
  case round =>
    obtain ⟨j, rfl, hj, hkx, I⟩ := hrel
    by_cases hlt : j < 2
    · have hltz : (j : Int) < 2 := by omega
      obtain ⟨k, hk⟩ : ∃ k, wr.cell? ⟨g, j, none⟩ = some (.int .i64 k) := by
        have hc := fun t => cell_of_row wr g t _ 3 (0, 0) (heap_up GU.out I.out)
        rcases (by omega : j = 0 ∨ j = 1) with rfl | rfl
        · exact ⟨a2, (hc 0).trans rfl⟩
        · exact ⟨k2, (hc 1).trans rfl⟩
      have HBr := Lib.hid (heap_up HBU.out I.out)
      have e4 := node_cellA HBr.out (i := 4) (v := .slice n0.bA n0.bs.length n0.bc) rfl
      have e8 := node_cellA HBr.out (i := 8) (v := .slice n0.pA n0.ps.length n0.pc) rfl
      have ld := run_loadNode HBr.out
      have Nr := Lib.hid (NU.out.up I.out)
      have BWr := Lib.hid ((BW.out.trans (BU.out.mono BW.out.size)).trans (I.out.mono (Nat.le_trans BW.out.size BU.out.size)))
      have hwz : IntKind.i64.wrap ((j : Int) + 1) = (j : Int) + 1 := by rw [IntKind.wrap_i64]; omega
      rcases (by omega : (n0.bs.length < 100 ∧ n0.ps.length < 40) ∨ (n0.bs.length < 100 ∧ ¬ n0.ps.length < 40) ∨ ¬ n0.bs.length < 100) with ⟨h1, h2⟩ | ⟨h1, h2⟩ | h1
      · have h1' : (n0.bs.length : Int) < 100 := by omega
        have h2' : (n0.ps.length : Int) < 40 := by omega
        have AG := Lib.hid (agrees_any n0 k a3 wr ⟨⟨(HN.out.r.below BWr.out).more BWr.out.size, (HN.out.p.below BWr.out).more BWr.out.size, HN.out.bm, by omega, by omega⟩, HN.out.ba, HN.out.pa, HN.out.bc, HN.out.pc⟩)
        clear h1 h2
        go_upto_region 7 with (go_at_call 9; refine AG.out.mono ?_; rintro e v1 ⟨rfl, hb⟩; have BV := Lib.hid hb; clear hb)
        have N1 := Lib.hid (Nr.out.up BV.out)
        have ND := Lib.hid (show NB v1.drew b0 n from ⟨N1.out.1, ⟨⟨N1.out.2.rd.r.drewN 1, N1.out.2.rd.p.drewN 1, N1.out.2.rd.bm, N1.out.2.rd.bl, N1.out.2.rd.pl⟩, N1.out.2.ba, N1.out.2.pa, N1.out.2.bc, N1.out.2.pc⟩⟩)
        have AG1 := Lib.hid (agrees_any n k a3 v1.drew ND.out.2)
        have AG2 := Lib.hid (fun X (hX : RowKit.Below v1.heap.size v1 X) => agrees_any n k ((1 : Int) + (q : Int)) X (N1.out.up hX).2)
        go_region_held3 (fun w' => Sem.run Try.prog (loadNode (.pointer (some ⟨b0, 0, none⟩))) w' = .ok (.agg n.cs) w')
          (first | exact L2.out | exact L1.out | exact run_loadNode ND.out.1)
          (first
            | (go_at_call 9; (with_reducible refine (AG2.out _ A1.out).mono ?_); rintro e t2 ⟨rfl, hb⟩; have A2 := Lib.hid (A1.out.trans (hb.mono A1.out.size)); have L2 := Lib.hid (N1.out.up A2.out).ld; clear hb)
            | (go_at_call 9; (with_reducible refine AG1.out.mono ?_); rintro e t1 ⟨rfl, hb⟩; have A1 := Lib.hid (show RowKit.Below v1.heap.size v1 t1 from ⟨hb.os, hb.tape, hb.output, hb.size, hb.block⟩); have L1 := Lib.hid (N1.out.up A1.out).ld; clear hb)
            | (go_at_call 10; refine (MD.out _).mono ?_; rintro e t3 ⟨rfl, rfl⟩))
        all_goals
          go_wp2
          go_roundg (2 - (j + 1))
          case measure => omega
          case rel => exact ⟨j + 1, by go_num, by omega, by omega, (I.out.trans (BV.out.mono I.out.size)).trans (A2.out.mono (Nat.le_trans I.out.size BV.out.size))⟩
      · have h1' : (n0.bs.length : Int) < 100 := by omega
        have h2' : ¬ (n0.ps.length : Int) < 40 := by omega
        clear h1 h2
        go_upto_region 7 with (fail)
        obtain ⟨v1, hv⟩ : ∃ v1, v1 = wr := ⟨_, rfl⟩
        have BV := Lib.hid (show Below wr.heap.size wr v1 by rw [hv]; exact Below.refl _ _)
        rw [← hv]; clear hv
        have N1 := Lib.hid (Nr.out.up BV.out)
        have ND := Lib.hid (show NB v1.drew b0 n from ⟨N1.out.1, ⟨⟨N1.out.2.rd.r.drewN 1, N1.out.2.rd.p.drewN 1, N1.out.2.rd.bm, N1.out.2.rd.bl, N1.out.2.rd.pl⟩, N1.out.2.ba, N1.out.2.pa, N1.out.2.bc, N1.out.2.pc⟩⟩)
        have AG1 := Lib.hid (agrees_any n k a3 v1.drew ND.out.2)
        have AG2 := Lib.hid (fun X (hX : RowKit.Below v1.heap.size v1 X) => agrees_any n k ((1 : Int) + (q : Int)) X (N1.out.up hX).2)
        go_region_held3 (fun w' => Sem.run Try.prog (loadNode (.pointer (some ⟨b0, 0, none⟩))) w' = .ok (.agg n.cs) w')
          (first | exact L2.out | exact L1.out | exact run_loadNode ND.out.1)
          (first
            | (go_at_call 9; (with_reducible refine (AG2.out _ A1.out).mono ?_); rintro e t2 ⟨rfl, hb⟩; have A2 := Lib.hid (A1.out.trans (hb.mono A1.out.size)); have L2 := Lib.hid (N1.out.up A2.out).ld; clear hb)
            | (go_at_call 9; (with_reducible refine AG1.out.mono ?_); rintro e t1 ⟨rfl, hb⟩; have A1 := Lib.hid (show RowKit.Below v1.heap.size v1 t1 from ⟨hb.os, hb.tape, hb.output, hb.size, hb.block⟩); have L1 := Lib.hid (N1.out.up A1.out).ld; clear hb)
            | (go_at_call 10; refine (MD.out _).mono ?_; rintro e t3 ⟨rfl, rfl⟩))
        all_goals
          go_wp2
          go_roundg (2 - (j + 1))
          case measure => omega
          case rel => exact ⟨j + 1, by go_num, by omega, by omega, (I.out.trans (BV.out.mono I.out.size)).trans (A2.out.mono (Nat.le_trans I.out.size BV.out.size))⟩
      · have h1' : ¬ (n0.bs.length : Int) < 100 := by omega
        clear h1
        go_upto_region 7 with (fail)
        obtain ⟨v1, hv⟩ : ∃ v1, v1 = wr := ⟨_, rfl⟩
        have BV := Lib.hid (show Below wr.heap.size wr v1 by rw [hv]; exact Below.refl _ _)
        rw [← hv]; clear hv
        have N1 := Lib.hid (Nr.out.up BV.out)
        have ND := Lib.hid (show NB v1.drew b0 n from ⟨N1.out.1, ⟨⟨N1.out.2.rd.r.drewN 1, N1.out.2.rd.p.drewN 1, N1.out.2.rd.bm, N1.out.2.rd.bl, N1.out.2.rd.pl⟩, N1.out.2.ba, N1.out.2.pa, N1.out.2.bc, N1.out.2.pc⟩⟩)
        have AG1 := Lib.hid (agrees_any n k a3 v1.drew ND.out.2)
        have AG2 := Lib.hid (fun X (hX : RowKit.Below v1.heap.size v1 X) => agrees_any n k ((1 : Int) + (q : Int)) X (N1.out.up hX).2)
        go_region_held3 (fun w' => Sem.run Try.prog (loadNode (.pointer (some ⟨b0, 0, none⟩))) w' = .ok (.agg n.cs) w')
          (first | exact L2.out | exact L1.out | exact run_loadNode ND.out.1)
          (first
            | (go_at_call 9; (with_reducible refine (AG2.out _ A1.out).mono ?_); rintro e t2 ⟨rfl, hb⟩; have A2 := Lib.hid (A1.out.trans (hb.mono A1.out.size)); have L2 := Lib.hid (N1.out.up A2.out).ld; clear hb)
            | (go_at_call 9; (with_reducible refine AG1.out.mono ?_); rintro e t1 ⟨rfl, hb⟩; have A1 := Lib.hid (show RowKit.Below v1.heap.size v1 t1 from ⟨hb.os, hb.tape, hb.output, hb.size, hb.block⟩); have L1 := Lib.hid (N1.out.up A1.out).ld; clear hb)
            | (go_at_call 10; refine (MD.out _).mono ?_; rintro e t3 ⟨rfl, rfl⟩))
        all_goals
          go_wp2
          go_roundg (2 - (j + 1))
          case measure => omega
          case rel => exact ⟨j + 1, by go_num, by omega, by omega, (I.out.trans (BV.out.mono I.out.size)).trans (A2.out.mono (Nat.le_trans I.out.size BV.out.size))⟩
    · obtain rfl : j = 2 := by omega
      go_wp2_with (go_at_call 11; refine (AW.out _).mono ?_; rintro e t0 ⟨rfl, hb⟩; have A0 := Lib.hid hb; clear hb)
      go_ret
      have hh := BW.out.trans (BU.out.mono BW.out.size)
      exact ⟨rfl, (hh.trans (I.out.mono hh.size)).trans (A0.out.mono (Nat.le_trans hh.size I.out.size))⟩

/-! ### THE ROW's STEP -/
set_option maxRecDepth 100000 in
theorem lifted (os : Os) (started : os.Started) (H : Type) (enc : TypeId × Value → H) :
    ReturnsInHanded {} Try.checked os 3 .any (Rows.branchExactSpec.pre6 enc Try.prog Try.f3 Rows.branchExactRow.domain false) (Rows.branchExactSpec.post enc Try.prog Try.f3 false true false false) := by
  refine returnsInHanded_of_change (C := Try.checked) own started (by kernel_rfl) Try.func3
    (ChangeSpec.witness6 (enc := enc) (C := Try.checked) false ⟨#[], #[.agg #[.int .i64 0, .int .i64 0, .int .i64 0, .int .u64 0, .slice none 0 0, .int .u64 0, .string ByteArray.empty, .int .u64 0, .slice none 0 0, .int .i64 0, .int .i64 0, .int .i64 0, .int .i64 0, .int .i64 0], .slice none 0 0, .int .i64 0, .int .i64 0, .int .u8 0], []⟩ 8 (by kernel_rfl) (by kernel_rfl) (by kernel_rfl) (by kernel_rfl)) ?_
  intro W base args ds gs before hval0 hW hcnd _
  have hval : ∀ (j : Nat) t v, Try.f3.params[j]? = some t → args[j]? = some v → Value.okWide Try.prog W .any base t v := hval0
  have hW' := hW
  obtain ⟨p, q, hA0, hV, rfl, hfz, hnd⟩ := hW
  have hA : DataW.TrodAll enc Try.prog W 0 (fun _ => true) true Try.f3.params.toList args.toList ds p := hA0
  rw [Try.params3] at hA hval
  obtain ⟨v0, vs0, d0, ds0, p0, q0, hargs, rfl, rfl, h0, r0⟩ := trodAll_cons hA
  obtain ⟨v1, vs1, d1, ds1, p1, q1, rfl, rfl, rfl, h1, r1⟩ := trodAll_cons r0
  obtain ⟨v2, vs2, d2, ds2, p2, q2, rfl, rfl, rfl, h2, r2⟩ := trodAll_cons r1
  obtain ⟨v3, vs3, d3, ds3, p3, q3, rfl, rfl, rfl, h3, r3⟩ := trodAll_cons r2
  obtain ⟨v4, vs4, d4, ds4, p4, q4, rfl, rfl, rfl, h4, r4⟩ := trodAll_cons r3
  obtain ⟨rfl, rfl, rfl⟩ := trodAll_nil r4
  obtain rfl : args = #[v0, v1, v2, v3, v4] := by cases args; simp_all
  obtain ⟨rfl, rfl⟩ := trodVars_none hV
  have k0 := h0
  have lt0 : ∀ x ∈ p0, x.block < W.heap.size := by obtain ⟨m, hm⟩ := k0; exact DataW.trod_lt m _ _ _ hm
  obtain ⟨n0, rfl, w0⟩ := open_node (hval 0 28 v0 rfl rfl) h0
  obtain ⟨a1, len1, cap1, rfl⟩ := okWide_slice Try.underlying29 (hval 1 29 v1 rfl rfl)
  have k1 := h1
  have lt1 : ∀ x ∈ p1, x.block < W.heap.size := by obtain ⟨m, hm⟩ := k1; exact DataW.trod_lt m _ _ _ hm
  have w1 := open_intsT h1
  obtain ⟨a2, rfl, rfl, rfl, w2⟩ := open_int Try.underlying3 (hval 2 3 v2 rfl rfl) h2
  obtain ⟨a3, rfl, rfl, rfl, w3⟩ := open_int Try.underlying26 (hval 3 26 v3 rfl rfl) h3
  obtain ⟨a4, rfl, rfl, rfl, w4⟩ := open_int Try.underlying5 (hval 4 5 v4 rfl rfl) h4
  clear hA0 hval0
  refine (walk n0 a1 len1 cap1 a2 a3 a4 W w0 w1 w2 w3 w4).mono fun e W' ⟨he, bel⟩ => ?_
  subst he
  exact ⟨_, rfl, _, _, _, [], _, [], hW', trodAll_mk1 (shut_bool Try.underlying4 _), (trodAll_cons_mk (Below.trod laidOut (by kernel_rfl) (of_decide_eq_true (by kernel_rfl)) k0 bel lt0) (trodAll_cons_mk (Below.trod laidOut (by kernel_rfl) (of_decide_eq_true (by kernel_rfl)) k1 bel lt1) (trodAll_cons_mk (shut_int Try.underlying3 w2) (trodAll_cons_mk (shut_int Try.underlying26 w3) (trodAll_cons_mk (shut_int Try.underlying5 w4) trodAll_mk0))))), rfl, bel.frame _, fun h => by cases h⟩

theorem over : Rows.branchExactRow.holds Try.pinned (OpenSpec.ofChange Rows.branchExactSpec) :=
  OpenClaim.holds_of_wide 3 Try.f3 rfl rfl rfl rfl rfl rfl rfl ⟨rfl, rfl, rfl, rfl, rfl⟩ rfl rfl rfl rfl rfl (by kernel_rfl) Try.func3 (by kernel_rfl)
    (of_decide_eq_true (by kernel_rfl)) (by unfold Func.isWrapper; first | (rw [if_pos (by decide +kernel)]; kernel_rfl) | (rw [if_neg (by decide +kernel)]; exact ⟨rfl, rfl⟩))
    (fun os started H enc _ => lifted os started H enc)

/-- ████ THE STATEMENT ████ -/
theorem proved : Rows.BranchExactSaid := over
#print axioms proved
end Go.Proofs.Ytcigljjnopfohaa.branchExact
