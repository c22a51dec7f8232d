/- For every input the Go function DualExact of package ctrielaw08 returns true, and each argument reads afterwards as it read before. Conditions: none but those that every row of the form bears by itself. The frame follows the guide's proof-skeleton; the walk is ours. -/
import Derived.Test.YtkenhghaiedhnaaRows
import Derived.WalkKit
import Derived.ProofKit
import Derived.OpenShut
import Derived.ShutString
import Derived.ChangeOld
import Derived.Below
import Derived.Test.YtkenhghaiedhnaaFrame
import Derived.Test.YtkenhghaiedhnaaDuP
import Derived.Lib.Hide
import Derived.Deep.RegionHeld3
import Derived.Deep.DeepCutAuto
namespace Go.Proofs.Ytkenhghaiedhnaa.dualExact
open Go.Lib
open Go.ChangeShapes Go.WideShapes Go.ChangeAt Go.RowKit
open Go.ChangeMaps (open_string shut_string)
set_option linter.unusedVariables false

theorem own : ownKnob Try.prog.godebug = none := by kernel_rfl
theorem laidOut : laidOutB Try.prog = true := by kernel_rfl
open Go.Sort
set_option maxRecDepth 100000

/-! ### STEP 1: THE WALK -/
set_option maxRecDepth 100000 in
set_option maxHeartbeats 16000000 in
theorem walk (a0 : Int) (a1 : Int) (a2 : ByteArray) (a3 : ByteArray) (a4 : Int) (a5 : Int) (a6 : Int) (a7 : Int) (a8 : Bool) (w : World) (w0 : (Lit.int .u64 a0).wf = true) (w1 : (Lit.int .u8 a1).wf = true) (w2 : a2.size ≤ maxLen) (w3 : a3.size ≤ maxLen) (w4 : (Lit.int .u64 a4).wf = true) (w5 : (Lit.int .u64 a5).wf = true) (w6 : (Lit.int .i64 a6).wf = true) (w7 : (Lit.int .i64 a7).wf = true) (w8 : True) :
    Calls Try.prog 3 #[.int .u64 a0, .int .u8 a1, .string a2, .string a3, .int .u64 a4, .int .u64 a5, .int .i64 a6, .int .i64 a7, .bool a8] w fun e w' => e = .returned (.bool true) ∧ Below w.heap.size w w' := by
  have mixed := mixedOrders
  have HH := Lib.hid (u64_of_wf w0)
  have AW := Lib.hid (fun V => awake_any V)
  have B1 := Lib.hid (u8_of_wf w1)
  have A5 := Lib.hid (u64_of_wf w5)
  clear w0 w1 w2 w3 w4 w5 w6 w7 w8
  go_enter Try.func3, Try.ntmps3
  go_upto_if 27 with (fail)
  go_cut [6, 7] (fun s6 s7 wx => ∃ lv gn : Int, s6 = .int .i64 lv ∧ s7 = .int .i64 gn ∧ wx = w)
  case first =>
    cases a8
    all_goals
      go_wp2_with fail
      go_meet
      exact ⟨_, _, rfl, rfl, rfl⟩
  case rest =>
    obtain ⟨lv, gn, rfl, rfl, hw⟩ := hcut
    have hw := hw.symm
    subst hw
    by_cases hkl : (64 : Int) < (a2.size : Int)
    · have q0 : decide ((64 : Int) < (a2.size : Int)) = true := decide_eq_true hkl
      have q0' : decide ((a2.size : Int) > 64) = true := q0
      go_wp2_with (go_at_call 6; refine (AW.out _).mono ?_; rintro e w2 ⟨rfl, hb⟩; have B2 := Lib.hid hb; clear hb)
      go_ret
      exact ⟨rfl, B2.out⟩
    · have q0 : decide ((64 : Int) < (a2.size : Int)) = false := decide_eq_false hkl
      have q0' : decide ((a2.size : Int) > 64) = false := q0
      have HKL := Lib.hid (show a2.size ≤ 64 by omega)
      clear hkl
      go_upto_if 43 with (fail)
      clear q0 q0'
      go_cut [19] (fun s19 wx => ∃ k : Int, s19 = .int .u64 k ∧ U64 k ∧ wx = w)
      case first =>
        by_cases hb : a1 < 128
        · have qb : decide (a1 < 128) = true := decide_eq_true hb
          have b30 : 0 ≤ a1 := B1.out.1
          have b31 : a1 ≤ 255 := B1.out.2
          go_wp2_with fail
          go_meet
          exact ⟨_, rfl, u64_flip a0 a1 HH.out, rfl⟩
        · have qb : decide (a1 < 128) = false := decide_eq_false hb
          go_wp2_with fail
          go_meet
          exact ⟨a0, rfl, HH.out, rfl⟩
      case rest =>
        obtain ⟨k, rfl, hku, hw⟩ := hcut
        have hw := hw.symm
        subst hw
        obtain ⟨c, hc⟩ := com_ex a0 k
        have HC := Lib.hid hc
        have HKU := Lib.hid hku
        have ST := Lib.hid (start_any a0 a2 a4 w HKL.out)
        clear hc hku
        go_upto_region 11 with (go_at_call 7; refine ST.out.mono ?_; rintro e w1 ⟨qa, qm, sa, sm, rfl, hst⟩; have S1 := Lib.hid hst; clear hst)
        clear ST
        go_cut [23, 24] (fun s23 s24 wx => ∃ (z ev : Int), s23 = .int .i64 z ∧ s24 = .int .i64 ev ∧ Aside (Calls Try.prog 9 #[.pointer (some ⟨qm, 0, none⟩), .int .i64 3, .int .u64 k, .string a3, .int .u64 a5, .int .i64 lv, .int .i64 gn] wx fun e w' => ∃ (sa' sm' : Sd), e = .returned (.tuple #[.int .i64 z, .int .i64 ev]) ∧ Two w' qa qm sa' sm' 0 0 ∧ RowKit.Below w.heap.size w w'))
        case first =>
          have XA := Lib.hid (same_f S1.out.xa)
          have XM := Lib.hid (same_f S1.out.xm)
          have SX := Lib.hid (S1.out.xa.symm.trans S1.out.xm)
          have HUa := Lib.hid (show (nodeV sa 3).kind = 4 → U64 (nodeV sa 3).hash ∧ IsCom (nodeV sa 3).hash k c from fun _ => by rw [XA.out.2.1]; exact ⟨HH.out, HC.out⟩)
          have HUm := Lib.hid (show (nodeV sm 3).kind = 4 → U64 (nodeV sm 3).hash ∧ IsCom (nodeV sm 3).hash k c from fun _ => by rw [XM.out.2.1]; exact ⟨HH.out, HC.out⟩)
          by_cases hr : lv < 0 ∨ 11 < lv ∨ gn < 1
          · have P1 := Lib.hid (build_range qa 3 k a3 a5 lv gn w1 hr)
            have P2 := Lib.hid (show Calls Try.prog 9 #[.pointer (some ⟨qm, 0, none⟩), .int .i64 3, .int .u64 k, .string a3, .int .u64 a5, .int .i64 lv, .int .i64 gn] w1 (fun e w' => ∃ (sa' sm' : Sd), e = .returned (.tuple #[.int .i64 0, .int .i64 2]) ∧ Two w' qa qm sa' sm' 0 0 ∧ RowKit.Below w.heap.size w w') from (rbuild_range qm 3 k a3 a5 lv gn w1 hr).mono fun e w' ⟨he, hw⟩ => ⟨sa, sm, he, hw ▸ S1.out.two, hw ▸ S1.out.bel⟩)
            clear hr
            go_wp2_with (go_at_call 8; refine P1.out.mono ?_; rintro e w2 ⟨rfl, rfl⟩)
            go_meet
            exact ⟨0, 2, rfl, rfl, P2.out⟩
          · obtain ⟨n, rfl⟩ : ∃ n : Nat, lv = (n : Int) := ⟨lv.toNat, by omega⟩
            have HN := Lib.hid (show n ≤ 11 ∧ 1 ≤ gn from ⟨by omega, by omega⟩)
            clear hr
            by_cases hm : Meet (nodeV sa 3) (singN k a3 a5) c n
            · have P1 := Lib.hid (build_ok 0 qa sa 0 3 k a3 a5 gn n c w1 S1.out.two.a HN.out.1 HN.out.2 HKU.out (by rw [S1.out.len.1]; omega) (by rw [S1.out.cs.1]; show 0 < 900; omega) HUa.out hm)
              have P2 := Lib.hid (fun V hV => rbuild_ok 0 qm sm 0 3 k a3 a5 gn n c V hV HN.out.1 HN.out.2 HKU.out (by rw [S1.out.len.2]; omega) (by rw [S1.out.cs.2]; show 0 < 900; omega) HUm.out ((meet_same SX.out).2 hm))
              unfold BuildP at P1
              unfold RBuildP at P2
              rw [duOf_same SX.out, show ((sm.ns.length : Nat) : Int) = (sa.ns.length : Int) by rw [S1.out.len.1, S1.out.len.2]] at P2
              obtain ⟨l, hl⟩ : ∃ l, l = dualL (duOf (nodeV sa 3) 3 k a3 a5 gn c) ((sa.ns.length : Int) + 1) (c - n) := ⟨_, rfl⟩
              rw [← hl] at P1 P2
              clear hm hl
              go_wp2_with (go_at_call 8; refine P1.out.mono ?_; rintro e w2 ⟨sa', rfl, hR⟩; have R1 := Lib.hid hR; clear hR)
              go_meet
              exact ⟨_, 0, rfl, rfl, (P2.out w2 (S1.out.two.mid R1.out.did)).mono fun e w3 ⟨sm', he, hR⟩ => ⟨sa', sm', he, two_builds S1.out.two R1.out hR, (S1.out.bel.trans (R1.out.bel S1.out.bel.size S1.out.ma)).trans (hR.bel (Nat.le_trans S1.out.bel.size R1.out.fr.size) S1.out.mm)⟩⟩
            · have P1 := Lib.hid (build_bad 0 qa sa 0 3 k a3 a5 gn n c w1 S1.out.two.a HN.out.1 HN.out.2 HKU.out HUa.out hm)
              have P2 := Lib.hid (fun V hV => rbuild_bad 0 qm sm 0 3 k a3 a5 n gn c V hV (by omega) (by have := HN.out.1; omega) HN.out.2 HKU.out HUm.out (fun h => hm ((meet_same SX.out).1 h)))
              clear hm
              go_wp2_with (go_at_call 8; refine P1.out.mono ?_; rintro e w2 ⟨rfl, hb⟩; have B2 := Lib.hid hb; clear hb)
              go_meet
              exact ⟨0, 1, rfl, rfl, (P2.out w2 (S1.out.two.m.up B2.out)).mono fun e w3 ⟨he, hb⟩ => ⟨sa, sm, he, S1.out.two.below (below_of B2.out hb), below_of S1.out.bel (below_of B2.out hb)⟩⟩
        case rest =>
          obtain ⟨z, ev, rfl, rfl, hcl⟩ := hcut
          have CL := Lib.hid hcl.out
          clear hcl
          go_upto_region 13 with (go_at_call 9; refine CL.out.mono ?_; rintro e w3 ⟨sa', sm', rfl, ht, hb⟩; have TW := Lib.hid ht; have BW := Lib.hid hb; clear ht hb)
          clear CL S1 HC HKU HKL
          have BD := Lib.hid (show RowKit.Below w3.heap.size w3 w3.drew from ⟨rfl, rfl, rfl, Nat.le_refl _, fun _ _ => rfl⟩)
          have MA := Lib.hid (show ∀ V, RowKit.Below w3.heap.size w3 V → V.cell? ⟨qm, 0, none⟩ = some (.slice sm'.nA sm'.ns.length sm'.nc) ∧ V.cell? ⟨qm, 1, none⟩ = some (.slice sm'.cA sm'.cs.length sm'.cc) ∧ V.cell? ⟨qm, 2, none⟩ = some (.int .i64 sm'.gen) from fun V hV => by
            have hb := (TW.out.m.up hV).blk
            exact ⟨block_cell hb rfl, block_cell hb rfl, block_cell hb rfl⟩)
          go_region_held3 (fun w' => w'.cell? ⟨qm, 0, none⟩ = some (.slice sm'.nA sm'.ns.length sm'.nc) ∧ w'.cell? ⟨qm, 1, none⟩ = some (.slice sm'.cA sm'.cs.length sm'.cc) ∧ w'.cell? ⟨qm, 2, none⟩ = some (.int .i64 sm'.gen))
            (exact MA.out _ (by first | exact B6.out | exact B5.out | exact B4.out | exact BD.out))
            (first
              | (go_at_call 6; (with_reducible refine (AW.out _).mono ?_); rintro e w4 ⟨rfl, hb⟩; have B4 := Lib.hid (below_of BD.out hb); have ST4 := Lib.hid (let T := TW.out.below (below_of BD.out hb); state_d T.a T.ns T.cs T.gen); clear hb)
              | (go_at_call 11; (with_reducible refine ST4.out.mono ?_); rintro e w5 ⟨u, rfl, hus, hur, hb⟩; have B5 := Lib.hid (below_of B4.out hb); have SM := Lib.hid (same_c (TW.out.m.up (below_of B4.out hb)).srd hur hus (Nat.le_refl _)); clear hus hur hb)
              | (go_at_call 10; (with_reducible refine SM.out.mono ?_); rintro e w6 ⟨rfl, hb⟩; have B6 := Lib.hid (below_of B5.out hb); clear hb))
          all_goals
            go_wp2
            go_ret
            exact ⟨rfl, below_of BW.out B6.out⟩
/-! ### THE ROW's STEP -/
set_option maxRecDepth 100000 in
theorem lifted (os : Os) (started : os.Started) (H : Type) (enc : TypeId × Value → H) :
    ReturnsInHanded {} Try.checked os 3 .any (Rows.dualExactSpec.pre6 enc Try.prog Try.f3 Rows.dualExactRow.domain false) (Rows.dualExactSpec.post enc Try.prog Try.f3 false true false false) := by
  refine returnsInHanded_of_change (C := Try.checked) own started (by kernel_rfl) Try.func3
    (ChangeSpec.witness6 (enc := enc) (C := Try.checked) false ⟨#[], #[.int .u64 0, .int .u8 0, .string ByteArray.empty, .string ByteArray.empty, .int .u64 0, .int .u64 0, .int .i64 0, .int .i64 0, .bool false], []⟩ 8 (by kernel_rfl) (by kernel_rfl) (by kernel_rfl) (by kernel_rfl)) ?_
  intro W base args ds gs before hval0 hW hcnd _
  have hval : ∀ (j : Nat) t v, Try.f3.params[j]? = some t → args[j]? = some v → Value.okWide Try.prog W .any base t v := hval0
  have hW' := hW
  obtain ⟨p, q, hA0, hV, rfl, hfz, hnd⟩ := hW
  have hA : DataW.TrodAll enc Try.prog W 0 (fun _ => true) true Try.f3.params.toList args.toList ds p := hA0
  rw [Try.params3] at hA hval
  obtain ⟨v0, vs0, d0, ds0, p0, q0, hargs, rfl, rfl, h0, r0⟩ := trodAll_cons hA
  obtain ⟨v1, vs1, d1, ds1, p1, q1, rfl, rfl, rfl, h1, r1⟩ := trodAll_cons r0
  obtain ⟨v2, vs2, d2, ds2, p2, q2, rfl, rfl, rfl, h2, r2⟩ := trodAll_cons r1
  obtain ⟨v3, vs3, d3, ds3, p3, q3, rfl, rfl, rfl, h3, r3⟩ := trodAll_cons r2
  obtain ⟨v4, vs4, d4, ds4, p4, q4, rfl, rfl, rfl, h4, r4⟩ := trodAll_cons r3
  obtain ⟨v5, vs5, d5, ds5, p5, q5, rfl, rfl, rfl, h5, r5⟩ := trodAll_cons r4
  obtain ⟨v6, vs6, d6, ds6, p6, q6, rfl, rfl, rfl, h6, r6⟩ := trodAll_cons r5
  obtain ⟨v7, vs7, d7, ds7, p7, q7, rfl, rfl, rfl, h7, r7⟩ := trodAll_cons r6
  obtain ⟨v8, vs8, d8, ds8, p8, q8, rfl, rfl, rfl, h8, r8⟩ := trodAll_cons r7
  obtain ⟨rfl, rfl, rfl⟩ := trodAll_nil r8
  obtain rfl : args = #[v0, v1, v2, v3, v4, v5, v6, v7, v8] := by cases args; simp_all
  obtain ⟨rfl, rfl⟩ := trodVars_none hV
  obtain ⟨a0, rfl, rfl, rfl, w0⟩ := open_int Try.underlying22 (hval 0 22 v0 rfl rfl) h0
  obtain ⟨a1, rfl, rfl, rfl, w1⟩ := open_int Try.underlying5 (hval 1 5 v1 rfl rfl) h1
  obtain ⟨a2, rfl, rfl, rfl, w2⟩ := open_string Try.underlying9 (hval 2 9 v2 rfl rfl) h2
  obtain ⟨a3, rfl, rfl, rfl, w3⟩ := open_string Try.underlying9 (hval 3 9 v3 rfl rfl) h3
  obtain ⟨a4, rfl, rfl, rfl, w4⟩ := open_int Try.underlying22 (hval 4 22 v4 rfl rfl) h4
  obtain ⟨a5, rfl, rfl, rfl, w5⟩ := open_int Try.underlying22 (hval 5 22 v5 rfl rfl) h5
  obtain ⟨a6, rfl, rfl, rfl, w6⟩ := open_int Try.underlying3 (hval 6 3 v6 rfl rfl) h6
  obtain ⟨a7, rfl, rfl, rfl, w7⟩ := open_int Try.underlying3 (hval 7 3 v7 rfl rfl) h7
  obtain ⟨a8, rfl, rfl, rfl⟩ := open_bool Try.underlying4 (hval 8 4 v8 rfl rfl) h8
  clear hA0 hval0
  refine (walk a0 a1 a2 a3 a4 a5 a6 a7 a8 W w0 w1 w2 w3 w4 w5 w6 w7 trivial).mono fun e W' ⟨he, bel⟩ => ?_
  subst he
  exact ⟨_, rfl, _, _, _, [], _, [], hW', trodAll_mk1 (shut_bool Try.underlying4 _), (trodAll_cons_mk (shut_int Try.underlying22 w0) (trodAll_cons_mk (shut_int Try.underlying5 w1) (trodAll_cons_mk (shut_string Try.underlying9 w2) (trodAll_cons_mk (shut_string Try.underlying9 w3) (trodAll_cons_mk (shut_int Try.underlying22 w4) (trodAll_cons_mk (shut_int Try.underlying22 w5) (trodAll_cons_mk (shut_int Try.underlying3 w6) (trodAll_cons_mk (shut_int Try.underlying3 w7) (trodAll_cons_mk (shut_bool Try.underlying4 _) trodAll_mk0))))))))), rfl, bel.frame _, fun h => by cases h⟩

theorem over : Rows.dualExactRow.holds Try.pinned (OpenSpec.ofChange Rows.dualExactSpec) :=
  OpenClaim.holds_of_wide 3 Try.f3 rfl rfl rfl rfl rfl rfl rfl ⟨rfl, rfl, rfl, rfl, rfl⟩ rfl rfl rfl rfl rfl (by kernel_rfl) Try.func3 (by kernel_rfl)
    (of_decide_eq_true (by kernel_rfl)) (by unfold Func.isWrapper; first | (rw [if_pos (by decide +kernel)]; kernel_rfl) | (rw [if_neg (by decide +kernel)]; exact ⟨rfl, rfl⟩))
    (fun os started H enc _ => lifted os started H enc)

/-- ████ THE STATEMENT ████ -/
theorem proved : Rows.DualExactSaid := over
#print axioms proved
end Go.Proofs.Ytkenhghaiedhnaa.dualExact
