/- For every input the Go function DualCounts of package ctrielaw08 returns true, and each argument reads afterwards as it read before. Conditions: none but those that every row of the form bears by itself. The frame follows the guide's proof-skeleton; the walk is ours. -/
import Derived.Test.YtkenhghaiedhnaaRows
import Derived.WalkKit
import Derived.ProofKit
import Derived.OpenShut
import Derived.ShutString
import Derived.ChangeOld
import Derived.Below
import Derived.Test.YtkenhghaiedhnaaFrame
import Derived.Test.YtkenhghaiedhnaaDuP
import Derived.Lib.Hide
import Derived.Deep.RegionHeld3
import Derived.Deep.DeepCutAuto
namespace Go.Proofs.Ytkenhghaiedhnaa.dualCounts
open Go.Lib
open Go.ChangeShapes Go.WideShapes Go.ChangeAt Go.RowKit
open Go.ChangeMaps (open_string shut_string)
set_option linter.unusedVariables false

theorem own : ownKnob Try.prog.godebug = none := by kernel_rfl
theorem laidOut : laidOutB Try.prog = true := by kernel_rfl
open Go.Sort
set_option maxRecDepth 100000

/-! ### STEP 1: THE WALK -/
set_option maxRecDepth 100000 in
set_option maxHeartbeats 16000000 in
theorem walk (a0 : Int) (a1 : Int) (a2 : Int) (a3 : Int) (w : World) (w0 : (Lit.int .u64 a0).wf = true) (w1 : (Lit.int .u8 a1).wf = true) (w2 : (Lit.int .u8 a2).wf = true) (w3 : (Lit.int .u8 a3).wf = true) :
    Calls Try.prog 5 #[.int .u64 a0, .int .u8 a1, .int .u8 a2, .int .u8 a3] w fun e w' => e = .returned (.bool true) ∧ Below w.heap.size w w' := by
  have mixed := mixedOrders
  have HH := Lib.hid (u64_of_wf w0)
  have B1 := Lib.hid (u8_of_wf w1)
  have L1 := Lib.hid (u8_of_wf w2)
  have G1 := Lib.hid (u8_of_wf w3)
  have AW := Lib.hid (fun V => awake_any V)
  have ST := Lib.hid (start_any a0 ⟨#[97]⟩ 1 w (by decide))
  clear w0 w1 w2 w3
  go_enter Try.func5, Try.ntmps5
  go_upto_if 27 with (fail)
  go_cut [9] (fun s9 wx => ∃ k : Int, s9 = .int .u64 k ∧ U64 k ∧ wx = w)
  case first =>
    by_cases hb : a1 < 128
    · have qb : decide (a1 < 128) = true := decide_eq_true hb
      have b30 : 0 ≤ a1 := B1.out.1
      have b31 : a1 ≤ 255 := B1.out.2
      go_wp2_with fail
      go_meet
      exact ⟨_, rfl, u64_flip a0 a1 HH.out, rfl⟩
    · have qb : decide (a1 < 128) = false := decide_eq_false hb
      go_wp2_with fail
      go_meet
      exact ⟨a0, rfl, HH.out, rfl⟩
  case rest =>
    obtain ⟨k, rfl, hku, hw⟩ := hcut
    have hw := hw.symm
    subst hw
    obtain ⟨c, hc⟩ := com_ex a0 k
    have HC := Lib.hid hc
    have HKU := Lib.hid hku
    have CM := Lib.hid (fun V => rcommon_any a0 k c HH.out hku hc V)
    clear hc hku
    go_upto_region 5 with (go_at_call 18; refine (CM.out _).mono ?_; rintro e w1 ⟨rfl, rfl⟩)
    go_cut [11] (fun s11 wx => ∃ l : Nat, l < 12 ∧ s11 = .int .i64 l ∧ wx = w)
    case first =>
      have b20 : 0 ≤ a2 := L1.out.1
      have b21 : a2 ≤ 255 := L1.out.2
      go_wp2_with fail
      go_meet
      exact ⟨(a2 % 12).toNat, by omega, by congr 1; omega, rfl⟩
    case rest =>
      obtain ⟨l, hl, rfl, hw⟩ := hcut
      have hw := hw.symm
      subst hw
      have b30 : 0 ≤ a3 := G1.out.1
      have b31 : a3 ≤ 255 := G1.out.2
      go_upto_region 7 with (go_at_call 7; refine ST.out.mono ?_; rintro e w1 ⟨qa, qm, sa, sm, rfl, hst⟩; have S1 := Lib.hid hst; clear hst)
      by_cases hlc : l ≤ c
      · have hlz : ¬ ((l : Int) > (c : Int)) := by omega
        have hlz' : ¬ ((c : Int) < (l : Int)) := by omega
        have CO := Lib.hid (counts_any 0 qa sa 0 w1 S1.out.two.a)
        rw [S1.out.len.1, S1.out.cs.1] at CO
        have XA := Lib.hid (same_f S1.out.xa)
        have P1 := Lib.hid (fun V hV => build_ok 0 qa sa 0 3 k ⟨#[98]⟩ 2 (1 + a3 % 5) l c V hV (by omega) (by omega) HKU.out (by rw [S1.out.len.1]; omega) (by rw [S1.out.cs.1]; show 0 < 900; omega) (fun _ => by rw [XA.out.2.1]; exact ⟨HH.out, HC.out⟩) (by
          refine ⟨XA.out.1, by show ((1 : Nat) : Int) ≤ 64; omega, ?_, by omega⟩
          rw [XA.out.2.2.1]
          show (⟨#[98]⟩ : ByteArray) ≠ ⟨#[97]⟩
          decide))
        have DL := Lib.hid (dual_len (duOf (nodeV sa 3) 3 k ⟨#[98]⟩ 2 (1 + a3 % 5) c) ((sa.ns.length : Int) + 1) (c - l))
        have DC := Lib.hid (dual_clen (duOf (nodeV sa 3) 3 k ⟨#[98]⟩ 2 (1 + a3 % 5) c) ((sa.ns.length : Int) + 1) (c - l))
        have HC1 := Lib.hid HC.out.1
        obtain ⟨ol, hol⟩ : ∃ ol, ol = dualL (duOf (nodeV sa 3) 3 k ⟨#[98]⟩ 2 (1 + a3 % 5) c) ((sa.ns.length : Int) + 1) (c - l) := ⟨_, rfl⟩
        rw [← hol] at P1 DL DC
        unfold BuildP at P1
        clear hol
        go_upto_region 12 with (first
          | (go_at_call 8; refine P2.out.mono ?_; rintro e w3 ⟨t, rfl, hR⟩; have R3 := Lib.hid hR; have CO2 := Lib.hid (counts_any 0 qa t 0 w3 hR.ob); clear hR)
          | (go_at_call 19; (with_reducible refine CO2.out.mono ?_); rintro e w4 ⟨rfl, hg⟩; have B4 := Lib.hid hg.b; clear hg)
          | (go_at_call 19; (with_reducible refine CO.out.mono ?_); rintro e w2 ⟨rfl, hg⟩; have B2 := Lib.hid hg.b; have P2 := Lib.hid (P1.out w2 (S1.out.two.a.up hg.b)); clear hg))
        have N1 : (t.ns.length : Int) = 3 + (ol.length : Int) := by have h1 := R3.out.len; rw [S1.out.len.1] at h1; omega
        have N2 : (t.cs.length : Int) = 1 + 2 * ((c : Int) - (l : Int)) := by
          have h1 := R3.out.rans.cs
          rw [S1.out.cs.1, List.nil_append] at h1
          rw [h1, DC.out]
          omega
        have c11 := HC1.out
        have BF := Lib.hid (show RowKit.Below w.heap.size w w4 from (((S1.out.bel.trans (B2.out.mono S1.out.bel.size)).trans (R3.out.bel (Nat.le_trans S1.out.bel.size B2.out.size) S1.out.ma)).trans (B4.out.mono (Nat.le_trans (Nat.le_trans S1.out.bel.size B2.out.size) R3.out.fr.size))))
        have m1 : wrap64 ((c : Int) - (l : Int)) = (c : Int) - (l : Int) := IntWalk.wrap64_in _ (by omega)
        have m2 : wrap64 (2 * ((c : Int) - (l : Int))) = 2 * ((c : Int) - (l : Int)) := IntWalk.wrap64_in _ (by omega)
        have m3 : wrap64 (2 + 2 * ((c : Int) - (l : Int))) = 2 + 2 * ((c : Int) - (l : Int)) := IntWalk.wrap64_in _ (by omega)
        have m4 : wrap64 (2 + 2 * ((c : Int) - (l : Int)) - 1) = 1 + 2 * ((c : Int) - (l : Int)) := (IntWalk.wrap64_in _ (by omega)).trans (by omega)
        have hz : wrap64 (3 + (ol.length : Int) - 3) = (ol.length : Int) := (IntWalk.wrap64_in _ (by have h2 := DL.out; split at h2 <;> omega)).trans (by omega)
        by_cases h11 : c = 11
        · have e1 : ((c : Int) == 11) = true := by rw [h11]; rfl
          have L3 : (ol.length : Int) = 1 + 2 * ((c : Int) - (l : Int)) := by
            have h2 := DL.out
            rw [if_pos (show (duOf (nodeV sa 3) 3 k ⟨#[98]⟩ 2 (1 + a3 % 5) c).c = 11 from h11)] at h2
            omega
          go_wp2_with (go_at_call 6; refine (AW.out _).mono ?_; rintro e w5 ⟨rfl, hb⟩; have B5 := Lib.hid (below_of BF.out hb); clear hb)
          all_goals first
            | (exfalso; omega)
            | (go_ret; exact ⟨rfl, B5.out⟩)
        · have e1 : ((c : Int) == 11) = false := beq_eq_false_iff_ne.2 (by omega)
          have L3 : (ol.length : Int) = 2 + 2 * ((c : Int) - (l : Int)) := by
            have h2 := DL.out
            rw [if_neg (show ¬ (duOf (nodeV sa 3) 3 k ⟨#[98]⟩ 2 (1 + a3 % 5) c).c = 11 from h11)] at h2
            omega
          go_wp2_with (go_at_call 6; refine (AW.out _).mono ?_; rintro e w5 ⟨rfl, hb⟩; have B5 := Lib.hid (below_of BF.out hb); clear hb)
          all_goals first
            | (exfalso; omega)
            | (go_ret; exact ⟨rfl, B5.out⟩)
      · have hlz : (l : Int) > (c : Int) := by omega
        have hlz' : (c : Int) < (l : Int) := by omega
        go_wp2_with (go_at_call 6; refine (AW.out _).mono ?_; rintro e w2 ⟨rfl, hb⟩; have B2 := Lib.hid (below_of S1.out.bel hb); clear hb)
        go_ret
        exact ⟨rfl, B2.out⟩
/-! ### THE ROW's STEP -/
set_option maxRecDepth 100000 in
theorem lifted (os : Os) (started : os.Started) (H : Type) (enc : TypeId × Value → H) :
    ReturnsInHanded {} Try.checked os 5 .any (Rows.dualCountsSpec.pre6 enc Try.prog Try.f5 Rows.dualCountsRow.domain false) (Rows.dualCountsSpec.post enc Try.prog Try.f5 false true false false) := by
  refine returnsInHanded_of_change (C := Try.checked) own started (by kernel_rfl) Try.func5
    (ChangeSpec.witness6 (enc := enc) (C := Try.checked) false ⟨#[], #[.int .u64 0, .int .u8 0, .int .u8 0, .int .u8 0], []⟩ 8 (by kernel_rfl) (by kernel_rfl) (by kernel_rfl) (by kernel_rfl)) ?_
  intro W base args ds gs before hval0 hW hcnd _
  have hval : ∀ (j : Nat) t v, Try.f5.params[j]? = some t → args[j]? = some v → Value.okWide Try.prog W .any base t v := hval0
  have hW' := hW
  obtain ⟨p, q, hA0, hV, rfl, hfz, hnd⟩ := hW
  have hA : DataW.TrodAll enc Try.prog W 0 (fun _ => true) true Try.f5.params.toList args.toList ds p := hA0
  rw [Try.params5] at hA hval
  obtain ⟨v0, vs0, d0, ds0, p0, q0, hargs, rfl, rfl, h0, r0⟩ := trodAll_cons hA
  obtain ⟨v1, vs1, d1, ds1, p1, q1, rfl, rfl, rfl, h1, r1⟩ := trodAll_cons r0
  obtain ⟨v2, vs2, d2, ds2, p2, q2, rfl, rfl, rfl, h2, r2⟩ := trodAll_cons r1
  obtain ⟨v3, vs3, d3, ds3, p3, q3, rfl, rfl, rfl, h3, r3⟩ := trodAll_cons r2
  obtain ⟨rfl, rfl, rfl⟩ := trodAll_nil r3
  obtain rfl : args = #[v0, v1, v2, v3] := by cases args; simp_all
  obtain ⟨rfl, rfl⟩ := trodVars_none hV
  obtain ⟨a0, rfl, rfl, rfl, w0⟩ := open_int Try.underlying22 (hval 0 22 v0 rfl rfl) h0
  obtain ⟨a1, rfl, rfl, rfl, w1⟩ := open_int Try.underlying5 (hval 1 5 v1 rfl rfl) h1
  obtain ⟨a2, rfl, rfl, rfl, w2⟩ := open_int Try.underlying5 (hval 2 5 v2 rfl rfl) h2
  obtain ⟨a3, rfl, rfl, rfl, w3⟩ := open_int Try.underlying5 (hval 3 5 v3 rfl rfl) h3
  clear hA0 hval0
  refine (walk a0 a1 a2 a3 W w0 w1 w2 w3).mono fun e W' ⟨he, bel⟩ => ?_
  subst he
  exact ⟨_, rfl, _, _, _, [], _, [], hW', trodAll_mk1 (shut_bool Try.underlying4 _), (trodAll_cons_mk (shut_int Try.underlying22 w0) (trodAll_cons_mk (shut_int Try.underlying5 w1) (trodAll_cons_mk (shut_int Try.underlying5 w2) (trodAll_cons_mk (shut_int Try.underlying5 w3) trodAll_mk0)))), rfl, bel.frame _, fun h => by cases h⟩

theorem over : Rows.dualCountsRow.holds Try.pinned (OpenSpec.ofChange Rows.dualCountsSpec) :=
  OpenClaim.holds_of_wide 5 Try.f5 rfl rfl rfl rfl rfl rfl rfl ⟨rfl, rfl, rfl, rfl, rfl⟩ rfl rfl rfl rfl rfl (by kernel_rfl) Try.func5 (by kernel_rfl)
    (of_decide_eq_true (by kernel_rfl)) (by unfold Func.isWrapper; first | (rw [if_pos (by decide +kernel)]; kernel_rfl) | (rw [if_neg (by decide +kernel)]; exact ⟨rfl, rfl⟩))
    (fun os started H enc _ => lifted os started H enc)

/-- ████ THE STATEMENT ████ -/
theorem proved : Rows.DualCountsSaid := over
#print axioms proved
end Go.Proofs.Ytkenhghaiedhnaa.dualCounts
