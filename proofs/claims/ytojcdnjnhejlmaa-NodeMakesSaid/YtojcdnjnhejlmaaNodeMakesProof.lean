/- For every input the Go function NodeMakes of package ctrielaw04 returns true, and each argument reads afterwards as it read before. Conditions: none but those that every row of the form bears by itself. The frame follows the guide's proof-skeleton; the walk is ours. -/
import Derived.Test.YtojcdnjnhejlmaaRows
import Derived.WalkKit
import Derived.ProofKit
import Derived.OpenShut
import Derived.ShutString
import Derived.ChangeOld
import Derived.Below
import Derived.Test.YtojcdnjnhejlmaaFrame
import Derived.Test.YtojcdnjnhejlmaaWalksX
import Derived.Test.YtojcdnjnhejlmaaEqR
import Derived.Lib.Hide
namespace Go.Proofs.Ytojcdnjnhejlmaa.nodeMakes
open Go.Lib
open Go.ChangeShapes Go.WideShapes Go.ChangeAt Go.RowKit
open Go.ChangeMaps (open_string shut_string)
set_option linter.unusedVariables false

theorem own : ownKnob Try.prog.godebug = none := by kernel_rfl
theorem laidOut : laidOutB Try.prog = true := by kernel_rfl

theorem eqN_refl (n : Nd) : eqN n n = true := by simp [eqN]
theorem requal_at (a b : Nd) (r : Bool) (hr : eqN a b = r) (w : World) (ha : NRd w w.heap.size a) (hb : NRd w w.heap.size b) : Calls Try.prog 16 #[.agg a.cs, .agg b.cs] w fun e w' => e = .returned (.bool r) ∧ Below w.heap.size w w' := by
  subst hr
  exact (requal_any a b w.heap.size w ha hb (Nat.le_refl _)).mono fun _ _ ⟨he, hg⟩ => ⟨he, hg.b⟩

/-! ### STEP 1: THE WALK -/
set_option maxRecDepth 100000 in
set_option maxHeartbeats 16000000 in
theorem walk (a0 : Int) (a1 : Int) (a2 : ByteArray) (a3 : Int) (a4 : Option Addr) (len4 cap4 : Nat) (z4 : List Pr) (a5 : Int) (a6 : Int) (a7 : Int) (w : World) (w0 : (Lit.int .i64 a0).wf = true) (w1 : (Lit.int .u64 a1).wf = true) (w2 : a2.size ≤ maxLen) (w3 : (Lit.int .u64 a3).wf = true) (w4 : IsList w a4 len4 cap4 z4) (w5 : (Lit.int .i64 a5).wf = true) (w6 : (Lit.int .i64 a6).wf = true) (w7 : (Lit.int .i64 a7).wf = true) :
    Calls Try.prog 4 #[.int .i64 a0, .int .u64 a1, .string a2, .int .u64 a3, .slice a4 len4 cap4, .int .i64 a5, .int .i64 a6, .int .i64 a7] w fun e w' => e = .returned (.bool true) ∧ Below w.heap.size w w' := by
  obtain ⟨rfl, hc4, hR4, hA4⟩ := w4
  obtain ⟨y, hy⟩ : ∃ y, y = z4.take 30 := ⟨_, rfl⟩
  have cfirst := firstP_any a4 cap4 z4 30 w hc4 (by omega)
  rw [← hy] at cfirst
  have RY := Lib.hid (hR4.take 30)
  rw [← hy] at RY
  have hyl : y.length ≤ 30 := by rw [hy]; simp; omega
  have HA := Lib.hid hA4
  have HB := Lib.hid (Below.refl w.heap.size w)
  have u1 := Lib.hid (u64_of_wf w1)
  clear hy hR4 hA4 w0 w1 w2 w3 w5 w6 w7
  go_enter Try.func4, Try.ntmps4
  (try simp only [List.append])
  go_wp2_with (go_at_call 17; refine cfirst.mono ?_; rintro e w9 ⟨rfl, rfl⟩)
  clear cfirst
  refine (awake_any _).mono ?_
  rintro e u1' ⟨rfl, hb⟩
  have HB := Lib.hid (HB.out.trans (hb.mono HB.out.size))
  have RY := Lib.hid (RY.out.up hb)
  clear hb
  go_wp2_with fail
  refine (inner_any a0 _).mono ?_
  rintro e u1 ⟨rfl, hg⟩
  have hb := hg.b
  have HB := Lib.hid (HB.out.trans (hb.mono HB.out.size))
  have RY := Lib.hid (RY.out.up hb)
  clear hb hg
  go_wp2_with fail
  refine (requal_at { Nd.zero with kind := 2, gen := a0 } { Nd.zero with kind := 2, gen := a0 } true (eqN_refl _) _ (nrd_plain rfl rfl rfl) (nrd_plain rfl rfl rfl)).mono ?_
  rintro e u2 ⟨rfl, hb⟩
  have HB := Lib.hid (HB.out.trans (hb.mono HB.out.size))
  have RY := Lib.hid (RY.out.up hb)
  clear hb
  go_wp2_with fail
  refine (empty_any _).mono ?_
  rintro e u3 ⟨rfl, hg⟩
  have hb := hg.b
  have HB := Lib.hid (HB.out.trans (hb.mono HB.out.size))
  have RY := Lib.hid (RY.out.up hb)
  clear hb hg
  go_wp2_with fail
  refine (requal_at { Nd.zero with kind := 3 } { Nd.zero with kind := 3 } true (eqN_refl _) _ (nrd_plain rfl rfl rfl) (nrd_plain rfl rfl rfl)).mono ?_
  rintro e u4 ⟨rfl, hb⟩
  have HB := Lib.hid (HB.out.trans (hb.mono HB.out.size))
  have RY := Lib.hid (RY.out.up hb)
  clear hb
  go_wp2_with fail
  refine (single_any a1 a2 a3 _).mono ?_
  rintro e u5 ⟨rfl, hg⟩
  have hb := hg.b
  have HB := Lib.hid (HB.out.trans (hb.mono HB.out.size))
  have RY := Lib.hid (RY.out.up hb)
  clear hb hg
  go_wp2_with fail
  refine (requal_at { Nd.zero with kind := 4, hash := a1, key := a2, val := a3 } { Nd.zero with kind := 4, hash := a1, key := a2, val := a3 } true (eqN_refl _) _ (nrd_plain rfl rfl rfl) (nrd_plain rfl rfl rfl)).mono ?_
  rintro e u6 ⟨rfl, hb⟩
  have HB := Lib.hid (HB.out.trans (hb.mono HB.out.size))
  have RY := Lib.hid (RY.out.up hb)
  clear hb
  go_wp2_with fail
  refine (tomb_any a1 a2 a3 _).mono ?_
  rintro e u7 ⟨rfl, hg⟩
  have hb := hg.b
  have HB := Lib.hid (HB.out.trans (hb.mono HB.out.size))
  have RY := Lib.hid (RY.out.up hb)
  clear hb hg
  go_wp2_with fail
  refine (requal_at { Nd.zero with kind := 5, hash := a1, key := a2, val := a3 } { Nd.zero with kind := 5, hash := a1, key := a2, val := a3 } true (eqN_refl _) _ (nrd_plain rfl rfl rfl) (nrd_plain rfl rfl rfl)).mono ?_
  rintro e u8 ⟨rfl, hb⟩
  have HB := Lib.hid (HB.out.trans (hb.mono HB.out.size))
  have RY := Lib.hid (RY.out.up hb)
  clear hb
  go_wp2_with fail
  refine (list_any a1 a4 cap4 y _ RY.out HA.out (by omega)).mono ?_
  rintro e u9 ⟨A1, c1, rfl, ho, hb⟩
  have RL := Lib.hid (Own.rdX ho).rd
  have HB := Lib.hid (HB.out.trans (hb.mono HB.out.size))
  have RY := Lib.hid (RY.out.up hb)
  clear hb ho
  go_wp2_with fail
  refine (requal_at { Nd.zero with kind := 6, hash := a1, pA := A1, pc := c1, ps := y } { Nd.zero with kind := 6, hash := a1, pA := a4, pc := cap4, ps := y } true (by simp [eqN]) _ ⟨RdR.nil, RL.out, u64_zero, Nat.zero_le _, Nat.le_trans hyl (by omega)⟩ ⟨RdR.nil, RY.out, u64_zero, Nat.zero_le _, Nat.le_trans hyl (by omega)⟩).mono ?_
  rintro e u10 ⟨rfl, hb⟩
  have HB := Lib.hid (HB.out.trans (hb.mono HB.out.size))
  have RY := Lib.hid (RY.out.up hb)
  clear hb RL
  go_wp2_with fail
  refine (failed_any a5 _).mono ?_
  rintro e u11 ⟨rfl, hg⟩
  have hb := hg.b
  have HB := Lib.hid (HB.out.trans (hb.mono HB.out.size))
  have RY := Lib.hid (RY.out.up hb)
  clear hb hg
  go_wp2_with fail
  refine (requal_at { Nd.zero with kind := 7, old := a5 } { Nd.zero with kind := 7, old := a5 } true (eqN_refl _) _ (nrd_plain rfl rfl rfl) (nrd_plain rfl rfl rfl)).mono ?_
  rintro e u12 ⟨rfl, hb⟩
  have HB := Lib.hid (HB.out.trans (hb.mono HB.out.size))
  have RY := Lib.hid (RY.out.up hb)
  clear hb
  go_wp2_with fail
  refine (desc_any a5 a6 a7 _).mono ?_
  rintro e u13 ⟨rfl, hg⟩
  have hb := hg.b
  have HB := Lib.hid (HB.out.trans (hb.mono HB.out.size))
  have RY := Lib.hid (RY.out.up hb)
  clear hb hg
  go_wp2_with fail
  refine (requal_at { Nd.zero with kind := 8, old := a5, exp := a6, new := a7 } { Nd.zero with kind := 8, old := a5, exp := a6, new := a7 } true (eqN_refl _) _ (nrd_plain rfl rfl rfl) (nrd_plain rfl rfl rfl)).mono ?_
  rintro e u14 ⟨rfl, hb⟩
  have HB := Lib.hid (HB.out.trans (hb.mono HB.out.size))
  have RY := Lib.hid (RY.out.up hb)
  clear hb
  go_wp2
  go_ret
  exact ⟨rfl, HB.out⟩

/-! ### THE ROW's STEP -/
set_option maxRecDepth 100000 in
theorem lifted (os : Os) (started : os.Started) (H : Type) (enc : TypeId × Value → H) :
    ReturnsInHanded {} Try.checked os 4 .any (Rows.nodeMakesSpec.pre6 enc Try.prog Try.f4 Rows.nodeMakesRow.domain false) (Rows.nodeMakesSpec.post enc Try.prog Try.f4 false true false false) := by
  refine returnsInHanded_of_change (C := Try.checked) own started (by kernel_rfl) Try.func4
    (ChangeSpec.witness6 (enc := enc) (C := Try.checked) false ⟨#[], #[.int .i64 0, .int .u64 0, .string ByteArray.empty, .int .u64 0, .slice none 0 0, .int .i64 0, .int .i64 0, .int .i64 0], []⟩ 8 (by kernel_rfl) (by kernel_rfl) (by kernel_rfl) (by kernel_rfl)) ?_
  intro W base args ds gs before hval0 hW hcnd _
  have hval : ∀ (j : Nat) t v, Try.f4.params[j]? = some t → args[j]? = some v → Value.okWide Try.prog W .any base t v := hval0
  have hW' := hW
  obtain ⟨p, q, hA0, hV, rfl, hfz, hnd⟩ := hW
  have hA : DataW.TrodAll enc Try.prog W 0 (fun _ => true) true Try.f4.params.toList args.toList ds p := hA0
  rw [Try.params4] at hA hval
  obtain ⟨v0, vs0, d0, ds0, p0, q0, hargs, rfl, rfl, h0, r0⟩ := trodAll_cons hA
  obtain ⟨v1, vs1, d1, ds1, p1, q1, rfl, rfl, rfl, h1, r1⟩ := trodAll_cons r0
  obtain ⟨v2, vs2, d2, ds2, p2, q2, rfl, rfl, rfl, h2, r2⟩ := trodAll_cons r1
  obtain ⟨v3, vs3, d3, ds3, p3, q3, rfl, rfl, rfl, h3, r3⟩ := trodAll_cons r2
  obtain ⟨v4, vs4, d4, ds4, p4, q4, rfl, rfl, rfl, h4, r4⟩ := trodAll_cons r3
  obtain ⟨v5, vs5, d5, ds5, p5, q5, rfl, rfl, rfl, h5, r5⟩ := trodAll_cons r4
  obtain ⟨v6, vs6, d6, ds6, p6, q6, rfl, rfl, rfl, h6, r6⟩ := trodAll_cons r5
  obtain ⟨v7, vs7, d7, ds7, p7, q7, rfl, rfl, rfl, h7, r7⟩ := trodAll_cons r6
  obtain ⟨rfl, rfl, rfl⟩ := trodAll_nil r7
  obtain rfl : args = #[v0, v1, v2, v3, v4, v5, v6, v7] := by cases args; simp_all
  obtain ⟨rfl, rfl⟩ := trodVars_none hV
  obtain ⟨a0, rfl, rfl, rfl, w0⟩ := open_int Try.underlying3 (hval 0 3 v0 rfl rfl) h0
  obtain ⟨a1, rfl, rfl, rfl, w1⟩ := open_int Try.underlying23 (hval 1 23 v1 rfl rfl) h1
  obtain ⟨a2, rfl, rfl, rfl, w2⟩ := open_string Try.underlying9 (hval 2 9 v2 rfl rfl) h2
  obtain ⟨a3, rfl, rfl, rfl, w3⟩ := open_int Try.underlying23 (hval 3 23 v3 rfl rfl) h3
  obtain ⟨a4, len4, cap4, rfl⟩ := okWide_slice Try.underlying25 (hval 4 25 v4 rfl rfl)
  have k4 := h4
  have lt4 : ∀ x ∈ p4, x.block < W.heap.size := by obtain ⟨m, hm⟩ := k4; exact DataW.trod_lt m _ _ _ hm
  obtain ⟨z4, w4⟩ := open_list h4
  obtain ⟨a5, rfl, rfl, rfl, w5⟩ := open_int Try.underlying26 (hval 5 26 v5 rfl rfl) h5
  obtain ⟨a6, rfl, rfl, rfl, w6⟩ := open_int Try.underlying26 (hval 6 26 v6 rfl rfl) h6
  obtain ⟨a7, rfl, rfl, rfl, w7⟩ := open_int Try.underlying26 (hval 7 26 v7 rfl rfl) h7
  clear hA0 hval0
  refine (walk a0 a1 a2 a3 a4 len4 cap4 z4 a5 a6 a7 W w0 w1 w2 w3 w4 w5 w6 w7).mono fun e W' ⟨he, bel⟩ => ?_
  subst he
  exact ⟨_, rfl, _, _, _, [], _, [], hW', trodAll_mk1 (shut_bool Try.underlying4 _), (trodAll_cons_mk (shut_int Try.underlying3 w0) (trodAll_cons_mk (shut_int Try.underlying23 w1) (trodAll_cons_mk (shut_string Try.underlying9 w2) (trodAll_cons_mk (shut_int Try.underlying23 w3) (trodAll_cons_mk (Below.trod laidOut (by kernel_rfl) (of_decide_eq_true (by kernel_rfl)) k4 bel lt4) (trodAll_cons_mk (shut_int Try.underlying26 w5) (trodAll_cons_mk (shut_int Try.underlying26 w6) (trodAll_cons_mk (shut_int Try.underlying26 w7) trodAll_mk0)))))))), rfl, bel.frame _, fun h => by cases h⟩

theorem over : Rows.nodeMakesRow.holds Try.pinned (OpenSpec.ofChange Rows.nodeMakesSpec) :=
  OpenClaim.holds_of_wide 4 Try.f4 rfl rfl rfl rfl rfl rfl rfl ⟨rfl, rfl, rfl, rfl, rfl⟩ rfl rfl rfl rfl rfl (by kernel_rfl) Try.func4 (by kernel_rfl)
    (of_decide_eq_true (by kernel_rfl)) (by unfold Func.isWrapper; first | (rw [if_pos (by decide +kernel)]; kernel_rfl) | (rw [if_neg (by decide +kernel)]; exact ⟨rfl, rfl⟩))
    (fun os started H enc _ => lifted os started H enc)

/-- ████ THE STATEMENT ████ -/
theorem proved : Rows.NodeMakesSaid := over
#print axioms proved
end Go.Proofs.Ytojcdnjnhejlmaa.nodeMakes
