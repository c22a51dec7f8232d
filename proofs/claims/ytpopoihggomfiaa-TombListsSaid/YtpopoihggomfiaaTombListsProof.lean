/- For every input the Go function TombLists of package ctrielaw07 returns true, and each argument reads afterwards as it read before. Conditions: none but those that every row of the form bears by itself. The frame follows the guide's proof-skeleton; the walk is ours. -/
import Derived.Test.YtpopoihggomfiaaRows
import Derived.WalkKit
import Derived.ProofKit
import Derived.OpenShut
import Derived.ShutString
import Derived.ChangeOld
import Derived.Below
import Derived.Test.YtpopoihggomfiaaFrame
import Derived.Test.YtpopoihggomfiaaTbS
import Derived.Lib.Hide
import Derived.Deep.RegionHeld3
import Derived.Deep.DeepCutAuto
namespace Go.Proofs.Ytpopoihggomfiaa.tombLists
open Go.Lib
open Go.ChangeShapes Go.WideShapes Go.ChangeAt Go.RowKit
open Go.ChangeMaps (open_string shut_string)
set_option linter.unusedVariables false

theorem own : ownKnob Try.prog.godebug = none := by kernel_rfl
theorem laidOut : laidOutB Try.prog = true := by kernel_rfl
open Go.Sort
set_option maxRecDepth 100000
attribute [local go_sem ↓] exec_load28 exec_storeN
attribute [local go_sem] run_storeNode_new

/-! ### STEP 1: THE WALK -/
set_option maxRecDepth 100000 in
set_option maxHeartbeats 16000000 in
theorem walk (a0 : Option Addr) (len0 cap0 : Nat) (a1 : ByteArray) (a2 : Int) (w : World) (w0 : IsInts w a0 len0) (w1 : a1.size ≤ maxLen) (w2 : (Lit.int .u64 a2).wf = true) :
    Calls Try.prog 5 #[.slice a0 len0 cap0, .string a1, .int .u64 a2] w fun e w' => e = .returned (.bool true) ∧ Below w.heap.size w w' := by
  have ML := Lib.hid (mklist_any a0 len0 cap0 w w0.1 w0.2)
  have HK := Lib.hid w1
  have hkz : (a1.size : Int) ≤ 9223372036854775807 := by unfold maxLen at w1; omega
  have AW := Lib.hid (fun X => awake_any X)
  clear w0 w1 w2
  go_enter Try.func5, Try.ntmps5
  go_upto_region 2 with (go_at_call 13; refine ML.out.mono ?_; rintro e u1 ⟨n, rfl, ln, gn, hb⟩; have HL := Lib.hid ln; have GN1 := Lib.hid gn; have B1 := Lib.hid hb; clear ln gn hb)
  obtain ⟨V, hV⟩ : ∃ X, X = u1.alloc (.cells n.cs 28) := ⟨_, rfl⟩
  have NV := Lib.hid (show NB V u1.heap.size n by rw [hV]; exact nb_new GN1.out)
  have BV := Lib.hid (show RowKit.Below w.heap.size w V by rw [hV]; exact B1.out.alloc B1.out.size _)
  rw [← hV]; clear hV
  generalize u1.heap.size = b1 at NV ⊢
  clear ML GN1 B1
  have lN := NV.out.ld
  have GR := Lib.hid (grown_any n a1 a2 V NV.out.2 (by have := HL.out.len; omega) HK.out)
  by_cases hk : (64 : Int) < a1.size
  · have hk0 : decide ((a1.size : Int) > 64) = true := decide_eq_true hk
    rw [gro_no hk] at GR
    go_wp2_with (first
      | (go_at_call 17; refine GR.out.mono ?_; rintro e v1 ⟨g, rfl, vg, gg, hb⟩; have D1 := Lib.hid (BV.out.trans (hb.mono BV.out.size)); clear vg gg hb)
      | (go_at_call 12; refine (AW.out _).mono ?_; rintro e v2 ⟨rfl, hb⟩; have A1 := Lib.hid hb; clear hb))
    go_ret
    exact ⟨rfl, (D1.out.alloc D1.out.size _).trans (A1.out.mono (by simp; exact Nat.le_succ_of_le D1.out.size))⟩
  · have hk0 : decide ((a1.size : Int) > 64) = false := decide_eq_false hk
    rw [gro_yes HL.out hk] at GR
    go_upto_region 6 with (go_at_call 17; refine GR.out.mono ?_; rintro e v1 ⟨g, rfl, vg, gg, hb⟩; have GG := Lib.hid (gk_of HL.out hk vg); have Y1 := Lib.hid gg; have D1 := Lib.hid hb; clear vg gg hb)
    obtain ⟨U, hU⟩ : ∃ X, X = v1.alloc (.cells g.cs 28) := ⟨_, rfl⟩
    have DU := Lib.hid (show RowKit.Below V.heap.size V U by rw [hU]; exact D1.out.alloc D1.out.size _)
    have NG := Lib.hid (show NB U v1.heap.size g by rw [hU]; exact nb_new Y1.out)
    rw [← hU]; clear hU
    generalize v1.heap.size = b2 at NG ⊢
    have NN := Lib.hid (NV.out.up DU.out)
    have BU := Lib.hid (BV.out.trans (DU.out.mono BV.out.size))
    clear NV BV lN GR D1 DU Y1 hk hk0
    have FG := Lib.hid (refFind_any g.pA g.pc g.ps a1 U NG.out.2.rd.p GG.out.put.1 (by have := GG.out.len HL.out; omega) a2 true (by rw [GG.out.lk]; rfl) (by rw [GG.out.lk]; rfl))
    have d8 := node_cellA NG.out.1 (i := 8) (v := .slice g.pA g.ps.length g.pc) rfl
    go_upto_region 7 with (go_at_call 18; refine FG.out.mono ?_; rintro e x1 ⟨rfl, hb⟩; have X1 := Lib.hid hb; clear hb)
    clear d8 FG
    have MG := Lib.hid (fun X (hX : RowKit.Below x1.heap.size x1 X) => NG.out.up (X1.out.trans (hX.mono X1.out.size)))
    have MN := Lib.hid (fun X (hX : RowKit.Below x1.heap.size x1 X) => NN.out.up (X1.out.trans (hX.mono X1.out.size)))
    have BX := Lib.hid (BU.out.trans (X1.out.mono BU.out.size))
    clear NG NN BU X1
    have VG := Lib.hid (fun X (hX : RowKit.Below x1.heap.size x1 X) => (by have := rvalid_any g X.heap.size X (MG.out X hX).2.rd (Nat.le_refl _); rw [GG.out.valid] at this; exact this : Calls Try.prog 19 #[.agg g.cs] X fun e w' => e = .returned (.bool true) ∧ Gr X w'))
    have hne : (g.hash != n.hash) = false := by rw [GG.out.hash]; simp
    go_upto_region 9 with (first
      | (go_at_call 19; (with_reducible refine (VG.out _ Q1.out).mono ?_); rintro e q2 ⟨rfl, hg⟩; have Q2 := Lib.hid (Q1.out.trans (hg.b.mono Q1.out.size)); have f5 := node_cellA (MG.out _ Q2.out).1 (i := 5) (v := .int .u64 g.hash) rfl; have f5n := node_cellA (MN.out _ Q2.out).1 (i := 5) (v := .int .u64 n.hash) rfl; clear hg)
      | (go_at_call 12; refine (AW.out _).mono ?_; rintro e q1 ⟨rfl, hb⟩; have Q1 := Lib.hid hb; have lg1 := (MG.out _ hb).ld; clear hb))
    have MG2 := Lib.hid (MG.out _ Q2.out)
    have MN2 := Lib.hid (MN.out _ Q2.out)
    have BQ := Lib.hid (BX.out.trans (Q2.out.mono BX.out.size))
    clear f5 f5n lg1 hne Q1 Q2 VG MG MN BX
    have n8 := node_cellA MN2.out.1 (i := 8) (v := .slice n.pA n.ps.length n.pc) rfl
    obtain ⟨hv, hhv⟩ : ∃ b, b = (lk n.ps a1).isSome := ⟨_, rfl⟩
    obtain ⟨gv, hgv⟩ : ∃ b, b = (lk n.ps a1).getD 0 := ⟨_, rfl⟩
    have FN := Lib.hid (refFind_any n.pA n.pc n.ps a1 q2 MN2.out.2.rd.p HL.out.asc (by have := HL.out.len; omega) gv hv hgv.symm hhv.symm)
    have EH := Lib.hid hhv
    clear hhv hgv
    go_upto_region 10 with (go_at_call 18; refine FN.out.mono ?_; rintro e r1 ⟨rfl, hb⟩; have R1 := Lib.hid hb; clear hb)
    have MG3 := Lib.hid (MG2.out.up R1.out)
    have MN3 := Lib.hid (MN2.out.up R1.out)
    have BR := Lib.hid (BQ.out.trans (R1.out.mono BQ.out.size))
    clear n8 FN MG2 MN2 BQ R1
    cases hv with
    | true =>
      have el := GG.out.had EH.out.symm
      have g8 := node_cellA MG3.out.1 (i := 8) (v := .slice g.pA g.ps.length g.pc) rfl
      have n8 := node_cellA MN3.out.1 (i := 8) (v := .slice n.pA n.ps.length n.pc) rfl
      rw [el] at g8
      clear el
      go_wp2_with fail
      go_ret
      exact ⟨rfl, BR.out⟩
    | false =>
      have SV := GG.out.shr HL.out EH.out.symm
      have lg := MG3.out.ld
      have SH := Lib.hid (shrunk_any g a1 r1 MG3.out.2)
      rw [SV.1, SV.2] at SH
      clear SV
      go_upto_region 13 with (go_at_call 20; refine SH.out.mono ?_; rintro e s1 ⟨z, rfl, vz, gz, hb⟩; have Z1 := Lib.hid (⟨vz, gz⟩ : _ ∧ _); have S1 := Lib.hid hb; clear vz gz hb)
      obtain ⟨X, hX⟩ : ∃ X, X = s1.alloc (.cells z.cs 28) := ⟨_, rfl⟩
      have SX := Lib.hid (show RowKit.Below r1.heap.size r1 X by rw [hX]; exact S1.out.alloc S1.out.size _)
      have NZ := Lib.hid (show NB X s1.heap.size z by rw [hX]; exact nb_new Z1.out.2)
      rw [← hX]; clear hX
      generalize s1.heap.size = b3 at NZ ⊢
      have MN4 := Lib.hid (MN3.out.up SX.out)
      have BS := Lib.hid (BR.out.trans (SX.out.mono BR.out.size))
      clear MG3 MN3 BR SX S1 SH lg
      have ez : z.kind = 6 ∧ z.hash = n.hash ∧ z.ps = n.ps ∧ z.prev = 0 := by obtain ⟨A, c, P, d, rfl⟩ := Z1.out.1; exact ⟨rfl, rfl, rfl, rfl⟩
      have z0 := node_cellA NZ.out.1 (i := 0) (v := .int .i64 z.kind) rfl
      have z5 := node_cellA NZ.out.1 (i := 5) (v := .int .u64 z.hash) rfl
      have z8 := node_cellA NZ.out.1 (i := 8) (v := .slice z.pA z.ps.length z.pc) rfl
      have z9 := node_cellA NZ.out.1 (i := 9) (v := .int .i64 z.prev) rfl
      rw [ez.1] at z0
      rw [ez.2.1] at z5
      rw [ez.2.2.2] at z9
      have n5 := node_cellA MN4.out.1 (i := 5) (v := .int .u64 n.hash) rfl
      have n8 := node_cellA MN4.out.1 (i := 8) (v := .slice n.pA n.ps.length n.pc) rfl
      have EP := Lib.hid (requalP_any z.pA z.pc z.ps n.pA n.pc n.ps X.heap.size X NZ.out.2.rd.p MN4.out.2.rd.p (by have := NZ.out.2.rd.pl; omega) (by have := HL.out.len; omega))
      rw [show decide (z.ps = n.ps) = true from decide_eq_true ez.2.2.1] at EP
      clear ez
      go_wp2_with (go_at_call 21; refine EP.out.mono ?_; rintro e x2 ⟨rfl, q, rfl⟩)
      go_ret
      exact ⟨rfl, below_drew BS.out q⟩

/-! ### THE ROW's STEP -/
set_option maxRecDepth 100000 in
theorem lifted (os : Os) (started : os.Started) (H : Type) (enc : TypeId × Value → H) :
    ReturnsInHanded {} Try.checked os 5 .any (Rows.tombListsSpec.pre6 enc Try.prog Try.f5 Rows.tombListsRow.domain false) (Rows.tombListsSpec.post enc Try.prog Try.f5 false true false false) := by
  refine returnsInHanded_of_change (C := Try.checked) own started (by kernel_rfl) Try.func5
    (ChangeSpec.witness6 (enc := enc) (C := Try.checked) false ⟨#[], #[.slice none 0 0, .string ByteArray.empty, .int .u64 0], []⟩ 8 (by kernel_rfl) (by kernel_rfl) (by kernel_rfl) (by kernel_rfl)) ?_
  intro W base args ds gs before hval0 hW hcnd _
  have hval : ∀ (j : Nat) t v, Try.f5.params[j]? = some t → args[j]? = some v → Value.okWide Try.prog W .any base t v := hval0
  have hW' := hW
  obtain ⟨p, q, hA0, hV, rfl, hfz, hnd⟩ := hW
  have hA : DataW.TrodAll enc Try.prog W 0 (fun _ => true) true Try.f5.params.toList args.toList ds p := hA0
  rw [Try.params5] at hA hval
  obtain ⟨v0, vs0, d0, ds0, p0, q0, hargs, rfl, rfl, h0, r0⟩ := trodAll_cons hA
  obtain ⟨v1, vs1, d1, ds1, p1, q1, rfl, rfl, rfl, h1, r1⟩ := trodAll_cons r0
  obtain ⟨v2, vs2, d2, ds2, p2, q2, rfl, rfl, rfl, h2, r2⟩ := trodAll_cons r1
  obtain ⟨rfl, rfl, rfl⟩ := trodAll_nil r2
  obtain rfl : args = #[v0, v1, v2] := by cases args; simp_all
  obtain ⟨rfl, rfl⟩ := trodVars_none hV
  obtain ⟨a0, len0, cap0, rfl⟩ := okWide_slice Try.underlying29 (hval 0 29 v0 rfl rfl)
  have k0 := h0
  have lt0 : ∀ x ∈ p0, x.block < W.heap.size := by obtain ⟨m, hm⟩ := k0; exact DataW.trod_lt m _ _ _ hm
  have w0 := open_intsT h0
  obtain ⟨a1, rfl, rfl, rfl, w1⟩ := open_string Try.underlying9 (hval 1 9 v1 rfl rfl) h1
  obtain ⟨a2, rfl, rfl, rfl, w2⟩ := open_int Try.underlying23 (hval 2 23 v2 rfl rfl) h2
  clear hA0 hval0
  refine (walk a0 len0 cap0 a1 a2 W w0 w1 w2).mono fun e W' ⟨he, bel⟩ => ?_
  subst he
  exact ⟨_, rfl, _, _, _, [], _, [], hW', trodAll_mk1 (shut_bool Try.underlying4 _), (trodAll_cons_mk (Below.trod laidOut (by kernel_rfl) (of_decide_eq_true (by kernel_rfl)) k0 bel lt0) (trodAll_cons_mk (shut_string Try.underlying9 w1) (trodAll_cons_mk (shut_int Try.underlying23 w2) trodAll_mk0))), rfl, bel.frame _, fun h => by cases h⟩

theorem over : Rows.tombListsRow.holds Try.pinned (OpenSpec.ofChange Rows.tombListsSpec) :=
  OpenClaim.holds_of_wide 5 Try.f5 rfl rfl rfl rfl rfl rfl rfl ⟨rfl, rfl, rfl, rfl, rfl⟩ rfl rfl rfl rfl rfl (by kernel_rfl) Try.func5 (by kernel_rfl)
    (of_decide_eq_true (by kernel_rfl)) (by unfold Func.isWrapper; first | (rw [if_pos (by decide +kernel)]; kernel_rfl) | (rw [if_neg (by decide +kernel)]; exact ⟨rfl, rfl⟩))
    (fun os started H enc _ => lifted os started H enc)

/-- ████ THE STATEMENT ████ -/
theorem proved : Rows.TombListsSaid := over
#print axioms proved
end Go.Proofs.Ytpopoihggomfiaa.tombLists
