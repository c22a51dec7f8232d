/- For every input the Go function BranchCommute of package ctrielaw06 returns true, and each argument reads afterwards as it read before. Conditions: none but those that every row of the form bears by itself. The frame follows the guide's proof-skeleton; the walk is ours. -/
import Derived.Test.YtcigljjnopfohaaRows
import Derived.WalkKit
import Derived.ProofKit
import Derived.OpenShut
import Derived.ShutString
import Derived.ChangeOld
import Derived.Below
import Derived.Test.YtcigljjnopfohaaFrame
import Derived.Test.YtcigljjnopfohaaBrR
import Derived.Lib.Hide
namespace Go.Proofs.Ytcigljjnopfohaa.branchCommute
open Go.Lib
open Go.ChangeShapes Go.WideShapes Go.ChangeAt Go.RowKit
open Go.ChangeMaps (open_string shut_string)
set_option linter.unusedVariables false

theorem own : ownKnob Try.prog.godebug = none := by kernel_rfl
theorem laidOut : laidOutB Try.prog = true := by kernel_rfl
open Go.Sort
set_option maxRecDepth 100000
attribute [local go_sem ↓] exec_load28 exec_storeN
attribute [local go_sem] run_storeNode_new

/-! ### STEP 1: THE WALK -/
set_option maxRecDepth 100000 in
set_option maxHeartbeats 16000000 in
theorem walk (a0 : Option Addr) (len0 cap0 : Nat) (a1 : Int) (a2 : Int) (a3 : Int) (a4 : Int) (w : World) (w0 : IsInts w a0 len0) (w1 : (Lit.int .u8 a1).wf = true) (w2 : (Lit.int .u8 a2).wf = true) (w3 : (Lit.int .u16 a3).wf = true) (w4 : (Lit.int .u16 a4).wf = true) :
    Calls Try.prog 6 #[.slice a0 len0 cap0, .int .u8 a1, .int .u8 a2, .int .u16 a3, .int .u16 a4] w fun e w' => e = .returned (.bool true) ∧ Below w.heap.size w w' := by
  have LN := Lib.hid (lnode2 a0 len0 cap0 w w0.1 w0.2)
  clear w0
  have Hx := Lib.hid (idx_ok w1)
  have Hy := Lib.hid (idx_ok w2)
  have Hr := Lib.hid (ref_ok w3)
  have Hs := Lib.hid (ref_ok w4)
  go_enter Try.func6, Try.ntmps6
  go_upto_region 2 with (go_at_call 8; refine LN.out.mono ?_; rintro e u0 ⟨n, rfl, gn, hc, hl, hb⟩; have X := Lib.hid (⟨gn, hc, hl, hb⟩ : _ ∧ _ ∧ _ ∧ _); clear gn hc hl hb)
  generalize wrap64 (a1.tmod 64) = x at Hx ⊢
  generalize wrap64 (a2.tmod 64) = y at Hy ⊢
  generalize wrap64 (1 + wrap64 a3) = r at Hr ⊢
  generalize wrap64 (1 + wrap64 a4) = s at Hs ⊢
  obtain ⟨V0, hV0⟩ : ∃ X, X = u0.alloc (.cells n.cs 28) := ⟨_, rfl⟩
  have B0 := Lib.hid (show Below w.heap.size w V0 by rw [hV0]; exact X.out.2.2.2.alloc X.out.2.2.2.size _)
  have NN0 := Lib.hid (show NB V0 u0.heap.size n by rw [hV0]; exact nb_new X.out.1)
  rw [← hV0]; clear hV0
  generalize u0.heap.size = b0 at NN0 ⊢
  have lN0 := NN0.out.ld
  have HC := Lib.hid X.out.2.1
  have HR := Lib.hid X.out.1.rd
  have AW := Lib.hid (fun X => awake_any X)
  by_cases hxy : x = y
  · subst hxy
    go_wp2_with (go_at_call 11; refine (AW.out _).mono ?_; rintro e t0 ⟨rfl, hb⟩; have A0 := Lib.hid hb; clear hb)
    go_ret
    exact ⟨rfl, B0.out.trans (A0.out.mono B0.out.size)⟩
  · have CA := Lib.hid (put_any n x r V0 NN0.out.2 HC.out Hx.out Hr.out)
    go_upto_region 5 with (go_at_call 18; refine CA.out.mono ?_; rintro e u1 ⟨a, rfl, my, gy, fy, hb⟩; have Y1 := Lib.hid (⟨my, gy, hb⟩ : _ ∧ _ ∧ _); clear my gy fy hb)
    obtain ⟨V1, hV1⟩ : ∃ X, X = u1.alloc (.cells a.cs 28) := ⟨_, rfl⟩
    have BB1 := Lib.hid (show Below V0.heap.size V0 V1 by rw [hV1]; exact Y1.out.2.2.alloc Y1.out.2.2.size _)
    have NA := Lib.hid (show NB V1 u1.heap.size a by rw [hV1]; exact nb_new Y1.out.2.1)
    have Z1 := Lib.hid (show V0.heap.size ≤ u1.heap.size from Y1.out.2.2.size)
    rw [← hV1]; clear hV1
    generalize u1.heap.size = b1 at NA Z1 ⊢
    have lna := NA.out.ld
    have CB := Lib.hid (put_any a y s V1 NA.out.2 Y1.out.1.isC Hy.out Hs.out)
    go_upto_region 6 with (go_at_call 18; refine CB.out.mono ?_; rintro e u2 ⟨m, rfl, my, gy, fy, hb⟩; have ST := Lib.hid (nb_store NA.out hb gy fy); have st := ST.out.2; have Y2 := Lib.hid (⟨my, hb⟩ : _ ∧ _); clear my gy fy hb)
    have BB2 := Lib.hid (BB1.out.trans (Y2.out.2.mono BB1.out.size))
    have BW2 := Lib.hid (below_setRow (w := w) (b := b1) (B0.out.trans (BB2.out.mono B0.out.size)) (Nat.le_trans B0.out.size Z1.out) m.cs)
    have N2 := Lib.hid (NN0.out.store BB2.out Z1.out m.cs)
    have M2 := Lib.hid ST.out.1
    clear st ST
    generalize u2.setRow b1 m.cs = V2 at N2 M2 BW2 ⊢
    have ln2 := N2.out.ld
    have CC := Lib.hid (put_any n y s V2 N2.out.2 HC.out Hy.out Hs.out)
    go_upto_region 7 with (go_at_call 18; refine CC.out.mono ?_; rintro e u3 ⟨c, rfl, my, gy, fy, hb⟩; have Y3 := Lib.hid (⟨my, gy, hb⟩ : _ ∧ _ ∧ _); clear my gy fy hb)
    obtain ⟨V3, hV3⟩ : ∃ X, X = u3.alloc (.cells c.cs 28) := ⟨_, rfl⟩
    have BB3 := Lib.hid (show Below V2.heap.size V2 V3 by rw [hV3]; exact Y3.out.2.2.alloc Y3.out.2.2.size _)
    have NC := Lib.hid (show NB V3 u3.heap.size c by rw [hV3]; exact nb_new Y3.out.2.1)
    have Z3 := Lib.hid (show V2.heap.size ≤ u3.heap.size from Y3.out.2.2.size)
    rw [← hV3]; clear hV3
    generalize u3.heap.size = b3 at NC Z3 ⊢
    have lnc := NC.out.ld
    have CD := Lib.hid (put_any c x r V3 NC.out.2 Y3.out.1.isC Hx.out Hr.out)
    go_upto_region 8 with (go_at_call 18; refine CD.out.mono ?_; rintro e u4 ⟨d, rfl, my, gy, fy, hb⟩; have ST := Lib.hid (nb_store NC.out hb gy fy); have st := ST.out.2; have Y4 := Lib.hid (⟨my, hb⟩ : _ ∧ _); clear my gy fy hb)
    have BB4 := Lib.hid (BB3.out.trans (Y4.out.2.mono BB3.out.size))
    have BW4 := Lib.hid (below_setRow (w := w) (b := b3) (BW2.out.trans (BB4.out.mono BW2.out.size)) (Nat.le_trans BW2.out.size Z3.out) d.cs)
    have M4 := Lib.hid (M2.out.store BB4.out Z3.out d.cs)
    have D4 := Lib.hid ST.out.1
    clear st ST
    generalize u4.setRow b3 d.cs = V4 at M4 D4 BW4 ⊢
    have ee := Lib.hid (show eqN m d = true from Y2.out.1.eq Y4.out.1 fun j hj => by
      by_cases e1 : (j : Int) = x
      · rw [if_pos e1, if_neg (fun h => hxy (e1.symm.trans h)), Y1.out.1.fN j hj, if_pos e1]
      · by_cases e2 : (j : Int) = y
        · rw [if_pos e2, if_neg e1, Y3.out.1.fN j hj, if_pos e2]
        · rw [if_neg e1, if_neg e2, Y1.out.1.fN j hj, Y3.out.1.fN j hj, if_neg e1, if_neg e2])
    have E1 := Lib.hid (fun X (hX : RowKit.Below V4.heap.size V4 X) => equal2 (M4.out.up hX).2 (D4.out.up hX).2 ee.out)
    go_wp2_with (first
      | (go_at_call 17; (with_reducible refine (E1.out _ A0.out).mono ?_); rintro e t1 ⟨rfl, hg⟩; have A1 := Lib.hid (A0.out.trans (hg.b.mono A0.out.size)); clear hg)
      | (go_at_call 11; refine (AW.out _).mono ?_; rintro e t0 ⟨rfl, hb⟩; have A0 := Lib.hid hb; have q1 := (M4.out.up hb).ld; have q2 := (D4.out.up hb).ld; clear hb))
    go_ret
    exact ⟨rfl, BW4.out.trans (A1.out.mono BW4.out.size)⟩

/-! ### THE ROW's STEP -/
set_option maxRecDepth 100000 in
theorem lifted (os : Os) (started : os.Started) (H : Type) (enc : TypeId × Value → H) :
    ReturnsInHanded {} Try.checked os 6 .any (Rows.branchCommuteSpec.pre6 enc Try.prog Try.f6 Rows.branchCommuteRow.domain false) (Rows.branchCommuteSpec.post enc Try.prog Try.f6 false true false false) := by
  refine returnsInHanded_of_change (C := Try.checked) own started (by kernel_rfl) Try.func6
    (ChangeSpec.witness6 (enc := enc) (C := Try.checked) false ⟨#[], #[.slice none 0 0, .int .u8 0, .int .u8 0, .int .u16 0, .int .u16 0], []⟩ 8 (by kernel_rfl) (by kernel_rfl) (by kernel_rfl) (by kernel_rfl)) ?_
  intro W base args ds gs before hval0 hW hcnd _
  have hval : ∀ (j : Nat) t v, Try.f6.params[j]? = some t → args[j]? = some v → Value.okWide Try.prog W .any base t v := hval0
  have hW' := hW
  obtain ⟨p, q, hA0, hV, rfl, hfz, hnd⟩ := hW
  have hA : DataW.TrodAll enc Try.prog W 0 (fun _ => true) true Try.f6.params.toList args.toList ds p := hA0
  rw [Try.params6] at hA hval
  obtain ⟨v0, vs0, d0, ds0, p0, q0, hargs, rfl, rfl, h0, r0⟩ := trodAll_cons hA
  obtain ⟨v1, vs1, d1, ds1, p1, q1, rfl, rfl, rfl, h1, r1⟩ := trodAll_cons r0
  obtain ⟨v2, vs2, d2, ds2, p2, q2, rfl, rfl, rfl, h2, r2⟩ := trodAll_cons r1
  obtain ⟨v3, vs3, d3, ds3, p3, q3, rfl, rfl, rfl, h3, r3⟩ := trodAll_cons r2
  obtain ⟨v4, vs4, d4, ds4, p4, q4, rfl, rfl, rfl, h4, r4⟩ := trodAll_cons r3
  obtain ⟨rfl, rfl, rfl⟩ := trodAll_nil r4
  obtain rfl : args = #[v0, v1, v2, v3, v4] := by cases args; simp_all
  obtain ⟨rfl, rfl⟩ := trodVars_none hV
  obtain ⟨a0, len0, cap0, rfl⟩ := okWide_slice Try.underlying29 (hval 0 29 v0 rfl rfl)
  have k0 := h0
  have lt0 : ∀ x ∈ p0, x.block < W.heap.size := by obtain ⟨m, hm⟩ := k0; exact DataW.trod_lt m _ _ _ hm
  have w0 := open_intsT h0
  obtain ⟨a1, rfl, rfl, rfl, w1⟩ := open_int Try.underlying5 (hval 1 5 v1 rfl rfl) h1
  obtain ⟨a2, rfl, rfl, rfl, w2⟩ := open_int Try.underlying5 (hval 2 5 v2 rfl rfl) h2
  obtain ⟨a3, rfl, rfl, rfl, w3⟩ := open_int Try.underlying35 (hval 3 35 v3 rfl rfl) h3
  obtain ⟨a4, rfl, rfl, rfl, w4⟩ := open_int Try.underlying35 (hval 4 35 v4 rfl rfl) h4
  clear hA0 hval0
  refine (walk a0 len0 cap0 a1 a2 a3 a4 W w0 w1 w2 w3 w4).mono fun e W' ⟨he, bel⟩ => ?_
  subst he
  exact ⟨_, rfl, _, _, _, [], _, [], hW', trodAll_mk1 (shut_bool Try.underlying4 _), (trodAll_cons_mk (Below.trod laidOut (by kernel_rfl) (of_decide_eq_true (by kernel_rfl)) k0 bel lt0) (trodAll_cons_mk (shut_int Try.underlying5 w1) (trodAll_cons_mk (shut_int Try.underlying5 w2) (trodAll_cons_mk (shut_int Try.underlying35 w3) (trodAll_cons_mk (shut_int Try.underlying35 w4) trodAll_mk0))))), rfl, bel.frame _, fun h => by cases h⟩

theorem over : Rows.branchCommuteRow.holds Try.pinned (OpenSpec.ofChange Rows.branchCommuteSpec) :=
  OpenClaim.holds_of_wide 6 Try.f6 rfl rfl rfl rfl rfl rfl rfl ⟨rfl, rfl, rfl, rfl, rfl⟩ rfl rfl rfl rfl rfl (by kernel_rfl) Try.func6 (by kernel_rfl)
    (of_decide_eq_true (by kernel_rfl)) (by unfold Func.isWrapper; first | (rw [if_pos (by decide +kernel)]; kernel_rfl) | (rw [if_neg (by decide +kernel)]; exact ⟨rfl, rfl⟩))
    (fun os started H enc _ => lifted os started H enc)

/-- ████ THE STATEMENT ████ -/
theorem proved : Rows.BranchCommuteSaid := over
#print axioms proved
end Go.Proofs.Ytcigljjnopfohaa.branchCommute
