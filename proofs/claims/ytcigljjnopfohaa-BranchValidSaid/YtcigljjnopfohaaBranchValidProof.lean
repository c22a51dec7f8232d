/- For every input the Go function BranchValid of package ctrielaw06 returns true, and each argument reads afterwards as it read before. Conditions: none but those that every row of the form bears by itself. The frame follows the guide's proof-skeleton; the walk is ours. -/
import Derived.Test.YtcigljjnopfohaaRows
import Derived.WalkKit
import Derived.ProofKit
import Derived.OpenShut
import Derived.ShutString
import Derived.ChangeOld
import Derived.Below
import Derived.Test.YtcigljjnopfohaaFrame
import Derived.Test.YtcigljjnopfohaaBrP
import Derived.Lib.Hide
namespace Go.Proofs.Ytcigljjnopfohaa.branchValid
open Go.Lib
open Go.ChangeShapes Go.WideShapes Go.ChangeAt Go.RowKit
open Go.ChangeMaps (open_string shut_string)
set_option linter.unusedVariables false

theorem own : ownKnob Try.prog.godebug = none := by kernel_rfl
theorem laidOut : laidOutB Try.prog = true := by kernel_rfl
open Go.Sort
set_option maxRecDepth 100000
attribute [local go_sem ↓] exec_load28 exec_storeN
attribute [local go_sem] run_storeNode_new

/-! ### STEP 1: THE WALK -/
set_option maxRecDepth 100000 in
set_option maxHeartbeats 16000000 in
theorem walk (a0 : Option Addr) (len0 cap0 : Nat) (a1 : Int) (a2 : Int) (w : World) (w0 : IsInts w a0 len0) (w1 : (Lit.int .u8 a1).wf = true) (w2 : (Lit.int .u16 a2).wf = true) :
    Calls Try.prog 7 #[.slice a0 len0 cap0, .int .u8 a1, .int .u16 a2] w fun e w' => e = .returned (.bool true) ∧ Below w.heap.size w w' := by
  have LN := Lib.hid (lnode2 a0 len0 cap0 w w0.1 w0.2)
  clear w0
  have Hx := Lib.hid (idx_ok w1)
  have Hr := Lib.hid (ref_ok w2)
  go_enter Try.func7, Try.ntmps7
  go_upto_region 2 with (go_at_call 8; refine LN.out.mono ?_; rintro e u0 ⟨n, rfl, gn, hc, hl, hb⟩; have X := Lib.hid (⟨gn, hc, hl, hb⟩ : _ ∧ _ ∧ _ ∧ _); clear gn hc hl hb)
  generalize wrap64 (a1.tmod 64) = x at Hx ⊢
  generalize wrap64 (1 + wrap64 a2) = r at Hr ⊢
  obtain ⟨V0, hV0⟩ : ∃ X, X = u0.alloc (.cells n.cs 28) := ⟨_, rfl⟩
  have B0 := Lib.hid (show Below w.heap.size w V0 by rw [hV0]; exact X.out.2.2.2.alloc X.out.2.2.2.size _)
  have NN0 := Lib.hid (show NB V0 u0.heap.size n by rw [hV0]; exact nb_new X.out.1)
  rw [← hV0]; clear hV0
  generalize u0.heap.size = b0 at NN0 ⊢
  have lN0 := NN0.out.ld
  have HC := Lib.hid X.out.2.1
  have HR := Lib.hid X.out.1.rd

  cases e : fN n x with
  | none =>
    have OK := Lib.hid (oks_none HC.out HR.out Hx.out e Hr.out)
    have d4 := node_cellA NN0.out.1 (i := 4) (v := .slice n.bA n.bs.length n.bc) rfl
    go_upto_region 3 with (fail)
    have CC1 := Lib.hid (inserted_any n x r V0 NN0.out.2)
    rw [OK.out.1] at CC1
    go_upto_region 4 with (go_at_call 13; refine CC1.out.mono ?_; rintro e u1 ⟨ya, rfl, y0, y1, gy, fy, hb⟩; have Y1 := Lib.hid (⟨y0, y1, gy, hb⟩ : _ ∧ _ ∧ _ ∧ _); clear y0 y1 gy fy hb)
    obtain ⟨V1, hV1⟩ : ∃ X, X = u1.alloc (.cells ya.cs 28) := ⟨_, rfl⟩
    have BB1 := Lib.hid (show Below V0.heap.size V0 V1 by rw [hV1]; exact (Y1.out.2.2.2).alloc (Y1.out.2.2.2).size _)
    have NN1 := Lib.hid (show NB V1 u1.heap.size ya by rw [hV1]; exact nb_new Y1.out.2.2.1)
    rw [← hV1]; clear hV1
    have Nn2 := Lib.hid (NN0.out.up BB1.out)
    have lNn2 := Nn2.out.ld
    have B3 := Lib.hid (B0.out.trans (BB1.out.mono B0.out.size))
    clear NN0
    clear B0
    generalize u1.heap.size = b1 at NN1 ⊢
    have lN1 := NN1.out.ld
    have CC4 := Lib.hid (updated_any n x r V1 Nn2.out.2)
    rw [OK.out.2.1] at CC4
    go_upto_region 5 with (go_at_call 14; refine CC4.out.mono ?_; rintro e u4 ⟨yb, rfl, y0, y1, gy, fy, hb⟩; have Y4 := Lib.hid (⟨y0, y1, gy, hb⟩ : _ ∧ _ ∧ _ ∧ _); clear y0 y1 gy fy hb)
    obtain ⟨V4, hV4⟩ : ∃ X, X = u4.alloc (.cells yb.cs 28) := ⟨_, rfl⟩
    have BB4 := Lib.hid (show Below V1.heap.size V1 V4 by rw [hV4]; exact (Y4.out.2.2.2).alloc (Y4.out.2.2.2).size _)
    have NN4 := Lib.hid (show NB V4 u4.heap.size yb by rw [hV4]; exact nb_new Y4.out.2.2.1)
    rw [← hV4]; clear hV4
    have Nn5 := Lib.hid (Nn2.out.up BB4.out)
    have lNn5 := Nn5.out.ld
    have Nya6 := Lib.hid (NN1.out.up BB4.out)
    have lNya6 := Nya6.out.ld
    have B7 := Lib.hid (B3.out.trans (BB4.out.mono B3.out.size))
    clear Nn2
    clear NN1
    clear B3
    generalize u4.heap.size = b4 at NN4 ⊢
    have lN4 := NN4.out.ld
    have CC8 := Lib.hid (removed_any n x V4 Nn5.out.2)
    rw [OK.out.2.2] at CC8
    go_upto_region 6 with (go_at_call 15; refine CC8.out.mono ?_; rintro e u8 ⟨yc, rfl, y0, y1, gy, fy, hb⟩; have Y8 := Lib.hid (⟨y0, y1, gy, hb⟩ : _ ∧ _ ∧ _ ∧ _); clear y0 y1 gy fy hb)
    obtain ⟨V8, hV8⟩ : ∃ X, X = u8.alloc (.cells yc.cs 28) := ⟨_, rfl⟩
    have BB8 := Lib.hid (show Below V4.heap.size V4 V8 by rw [hV8]; exact (Y8.out.2.2.2).alloc (Y8.out.2.2.2).size _)
    have NN8 := Lib.hid (show NB V8 u8.heap.size yc by rw [hV8]; exact nb_new Y8.out.2.2.1)
    rw [← hV8]; clear hV8
    have Nn9 := Lib.hid (Nn5.out.up BB8.out)
    have lNn9 := Nn9.out.ld
    have Nya10 := Lib.hid (Nya6.out.up BB8.out)
    have lNya10 := Nya10.out.ld
    have Nyb11 := Lib.hid (NN4.out.up BB8.out)
    have lNyb11 := Nyb11.out.ld
    have B12 := Lib.hid (B7.out.trans (BB8.out.mono B7.out.size))
    clear Nn5
    clear Nya6
    clear NN4
    clear B7
    generalize u8.heap.size = b8 at NN8 ⊢
    have lN8 := NN8.out.ld
    have IM := Lib.hid (map_ins (ok := true) HC.out HR.out Hx.out e Hr.out (m := ya) (fun _ => Y1.out.2.1 (by trivial))).2
    have EL := Lib.hid (show ya.bs.length = n.bs.length + 1 by
      obtain ⟨A, c, rfl⟩ := Y1.out.2.1 (by trivial)
      exact len_ins (isC_Ok HC.out HR.out))
    have RV := Lib.hid (rvalid2 Nya10.out.2 IM.out.isC)
    have AW := Lib.hid (fun X => awake_any X)
    have hle := X.out.2.2.1
    have wz : IntKind.i64.wrap ((n.bs.length : Int) + 1) = (n.bs.length : Int) + 1 := by rw [IntKind.wrap_i64]; omega
    have wz2 : (((n.bs.length + 1 : Nat) : Int) != (n.bs.length : Int) + 1) = false := by simp
    go_wp2_with (first
      | (go_at_call 19; refine RV.out.mono ?_; rintro e t1 ⟨rfl, hg⟩; have G1 := Lib.hid hg; have q4 := node_cellA (heap_up Nya10.out.1 hg.b) (i := 4) (v := .slice ya.bA ya.bs.length ya.bc) rfl; rw [EL.out] at q4; clear hg)
      | (go_at_call 11; refine (AW.out _).mono ?_; rintro e t2 ⟨rfl, hb⟩; have G2 := Lib.hid hb; clear hb))
    go_ret
    exact ⟨rfl, (B12.out.trans (G1.out.b.mono B12.out.size)).trans (G2.out.mono (Nat.le_trans B12.out.size G1.out.size))⟩
  | some z =>
    have OK := Lib.hid (oks_some HC.out HR.out e Hr.out)
    have d4 := node_cellA NN0.out.1 (i := 4) (v := .slice n.bA n.bs.length n.bc) rfl
    go_upto_region 3 with (fail)
    have CC1 := Lib.hid (inserted_any n x r V0 NN0.out.2)
    rw [OK.out.1] at CC1
    go_upto_region 4 with (go_at_call 13; refine CC1.out.mono ?_; rintro e u1 ⟨ya, rfl, y0, y1, gy, fy, hb⟩; have Y1 := Lib.hid (⟨y0, y1, gy, hb⟩ : _ ∧ _ ∧ _ ∧ _); clear y0 y1 gy fy hb)
    obtain ⟨V1, hV1⟩ : ∃ X, X = u1.alloc (.cells ya.cs 28) := ⟨_, rfl⟩
    have BB1 := Lib.hid (show Below V0.heap.size V0 V1 by rw [hV1]; exact (Y1.out.2.2.2).alloc (Y1.out.2.2.2).size _)
    have NN1 := Lib.hid (show NB V1 u1.heap.size ya by rw [hV1]; exact nb_new Y1.out.2.2.1)
    rw [← hV1]; clear hV1
    have Nn2 := Lib.hid (NN0.out.up BB1.out)
    have lNn2 := Nn2.out.ld
    have B3 := Lib.hid (B0.out.trans (BB1.out.mono B0.out.size))
    clear NN0
    clear B0
    generalize u1.heap.size = b1 at NN1 ⊢
    have lN1 := NN1.out.ld
    have CC4 := Lib.hid (updated_any n x r V1 Nn2.out.2)
    rw [OK.out.2.1] at CC4
    go_upto_region 5 with (go_at_call 14; refine CC4.out.mono ?_; rintro e u4 ⟨yb, rfl, y0, y1, gy, fy, hb⟩; have Y4 := Lib.hid (⟨y0, y1, gy, hb⟩ : _ ∧ _ ∧ _ ∧ _); clear y0 y1 gy fy hb)
    obtain ⟨V4, hV4⟩ : ∃ X, X = u4.alloc (.cells yb.cs 28) := ⟨_, rfl⟩
    have BB4 := Lib.hid (show Below V1.heap.size V1 V4 by rw [hV4]; exact (Y4.out.2.2.2).alloc (Y4.out.2.2.2).size _)
    have NN4 := Lib.hid (show NB V4 u4.heap.size yb by rw [hV4]; exact nb_new Y4.out.2.2.1)
    rw [← hV4]; clear hV4
    have Nn5 := Lib.hid (Nn2.out.up BB4.out)
    have lNn5 := Nn5.out.ld
    have Nya6 := Lib.hid (NN1.out.up BB4.out)
    have lNya6 := Nya6.out.ld
    have B7 := Lib.hid (B3.out.trans (BB4.out.mono B3.out.size))
    clear Nn2
    clear NN1
    clear B3
    generalize u4.heap.size = b4 at NN4 ⊢
    have lN4 := NN4.out.ld
    have CC8 := Lib.hid (removed_any n x V4 Nn5.out.2)
    rw [OK.out.2.2] at CC8
    go_upto_region 6 with (go_at_call 15; refine CC8.out.mono ?_; rintro e u8 ⟨yc, rfl, y0, y1, gy, fy, hb⟩; have Y8 := Lib.hid (⟨y0, y1, gy, hb⟩ : _ ∧ _ ∧ _ ∧ _); clear y0 y1 gy fy hb)
    obtain ⟨V8, hV8⟩ : ∃ X, X = u8.alloc (.cells yc.cs 28) := ⟨_, rfl⟩
    have BB8 := Lib.hid (show Below V4.heap.size V4 V8 by rw [hV8]; exact (Y8.out.2.2.2).alloc (Y8.out.2.2.2).size _)
    have NN8 := Lib.hid (show NB V8 u8.heap.size yc by rw [hV8]; exact nb_new Y8.out.2.2.1)
    rw [← hV8]; clear hV8
    have Nn9 := Lib.hid (Nn5.out.up BB8.out)
    have lNn9 := Nn9.out.ld
    have Nya10 := Lib.hid (Nya6.out.up BB8.out)
    have lNya10 := Nya10.out.ld
    have Nyb11 := Lib.hid (NN4.out.up BB8.out)
    have lNyb11 := Nyb11.out.ld
    have B12 := Lib.hid (B7.out.trans (BB8.out.mono B7.out.size))
    clear Nn5
    clear Nya6
    clear NN4
    clear B7
    generalize u8.heap.size = b8 at NN8 ⊢
    have lN8 := NN8.out.ld
    have hs : (fN n x).isSome = true := by rw [e]; rfl
    have IM := Lib.hid (map_upd HC.out HR.out hs Hr.out (m := yb) (fun _ => Y4.out.2.1 (by trivial))).2
    have IR := Lib.hid (map_rem HC.out HR.out hs (m := yc) (fun _ => Y8.out.2.1 (by trivial))).2
    have hh : hasB n.bm x = true := by rw [has_fN HC.out HR.out, hs]
    have EL := Lib.hid (show yb.bs.length = n.bs.length by
      obtain ⟨A, c, rfl⟩ := Y4.out.2.1 (by trivial)
      exact len_upd (isC_Ok HC.out HR.out) hh)
    have EM := Lib.hid (show yc.bs.length + 1 = n.bs.length by
      obtain ⟨A, c, rfl⟩ := Y8.out.2.1 (by trivial)
      exact len_rem (isC_Ok HC.out HR.out) hh)
    have RV := Lib.hid (rvalid2 Nyb11.out.2 IM.out.isC)
    have RW := Lib.hid (fun X (hX : Gr V8 X) => rvalid2 (NN8.out.up hX.b).2 IR.out.isC)
    have AW := Lib.hid (fun X => awake_any X)
    have hle := X.out.2.2.1
    obtain ⟨m, hm⟩ : ∃ m, m = yc.bs.length := ⟨_, rfl⟩
    have hm1 : n.bs.length = m + 1 := by rw [hm]; exact EM.out.symm
    have HM := Lib.hid hm
    clear hm
    have wz : IntKind.i64.wrap ((((m + 1 : Nat) : Int)) - 1) = (m : Int) := by rw [IntKind.wrap_i64]; omega
    have wz3 : IntKind.i64.wrap ((m : Int) + 1 - 1) = (m : Int) := by rw [IntKind.wrap_i64]; omega
    have wz4 : IntKind.i64.wrap (m : Int) = (m : Int) := by rw [IntKind.wrap_i64]; omega
    rw [hm1] at EL ⊢
    clear hh hs hle
    go_wp2_with (first
      | (go_at_call 19; (with_reducible refine (RW.out _ G1.out).mono ?_); rintro e t3 ⟨rfl, hg⟩; have G3 := Lib.hid (G1.out.trans hg); have q5 := node_cellA (heap_up NN8.out.1 G3.out.b) (i := 4) (v := .slice yc.bA yc.bs.length yc.bc) rfl; rw [← HM.out] at q5; clear hg)
      | (go_at_call 19; (with_reducible refine RV.out.mono ?_); rintro e t1 ⟨rfl, hg⟩; have G1 := Lib.hid hg; have q4 := node_cellA (heap_up Nyb11.out.1 hg.b) (i := 4) (v := .slice yb.bA yb.bs.length yb.bc) rfl; rw [EL.out] at q4; have lyc1 := (NN8.out.up hg.b).ld; clear hg)
      | (go_at_call 11; refine (AW.out _).mono ?_; rintro e t2 ⟨rfl, hb⟩; have G2 := Lib.hid hb; clear hb))
    go_ret
    exact ⟨rfl, (B12.out.trans (G3.out.b.mono B12.out.size)).trans (G2.out.mono (Nat.le_trans B12.out.size G3.out.size))⟩

/-! ### THE ROW's STEP -/
set_option maxRecDepth 100000 in
theorem lifted (os : Os) (started : os.Started) (H : Type) (enc : TypeId × Value → H) :
    ReturnsInHanded {} Try.checked os 7 .any (Rows.branchValidSpec.pre6 enc Try.prog Try.f7 Rows.branchValidRow.domain false) (Rows.branchValidSpec.post enc Try.prog Try.f7 false true false false) := by
  refine returnsInHanded_of_change (C := Try.checked) own started (by kernel_rfl) Try.func7
    (ChangeSpec.witness6 (enc := enc) (C := Try.checked) false ⟨#[], #[.slice none 0 0, .int .u8 0, .int .u16 0], []⟩ 8 (by kernel_rfl) (by kernel_rfl) (by kernel_rfl) (by kernel_rfl)) ?_
  intro W base args ds gs before hval0 hW hcnd _
  have hval : ∀ (j : Nat) t v, Try.f7.params[j]? = some t → args[j]? = some v → Value.okWide Try.prog W .any base t v := hval0
  have hW' := hW
  obtain ⟨p, q, hA0, hV, rfl, hfz, hnd⟩ := hW
  have hA : DataW.TrodAll enc Try.prog W 0 (fun _ => true) true Try.f7.params.toList args.toList ds p := hA0
  rw [Try.params7] at hA hval
  obtain ⟨v0, vs0, d0, ds0, p0, q0, hargs, rfl, rfl, h0, r0⟩ := trodAll_cons hA
  obtain ⟨v1, vs1, d1, ds1, p1, q1, rfl, rfl, rfl, h1, r1⟩ := trodAll_cons r0
  obtain ⟨v2, vs2, d2, ds2, p2, q2, rfl, rfl, rfl, h2, r2⟩ := trodAll_cons r1
  obtain ⟨rfl, rfl, rfl⟩ := trodAll_nil r2
  obtain rfl : args = #[v0, v1, v2] := by cases args; simp_all
  obtain ⟨rfl, rfl⟩ := trodVars_none hV
  obtain ⟨a0, len0, cap0, rfl⟩ := okWide_slice Try.underlying29 (hval 0 29 v0 rfl rfl)
  have k0 := h0
  have lt0 : ∀ x ∈ p0, x.block < W.heap.size := by obtain ⟨m, hm⟩ := k0; exact DataW.trod_lt m _ _ _ hm
  have w0 := open_intsT h0
  obtain ⟨a1, rfl, rfl, rfl, w1⟩ := open_int Try.underlying5 (hval 1 5 v1 rfl rfl) h1
  obtain ⟨a2, rfl, rfl, rfl, w2⟩ := open_int Try.underlying35 (hval 2 35 v2 rfl rfl) h2
  clear hA0 hval0
  refine (walk a0 len0 cap0 a1 a2 W w0 w1 w2).mono fun e W' ⟨he, bel⟩ => ?_
  subst he
  exact ⟨_, rfl, _, _, _, [], _, [], hW', trodAll_mk1 (shut_bool Try.underlying4 _), (trodAll_cons_mk (Below.trod laidOut (by kernel_rfl) (of_decide_eq_true (by kernel_rfl)) k0 bel lt0) (trodAll_cons_mk (shut_int Try.underlying5 w1) (trodAll_cons_mk (shut_int Try.underlying35 w2) trodAll_mk0))), rfl, bel.frame _, fun h => by cases h⟩

theorem over : Rows.branchValidRow.holds Try.pinned (OpenSpec.ofChange Rows.branchValidSpec) :=
  OpenClaim.holds_of_wide 7 Try.f7 rfl rfl rfl rfl rfl rfl rfl ⟨rfl, rfl, rfl, rfl, rfl⟩ rfl rfl rfl rfl rfl (by kernel_rfl) Try.func7 (by kernel_rfl)
    (of_decide_eq_true (by kernel_rfl)) (by unfold Func.isWrapper; first | (rw [if_pos (by decide +kernel)]; kernel_rfl) | (rw [if_neg (by decide +kernel)]; exact ⟨rfl, rfl⟩))
    (fun os started H enc _ => lifted os started H enc)

/-- ████ THE STATEMENT ████ -/
theorem proved : Rows.BranchValidSaid := over
#print axioms proved
end Go.Proofs.Ytcigljjnopfohaa.branchValid
