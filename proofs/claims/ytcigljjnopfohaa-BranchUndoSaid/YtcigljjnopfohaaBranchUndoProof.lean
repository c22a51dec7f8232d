/- For every input the Go function BranchUndo of package ctrielaw06 returns true, and each argument reads afterwards as it read before. Conditions: none but those that every row of the form bears by itself. The frame follows the guide's proof-skeleton; the walk is ours. -/
import Derived.Test.YtcigljjnopfohaaRows
import Derived.WalkKit
import Derived.ProofKit
import Derived.OpenShut
import Derived.ShutString
import Derived.ChangeOld
import Derived.Below
import Derived.Test.YtcigljjnopfohaaFrame
import Derived.Test.YtcigljjnopfohaaBrQ
import Derived.Lib.Hide
namespace Go.Proofs.Ytcigljjnopfohaa.branchUndo
open Go.Lib
open Go.ChangeShapes Go.WideShapes Go.ChangeAt Go.RowKit
open Go.ChangeMaps (open_string shut_string)
set_option linter.unusedVariables false

theorem own : ownKnob Try.prog.godebug = none := by kernel_rfl
theorem laidOut : laidOutB Try.prog = true := by kernel_rfl
open Go.Sort
set_option maxRecDepth 100000
attribute [local go_sem ↓] exec_load28 exec_storeN
attribute [local go_sem] run_storeNode_new

/-! ### STEP 1: THE WALK -/
set_option maxRecDepth 100000 in
set_option maxHeartbeats 16000000 in
theorem walk (a0 : Option Addr) (len0 cap0 : Nat) (a1 : Int) (a2 : Int) (w : World) (w0 : IsInts w a0 len0) (w1 : (Lit.int .u8 a1).wf = true) (w2 : (Lit.int .u16 a2).wf = true) :
    Calls Try.prog 5 #[.slice a0 len0 cap0, .int .u8 a1, .int .u16 a2] w fun e w' => e = .returned (.bool true) ∧ Below w.heap.size w w' := by
  have LN := Lib.hid (lnode2 a0 len0 cap0 w w0.1 w0.2)
  clear w0
  have Hx := Lib.hid (idx_ok w1)
  have Hr := Lib.hid (ref_ok w2)
  go_enter Try.func5, Try.ntmps5
  go_upto_region 2 with (go_at_call 8; refine LN.out.mono ?_; rintro e u0 ⟨n, rfl, gn, hc, hl, hb⟩; have X := Lib.hid (⟨gn, hc, hl, hb⟩ : _ ∧ _ ∧ _ ∧ _); clear gn hc hl hb)
  generalize wrap64 (a1.tmod 64) = x at Hx ⊢
  generalize wrap64 (1 + wrap64 a2) = r at Hr ⊢
  obtain ⟨V0, hV0⟩ : ∃ X, X = u0.alloc (.cells n.cs 28) := ⟨_, rfl⟩
  have B0 := Lib.hid (show Below w.heap.size w V0 by rw [hV0]; exact X.out.2.2.2.alloc X.out.2.2.2.size _)
  have NN0 := Lib.hid (show NB V0 u0.heap.size n by rw [hV0]; exact nb_new X.out.1)
  rw [← hV0]; clear hV0
  generalize u0.heap.size = b0 at NN0 ⊢
  have lN0 := NN0.out.ld
  have HC := Lib.hid X.out.2.1
  have HR := Lib.hid X.out.1.rd
  have d3 := node_cellA NN0.out.1 (i := 3) (v := .int .u64 n.bm) rfl
  have d4 := node_cellA NN0.out.1 (i := 4) (v := .slice n.bA n.bs.length n.bc) rfl
  have CC1 := Lib.hid (plain_any n V0 NN0.out.2 HC.out X.out.2.2.1)
  go_upto_region 3 with (go_at_call 16; refine CC1.out.mono ?_; rintro e u1 ⟨p, rfl, gy, iy, hb⟩; have Y1 := Lib.hid (⟨gy, iy, hb⟩ : _ ∧ _ ∧ _); clear iy gy hb)
  obtain ⟨V1, hV1⟩ : ∃ X, X = u1.alloc (.cells p.cs 28) := ⟨_, rfl⟩
  have BB1 := Lib.hid (show Below V0.heap.size V0 V1 by rw [hV1]; exact (Y1.out.2.2).alloc (Y1.out.2.2).size _)
  have NN1 := Lib.hid (show NB V1 u1.heap.size p by rw [hV1]; exact nb_new Y1.out.1)
  rw [← hV1]; clear hV1
  have Nn2 := Lib.hid (NN0.out.up BB1.out)
  have lNn2 := Nn2.out.ld
  have B3 := Lib.hid (B0.out.trans (BB1.out.mono B0.out.size))
  clear NN0
  clear B0
  generalize u1.heap.size = b1 at NN1 ⊢
  have lN1 := NN1.out.ld
  have Ip := Lib.hid (Y1.out.2.1)
  cases e : fN n x with
  | none =>
    have CC4 := Lib.hid (look_none Nn2.out.2 HC.out e)
    go_upto_region 5 with (go_at_call 12; refine CC4.out.mono ?_; rintro e u4 ⟨rfl, hg⟩; have BB4 := Lib.hid (Gr.b hg); clear hg)
    have Nn5 := Lib.hid (Nn2.out.up BB4.out)
    have lNn5 := Nn5.out.ld
    have Np6 := Lib.hid (NN1.out.up BB4.out)
    have lNp6 := Np6.out.ld
    have B7 := Lib.hid (B3.out.trans (BB4.out.mono B3.out.size))
    clear Nn2
    clear NN1
    clear B3
    have CC8 := Lib.hid (ins_y Nn5.out.2 HC.out Hx.out e Hr.out)
    go_upto_region 6 with (go_at_call 13; refine CC8.out.mono ?_; rintro e u8 ⟨ya, rfl, iy, gy, hb⟩; have Y8 := Lib.hid (⟨gy, iy, hb⟩ : _ ∧ _ ∧ _); clear iy gy hb)
    obtain ⟨V8, hV8⟩ : ∃ X, X = u8.alloc (.cells ya.cs 28) := ⟨_, rfl⟩
    have BB8 := Lib.hid (show Below u4.heap.size u4 V8 by rw [hV8]; exact (Y8.out.2.2).alloc (Y8.out.2.2).size _)
    have NN8 := Lib.hid (show NB V8 u8.heap.size ya by rw [hV8]; exact nb_new Y8.out.1)
    rw [← hV8]; clear hV8
    have Nn9 := Lib.hid (Nn5.out.up BB8.out)
    have lNn9 := Nn9.out.ld
    have Np10 := Lib.hid (Np6.out.up BB8.out)
    have lNp10 := Np10.out.ld
    have B11 := Lib.hid (B7.out.trans (BB8.out.mono B7.out.size))
    clear Nn5
    clear Np6
    clear B7
    generalize u8.heap.size = b8 at NN8 ⊢
    have lN8 := NN8.out.ld
    have Iya := Lib.hid (Y8.out.2.1)
    have ea : fN ya x = some r := (map_at Iya.out Hx.out).trans (by simp)
    have CC12 := Lib.hid (rem_y NN8.out.2 Iya.out.isC ea)
    go_upto_region 7 with (go_at_call 15; refine CC12.out.mono ?_; rintro e u12 ⟨yb, rfl, iy, gy, hb⟩; have Y12 := Lib.hid (⟨gy, iy, hb⟩ : _ ∧ _ ∧ _); clear iy gy hb)
    obtain ⟨V12, hV12⟩ : ∃ X, X = u12.alloc (.cells yb.cs 28) := ⟨_, rfl⟩
    have BB12 := Lib.hid (show Below V8.heap.size V8 V12 by rw [hV12]; exact (Y12.out.2.2).alloc (Y12.out.2.2).size _)
    have NN12 := Lib.hid (show NB V12 u12.heap.size yb by rw [hV12]; exact nb_new Y12.out.1)
    rw [← hV12]; clear hV12
    have Nn13 := Lib.hid (Nn9.out.up BB12.out)
    have lNn13 := Nn13.out.ld
    have Np14 := Lib.hid (Np10.out.up BB12.out)
    have lNp14 := Np14.out.ld
    have Nya15 := Lib.hid (NN8.out.up BB12.out)
    have lNya15 := Nya15.out.ld
    have B16 := Lib.hid (B11.out.trans (BB12.out.mono B11.out.size))
    clear Nn9
    clear Np10
    clear NN8
    clear B11
    generalize u12.heap.size = b12 at NN12 ⊢
    have lN12 := NN12.out.ld
    have Iyb := Lib.hid (Y12.out.2.1)
    have AW := Lib.hid (fun X => awake_any X)
    have E1 := Lib.hid (fun X (hX : RowKit.Below V12.heap.size V12 X) => equal2 (NN12.out.up hX).2 (Np14.out.up hX).2 (Iyb.out.eq Ip.out fun j hj => by
          by_cases ej : (j : Int) = x
          · simp only [if_pos ej]; rw [ej, e]
          · simp only [if_neg ej]; rw [Iya.out.fN j hj, if_neg ej]))
    go_wp2_with (first
      | (go_at_call 17; (with_reducible refine (E1.out _ A0.out).mono ?_); rintro e t1 ⟨rfl, hg⟩; have A1 := Lib.hid (A0.out.trans (hg.b.mono A0.out.size)); clear hg)
      | (go_at_call 11; refine (AW.out _).mono ?_; rintro e t0 ⟨rfl, hb⟩; have A0 := Lib.hid hb; have qyb0 := (NN12.out.up A0.out).ld; have qp0 := (Np14.out.up A0.out).ld; clear hb))
    go_ret
    exact ⟨rfl, B16.out.trans (A1.out.mono B16.out.size)⟩
  | some z =>
    have hz := fN_pos HC.out e
    have CC4 := Lib.hid (look_some Nn2.out.2 HC.out e)
    go_upto_region 8 with (go_at_call 12; refine CC4.out.mono ?_; rintro e u4 ⟨rfl, hg⟩; have BB4 := Lib.hid (Gr.b hg); clear hg)
    have Nn5 := Lib.hid (Nn2.out.up BB4.out)
    have lNn5 := Nn5.out.ld
    have Np6 := Lib.hid (NN1.out.up BB4.out)
    have lNp6 := Np6.out.ld
    have B7 := Lib.hid (B3.out.trans (BB4.out.mono B3.out.size))
    clear Nn2
    clear NN1
    clear B3
    have CC8 := Lib.hid (rem_y Nn5.out.2 HC.out e)
    go_upto_region 9 with (go_at_call 15; refine CC8.out.mono ?_; rintro e u8 ⟨yc, rfl, iy, gy, hb⟩; have Y8 := Lib.hid (⟨gy, iy, hb⟩ : _ ∧ _ ∧ _); clear iy gy hb)
    obtain ⟨V8, hV8⟩ : ∃ X, X = u8.alloc (.cells yc.cs 28) := ⟨_, rfl⟩
    have BB8 := Lib.hid (show Below u4.heap.size u4 V8 by rw [hV8]; exact (Y8.out.2.2).alloc (Y8.out.2.2).size _)
    have NN8 := Lib.hid (show NB V8 u8.heap.size yc by rw [hV8]; exact nb_new Y8.out.1)
    rw [← hV8]; clear hV8
    have Nn9 := Lib.hid (Nn5.out.up BB8.out)
    have lNn9 := Nn9.out.ld
    have Np10 := Lib.hid (Np6.out.up BB8.out)
    have lNp10 := Np10.out.ld
    have B11 := Lib.hid (B7.out.trans (BB8.out.mono B7.out.size))
    clear Nn5
    clear Np6
    clear B7
    generalize u8.heap.size = b8 at NN8 ⊢
    have lN8 := NN8.out.ld
    have Iyc := Lib.hid (Y8.out.2.1)
    have ec : fN yc x = none := (map_at Iyc.out Hx.out).trans (by simp)
    have CC12 := Lib.hid (ins_y NN8.out.2 Iyc.out.isC Hx.out ec hz)
    go_upto_region 10 with (go_at_call 13; refine CC12.out.mono ?_; rintro e u12 ⟨yd, rfl, iy, gy, hb⟩; have Y12 := Lib.hid (⟨gy, iy, hb⟩ : _ ∧ _ ∧ _); clear iy gy hb)
    obtain ⟨V12, hV12⟩ : ∃ X, X = u12.alloc (.cells yd.cs 28) := ⟨_, rfl⟩
    have BB12 := Lib.hid (show Below V8.heap.size V8 V12 by rw [hV12]; exact (Y12.out.2.2).alloc (Y12.out.2.2).size _)
    have NN12 := Lib.hid (show NB V12 u12.heap.size yd by rw [hV12]; exact nb_new Y12.out.1)
    rw [← hV12]; clear hV12
    have Nn13 := Lib.hid (Nn9.out.up BB12.out)
    have lNn13 := Nn13.out.ld
    have Np14 := Lib.hid (Np10.out.up BB12.out)
    have lNp14 := Np14.out.ld
    have Nyc15 := Lib.hid (NN8.out.up BB12.out)
    have lNyc15 := Nyc15.out.ld
    have B16 := Lib.hid (B11.out.trans (BB12.out.mono B11.out.size))
    clear Nn9
    clear Np10
    clear NN8
    clear B11
    generalize u12.heap.size = b12 at NN12 ⊢
    have lN12 := NN12.out.ld
    have Iyd := Lib.hid (Y12.out.2.1)
    have CC17 := Lib.hid (upd_y Nn13.out.2 HC.out e Hr.out)
    go_upto_region 11 with (go_at_call 14; refine CC17.out.mono ?_; rintro e u17 ⟨ye, rfl, iy, gy, hb⟩; have Y17 := Lib.hid (⟨gy, iy, hb⟩ : _ ∧ _ ∧ _); clear iy gy hb)
    obtain ⟨V17, hV17⟩ : ∃ X, X = u17.alloc (.cells ye.cs 28) := ⟨_, rfl⟩
    have BB17 := Lib.hid (show Below V12.heap.size V12 V17 by rw [hV17]; exact (Y17.out.2.2).alloc (Y17.out.2.2).size _)
    have NN17 := Lib.hid (show NB V17 u17.heap.size ye by rw [hV17]; exact nb_new Y17.out.1)
    rw [← hV17]; clear hV17
    have Nn18 := Lib.hid (Nn13.out.up BB17.out)
    have lNn18 := Nn18.out.ld
    have Np19 := Lib.hid (Np14.out.up BB17.out)
    have lNp19 := Np19.out.ld
    have Nyc20 := Lib.hid (Nyc15.out.up BB17.out)
    have lNyc20 := Nyc20.out.ld
    have Nyd21 := Lib.hid (NN12.out.up BB17.out)
    have lNyd21 := Nyd21.out.ld
    have B22 := Lib.hid (B16.out.trans (BB17.out.mono B16.out.size))
    clear Nn13
    clear Np14
    clear Nyc15
    clear NN12
    clear B16
    generalize u17.heap.size = b17 at NN17 ⊢
    have lN17 := NN17.out.ld
    have Iye := Lib.hid (Y17.out.2.1)
    have ee : fN ye x = some r := (map_at Iye.out Hx.out).trans (by simp)
    have CC23 := Lib.hid (upd_y NN17.out.2 Iye.out.isC ee hz)
    go_upto_region 12 with (go_at_call 14; refine CC23.out.mono ?_; rintro e u23 ⟨yf, rfl, iy, gy, hb⟩; have Y23 := Lib.hid (⟨gy, iy, hb⟩ : _ ∧ _ ∧ _); clear iy gy hb)
    obtain ⟨V23, hV23⟩ : ∃ X, X = u23.alloc (.cells yf.cs 28) := ⟨_, rfl⟩
    have BB23 := Lib.hid (show Below V17.heap.size V17 V23 by rw [hV23]; exact (Y23.out.2.2).alloc (Y23.out.2.2).size _)
    have NN23 := Lib.hid (show NB V23 u23.heap.size yf by rw [hV23]; exact nb_new Y23.out.1)
    rw [← hV23]; clear hV23
    have Nn24 := Lib.hid (Nn18.out.up BB23.out)
    have lNn24 := Nn24.out.ld
    have Np25 := Lib.hid (Np19.out.up BB23.out)
    have lNp25 := Np25.out.ld
    have Nyc26 := Lib.hid (Nyc20.out.up BB23.out)
    have lNyc26 := Nyc26.out.ld
    have Nyd27 := Lib.hid (Nyd21.out.up BB23.out)
    have lNyd27 := Nyd27.out.ld
    have Nye28 := Lib.hid (NN17.out.up BB23.out)
    have lNye28 := Nye28.out.ld
    have B29 := Lib.hid (B22.out.trans (BB23.out.mono B22.out.size))
    clear Nn18
    clear Np19
    clear Nyc20
    clear Nyd21
    clear NN17
    clear B22
    generalize u23.heap.size = b23 at NN23 ⊢
    have lN23 := NN23.out.ld
    have Iyf := Lib.hid (Y23.out.2.1)
    have AW := Lib.hid (fun X => awake_any X)
    have E1 := Lib.hid (fun X (hX : RowKit.Below V23.heap.size V23 X) => equal2 (Nyd27.out.up hX).2 (Np25.out.up hX).2 (Iyd.out.eq Ip.out fun j hj => by
          by_cases ej : (j : Int) = x
          · simp only [if_pos ej]; rw [ej, e]
          · simp only [if_neg ej]; rw [Iyc.out.fN j hj, if_neg ej]))
    have E2 := Lib.hid (fun X (hX : RowKit.Below V23.heap.size V23 X) => equal2 (NN23.out.up hX).2 (Np25.out.up hX).2 (Iyf.out.eq Ip.out fun j hj => by
          by_cases ej : (j : Int) = x
          · simp only [if_pos ej]; rw [ej, e]
          · simp only [if_neg ej]; rw [Iye.out.fN j hj, if_neg ej]))
    go_wp2_with (first
      | (go_at_call 17; (with_reducible refine (E2.out _ A1.out).mono ?_); rintro e t2 ⟨rfl, hg⟩; have A2 := Lib.hid (A1.out.trans (hg.b.mono A1.out.size)); clear hg)
      | (go_at_call 17; (with_reducible refine (E1.out _ A0.out).mono ?_); rintro e t1 ⟨rfl, hg⟩; have A1 := Lib.hid (A0.out.trans (hg.b.mono A0.out.size)); have qyf1 := (NN23.out.up A1.out).ld; have qp1 := (Np25.out.up A1.out).ld; clear hg)
      | (go_at_call 11; refine (AW.out _).mono ?_; rintro e t0 ⟨rfl, hb⟩; have A0 := Lib.hid hb; have qyd0 := (Nyd27.out.up A0.out).ld; have qp0 := (Np25.out.up A0.out).ld; clear hb))
    go_ret
    exact ⟨rfl, B29.out.trans (A2.out.mono B29.out.size)⟩

/-! ### THE ROW's STEP -/
set_option maxRecDepth 100000 in
theorem lifted (os : Os) (started : os.Started) (H : Type) (enc : TypeId × Value → H) :
    ReturnsInHanded {} Try.checked os 5 .any (Rows.branchUndoSpec.pre6 enc Try.prog Try.f5 Rows.branchUndoRow.domain false) (Rows.branchUndoSpec.post enc Try.prog Try.f5 false true false false) := by
  refine returnsInHanded_of_change (C := Try.checked) own started (by kernel_rfl) Try.func5
    (ChangeSpec.witness6 (enc := enc) (C := Try.checked) false ⟨#[], #[.slice none 0 0, .int .u8 0, .int .u16 0], []⟩ 8 (by kernel_rfl) (by kernel_rfl) (by kernel_rfl) (by kernel_rfl)) ?_
  intro W base args ds gs before hval0 hW hcnd _
  have hval : ∀ (j : Nat) t v, Try.f5.params[j]? = some t → args[j]? = some v → Value.okWide Try.prog W .any base t v := hval0
  have hW' := hW
  obtain ⟨p, q, hA0, hV, rfl, hfz, hnd⟩ := hW
  have hA : DataW.TrodAll enc Try.prog W 0 (fun _ => true) true Try.f5.params.toList args.toList ds p := hA0
  rw [Try.params5] at hA hval
  obtain ⟨v0, vs0, d0, ds0, p0, q0, hargs, rfl, rfl, h0, r0⟩ := trodAll_cons hA
  obtain ⟨v1, vs1, d1, ds1, p1, q1, rfl, rfl, rfl, h1, r1⟩ := trodAll_cons r0
  obtain ⟨v2, vs2, d2, ds2, p2, q2, rfl, rfl, rfl, h2, r2⟩ := trodAll_cons r1
  obtain ⟨rfl, rfl, rfl⟩ := trodAll_nil r2
  obtain rfl : args = #[v0, v1, v2] := by cases args; simp_all
  obtain ⟨rfl, rfl⟩ := trodVars_none hV
  obtain ⟨a0, len0, cap0, rfl⟩ := okWide_slice Try.underlying29 (hval 0 29 v0 rfl rfl)
  have k0 := h0
  have lt0 : ∀ x ∈ p0, x.block < W.heap.size := by obtain ⟨m, hm⟩ := k0; exact DataW.trod_lt m _ _ _ hm
  have w0 := open_intsT h0
  obtain ⟨a1, rfl, rfl, rfl, w1⟩ := open_int Try.underlying5 (hval 1 5 v1 rfl rfl) h1
  obtain ⟨a2, rfl, rfl, rfl, w2⟩ := open_int Try.underlying35 (hval 2 35 v2 rfl rfl) h2
  clear hA0 hval0
  refine (walk a0 len0 cap0 a1 a2 W w0 w1 w2).mono fun e W' ⟨he, bel⟩ => ?_
  subst he
  exact ⟨_, rfl, _, _, _, [], _, [], hW', trodAll_mk1 (shut_bool Try.underlying4 _), (trodAll_cons_mk (Below.trod laidOut (by kernel_rfl) (of_decide_eq_true (by kernel_rfl)) k0 bel lt0) (trodAll_cons_mk (shut_int Try.underlying5 w1) (trodAll_cons_mk (shut_int Try.underlying35 w2) trodAll_mk0))), rfl, bel.frame _, fun h => by cases h⟩

theorem over : Rows.branchUndoRow.holds Try.pinned (OpenSpec.ofChange Rows.branchUndoSpec) :=
  OpenClaim.holds_of_wide 5 Try.f5 rfl rfl rfl rfl rfl rfl rfl ⟨rfl, rfl, rfl, rfl, rfl⟩ rfl rfl rfl rfl rfl (by kernel_rfl) Try.func5 (by kernel_rfl)
    (of_decide_eq_true (by kernel_rfl)) (by unfold Func.isWrapper; first | (rw [if_pos (by decide +kernel)]; kernel_rfl) | (rw [if_neg (by decide +kernel)]; exact ⟨rfl, rfl⟩))
    (fun os started H enc _ => lifted os started H enc)

/-- ████ THE STATEMENT ████ -/
theorem proved : Rows.BranchUndoSaid := over
#print axioms proved
end Go.Proofs.Ytcigljjnopfohaa.branchUndo
