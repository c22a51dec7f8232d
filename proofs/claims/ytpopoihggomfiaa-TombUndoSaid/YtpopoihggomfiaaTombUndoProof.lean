/- For every input the Go function TombUndo of package ctrielaw07 returns true, and each argument reads afterwards as it read before. Conditions: none but those that every row of the form bears by itself. The frame follows the guide's proof-skeleton; the walk is ours. -/
import Derived.Test.YtpopoihggomfiaaRows
import Derived.WalkKit
import Derived.ProofKit
import Derived.OpenShut
import Derived.ShutString
import Derived.ChangeOld
import Derived.Below
import Derived.Test.YtpopoihggomfiaaFrame
import Derived.Test.YtpopoihggomfiaaTbR
import Derived.Lib.Hide
import Derived.Deep.RegionHeld3
import Derived.Deep.DeepCutAuto
namespace Go.Proofs.Ytpopoihggomfiaa.tombUndo
open Go.Lib
open Go.ChangeShapes Go.WideShapes Go.ChangeAt Go.RowKit
open Go.ChangeMaps (open_string shut_string)
set_option linter.unusedVariables false

theorem own : ownKnob Try.prog.godebug = none := by kernel_rfl
theorem laidOut : laidOutB Try.prog = true := by kernel_rfl
open Go.Sort
set_option maxRecDepth 100000
attribute [local go_sem ↓] exec_load28 exec_storeN
attribute [local go_sem] run_storeNode_new

/-! ### STEP 1: THE WALK -/
set_option maxRecDepth 100000 in
set_option maxHeartbeats 16000000 in
theorem walk (a0 : Option Addr) (len0 cap0 : Nat) (a1 : Int) (a2 : Int) (a3 : Int) (a4 : Int) (a5 : Int) (w : World) (w0 : IsInts w a0 len0) (w1 : (Lit.int .u8 a1).wf = true) (w2 : (Lit.int .u64 a2).wf = true) (w3 : (Lit.int .u64 a3).wf = true) (w4 : (Lit.int .u8 a4).wf = true) (w5 : (Lit.int .u16 a5).wf = true) :
    Calls Try.prog 4 #[.slice a0 len0 cap0, .int .u8 a1, .int .u64 a2, .int .u64 a3, .int .u8 a4, .int .u16 a5] w fun e w' => e = .returned (.bool true) ∧ Below w.heap.size w w' := by
  have NW := Lib.hid (new_any a0 len0 cap0 w w0.1 w0.2)
  have st1 := fun (X : World) (k : ByteArray) => run_storeNode_new X (snN a2 k a3)
  simp only [snN_lit] at st1
  have st2 := fun (Y : World) (o : Obj) (bm : Int) (A : Option Addr) => run_storeNode_new (Y.alloc o) (cN bm A 1 [0])
  simp only [show ∀ (Y : World) (o : Obj), (Y.alloc o).heap.size = Y.heap.size + 1 from fun Y o => by simp, cN_lit, List.length_cons, List.length_nil, Nat.zero_add] at st2
  have st3 := fun (Y : World) (o : Obj) (bm : Int) (A : Option Addr) => run_storeNode_new (Y.alloc o) (cN bm A 2 [1, 2])
  simp only [show ∀ (Y : World) (o : Obj), (Y.alloc o).heap.size = Y.heap.size + 1 from fun Y o => by simp, cN_lit, List.length_cons, List.length_nil, Nat.zero_add] at st3
  have BO := Lib.hid (bit_ok w4)
  have RO := Lib.hid (ref_ok w5)
  have LO := Lib.hid (lev_ok w1)
  clear w0 w1 w2 w3 w4 w5
  go_enter Try.func4, Try.ntmps4
  go_upto_region 2 with (go_at_call 7; refine NW.out.mono ?_; rintro e u1 ⟨rfl, ht, hb⟩; have T1 := Lib.hid ht; have B1 := Lib.hid hb; clear ht hb)
  have KA := Lib.hid (key_any w.heap.size u1 T1.out)
  go_upto_region 3 with (go_at_call 9; refine KA.out.mono ?_; rintro e u2 ⟨k, hks, rfl, ht, hg⟩; have G2 := Lib.hid hg; clear ht hg hks)
  rw [← snN_lit]
  have B2 := Lib.hid (show RowKit.Below w.heap.size w u2 from B1.out.trans (below_of_grown G2.out (Nat.le_refl _) B1.out.size))
  clear NW KA T1 B1 G2
  obtain ⟨V1, hV1⟩ : ∃ X, X = u2.alloc (.cells (snN a2 k a3).cs 28) := ⟨_, rfl⟩
  have N1 := Lib.hid (show NB V1 u2.heap.size (snN a2 k a3) by rw [hV1]; exact nb_new (gn_sn u2 a2 k a3))
  have C1 := Lib.hid (show RowKit.Below w.heap.size w V1 by rw [hV1]; exact B2.out.alloc B2.out.size _)
  rw [← hV1]; clear hV1
  generalize u2.heap.size = b0 at N1 ⊢
  clear st1 B2
  go_upto_region 4 with (fail)
  obtain ⟨bm, hbm⟩ : ∃ bm, bm = IntKind.u64.wrap (2 ^ min (IntKind.u64.wrap (a4.tmod 64)).toNat 64) := ⟨_, rfl⟩
  obtain ⟨r, hr⟩ : ∃ r, r = wrap64 (1 + wrap64 a5) := ⟨_, rfl⟩
  rw [← hbm] at BO
  rw [← hr] at RO
  rw [← hbm, ← hr]
  clear hbm hr
  have rw2 := cN_lit bm (some ⟨V1.heap.size, 0, none⟩) 1 [r]
  simp only [List.length_cons, List.length_nil, Nat.zero_add] at rw2
  rw [← rw2]
  obtain ⟨V3, hV3⟩ : ∃ X, X = (V1.alloc (.cells #[.int .i64 r] 26)).alloc (.cells (cN bm (some ⟨V1.heap.size, 0, none⟩) 1 [r]).cs 28) := ⟨_, rfl⟩
  have GC := gn_cN V1 BO.out.2 [r] (by simp)
  have B3 := Lib.hid (show RowKit.Below V1.heap.size V1 V3 by rw [hV3]; exact (alloc_below V1 _).alloc (by simp) _)
  have N3 := Lib.hid (show NB V3 (V1.heap.size + 1) (cN bm (some ⟨V1.heap.size, 0, none⟩) 1 [r]) by
    have := nb_new GC
    rw [hV3]
    simpa [flatR] using this)
  rw [← hV3]; clear hV3 GC rw2 st2
  have N13 := Lib.hid (N1.out.up B3.out)
  have C3 := Lib.hid (C1.out.trans (B3.out.mono C1.out.size))
  clear N1 C1 B3
  obtain ⟨A3, hA3⟩ : ∃ A3, A3 = some (⟨V1.heap.size, 0, none⟩ : Addr) := ⟨_, rfl⟩
  rw [← hA3] at N3 ⊢
  generalize V1.heap.size + 1 = b3 at N3 ⊢
  clear hA3
  go_upto_region 5 with (fail)
  obtain ⟨bm2, hbm2⟩ : ∃ b, b = bits .or .u64 (IntKind.u64.wrap (2 ^ min (IntKind.u64.wrap (a4.tmod 64)).toNat 64)) (IntKind.u64.wrap (2 ^ ((a4 + 1) % 64).toNat)) := ⟨_, rfl⟩
  have U2 := Lib.hid (show U64 bm2 by rw [hbm2]; exact or_U (wrap_u64_range _) (wrap_u64_range _))
  rw [← hbm2]
  clear hbm2
  have rw3 := cN_lit bm2 (some ⟨V3.heap.size, 0, none⟩) 2 [1, 2]
  simp only [List.length_cons, List.length_nil, Nat.zero_add] at rw3
  rw [← rw3]
  obtain ⟨V5, hV5⟩ : ∃ X, X = (V3.alloc (.cells #[.int .i64 1, .int .i64 2] 26)).alloc (.cells (cN bm2 (some ⟨V3.heap.size, 0, none⟩) 2 [1, 2]).cs 28) := ⟨_, rfl⟩
  have GC := gn_cN V3 U2.out [1, 2] (by simp)
  have B5 := Lib.hid (show RowKit.Below V3.heap.size V3 V5 by rw [hV5]; exact (alloc_below V3 _).alloc (by simp) _)
  have N5 := Lib.hid (show NB V5 (V3.heap.size + 1) (cN bm2 (some ⟨V3.heap.size, 0, none⟩) 2 [1, 2]) by
    have := nb_new GC
    rw [hV5]
    simpa [flatR] using this)
  rw [← hV5]; clear hV5 GC rw3 st3 U2
  have N15 := Lib.hid (N13.out.up B5.out)
  have N35 := Lib.hid (N3.out.up B5.out)
  have C5 := Lib.hid (C3.out.trans (B5.out.mono C3.out.size))
  clear N13 N3 C3 B5
  obtain ⟨A5, hA5⟩ : ∃ A5, A5 = some (⟨V3.heap.size, 0, none⟩ : Addr) := ⟨_, rfl⟩
  rw [← hA5] at N5 ⊢
  generalize V3.heap.size + 1 = b5 at N5 ⊢
  clear hA5
  go_upto_region 6 with (fail)
  obtain ⟨lv, hlv⟩ : ∃ l, l = wrap64 (1 + wrap64 (a1.tmod 11)) := ⟨_, rfl⟩
  rw [← hlv] at LO
  try rw [← hlv]
  clear hlv
  have l15 := N15.out.ld
  have l35 := N35.out.ld
  have CT := Lib.hid (show Calls Try.prog 15 #[.agg (cN bm A3 1 [r]).cs, .int .i64 lv, .agg (snN a2 k a3).cs] V5 (VPost (tombN (snN a2 k a3)) V5) by
    have := contracted_any (cN bm A3 1 [r]) (snN a2 k a3) lv V5 N35.out.2
    rw [ctr_yes BO.out.1 RO.out LO.out] at this
    exact this)
  go_upto_region 7 with (first
    | (go_at_call 15; refine CT.out.mono ?_; rintro e v1 ⟨y, rfl, vy, gy, hb⟩; have Y1 := Lib.hid (unt_of vy); have D1 := Lib.hid hb; clear vy gy hb)
    | (go_at_call 14; refine (untombed_any y v1).mono ?_; rw [Y1.out.1, Y1.out.2]; rintro e v2 ⟨z, rfl, vz, gz, hb⟩; have Z1 := Lib.hid (⟨vz, gz⟩ : _ ∧ _); have D2 := Lib.hid (D1.out.trans (hb.mono D1.out.size)); clear vz gz hb))
  obtain ⟨V, hV⟩ : ∃ X, X = v2.alloc (.cells z.cs 28) := ⟨_, rfl⟩
  have D3 := Lib.hid (show RowKit.Below V5.heap.size V5 V by rw [hV]; exact D2.out.alloc D2.out.size _)
  have NZ := Lib.hid (show NB V v2.heap.size z by rw [hV]; exact nb_new Z1.out.2)
  rw [← hV]; clear hV
  generalize v2.heap.size = b7 at NZ ⊢
  have M1 := Lib.hid (N15.out.up D3.out)
  have M3 := Lib.hid (N35.out.up D3.out)
  have M5 := Lib.hid (N5.out.up D3.out)
  have BF := Lib.hid (C5.out.trans (D3.out.mono C5.out.size))
  clear N15 N35 N5 C5 D1 D2 D3 CT l15 l35 Y1
  obtain ⟨sn, hsn⟩ : ∃ n, n = snN a2 k a3 := ⟨_, rfl⟩
  rw [← hsn] at M1 Z1 ⊢
  clear hsn
  obtain ⟨cn, hcn⟩ : ∃ n, n = cN bm A3 1 [r] := ⟨_, rfl⟩
  rw [← hcn] at M3 ⊢
  clear hcn
  obtain ⟨tn, htn⟩ : ∃ n, n = cN bm2 A5 2 [1, 2] := ⟨_, rfl⟩
  have TW := Lib.hid (show ctrV tn lv sn = tn by rw [htn]; exact ctr_two _ _ _ _ _ _ _)
  rw [← htn] at M5 ⊢
  clear htn
  have KS := Lib.hid (show ∀ X, RowKit.Below V.heap.size V X → Sem.run Try.prog (loadNode (.pointer (some ⟨b0, 0, none⟩))) X = .ok (.agg sn.cs) X ∧ Sem.run Try.prog (loadNode (.pointer (some ⟨b3, 0, none⟩))) X = .ok (.agg cn.cs) X ∧ Sem.run Try.prog (loadNode (.pointer (some ⟨b5, 0, none⟩))) X = .ok (.agg tn.cs) X ∧ Sem.run Try.prog (loadNode (.pointer (some ⟨b7, 0, none⟩))) X = .ok (.agg z.cs) X from fun X hX =>
    ⟨(M1.out.up hX).ld, (M3.out.up hX).ld, (M5.out.up hX).ld, (NZ.out.up hX).ld⟩)
  have BD := Lib.hid (show RowKit.Below V.heap.size V V.drew from ⟨rfl, rfl, rfl, Nat.le_refl _, fun _ _ => rfl⟩)
  have AW := Lib.hid (fun X (hX : RowKit.Below V.heap.size V X) => awake_any X)
  have E1 := Lib.hid (fun X (hX : RowKit.Below V.heap.size V X) => equal_v (NZ.out.up hX).2 (M1.out.up hX).2 Z1.out.1 (Vw.refl _))
  have C0 := Lib.hid (fun X (hX : RowKit.Below V.heap.size V X) => (by have := contracted_any cn sn 0 X (M3.out.up hX).2; rw [ctr_zero] at this; exact this : Calls Try.prog 15 #[.agg cn.cs, .int .i64 0, .agg sn.cs] X (VPost cn X)))
  have CW := Lib.hid (fun X (hX : RowKit.Below V.heap.size V X) => (by have := contracted_any tn sn lv X (M5.out.up hX).2; rw [TW.out] at this; exact this : Calls Try.prog 15 #[.agg tn.cs, .int .i64 lv, .agg sn.cs] X (VPost tn X)))
  have CI := Lib.hid (fun X (hX : RowKit.Below V.heap.size V X) => (by have := contracted_any cn iN lv X (M3.out.up hX).2; rw [ctr_iN, iN_lit] at this; exact this : Calls Try.prog 15 #[.agg cn.cs, .int .i64 lv, .agg #[.int .i64 2, .int .i64 1, .int .i64 1, .int .u64 0, .slice none 0 0, .int .u64 0, .string ⟨#[]⟩, .int .u64 0, .slice none 0 0, .int .i64 0, .int .i64 0, .int .i64 0, .int .i64 0, .int .i64 0]] X (VPost cn X)))
  have EC := Lib.hid (fun X (hX : RowKit.Below V.heap.size V X) (q : Nd) (gq : GN X q) (vq : Vw q cn) => equal_v gq (M3.out.up hX).2 vq (Vw.refl _))
  have ET := Lib.hid (fun X (hX : RowKit.Below V.heap.size V X) (q : Nd) (gq : GN X q) (vq : Vw q tn) => equal_v gq (M5.out.up hX).2 vq (Vw.refl _))
  go_region_held3 (fun w' => Sem.run Try.prog (loadNode (.pointer (some ⟨b0, 0, none⟩))) w' = .ok (.agg sn.cs) w' ∧ Sem.run Try.prog (loadNode (.pointer (some ⟨b3, 0, none⟩))) w' = .ok (.agg cn.cs) w' ∧ Sem.run Try.prog (loadNode (.pointer (some ⟨b5, 0, none⟩))) w' = .ok (.agg tn.cs) w' ∧ Sem.run Try.prog (loadNode (.pointer (some ⟨b7, 0, none⟩))) w' = .ok (.agg z.cs) w')
    (exact KS.out _ (by first | exact Q8.out | exact Q7.out | exact Q6.out | exact Q5.out | exact Q4.out | exact Q3.out | exact Q2.out | exact Q1.out | exact BD.out))
    (first
      | (go_at_call 16; (with_reducible refine F8.out.mono ?_); rintro e t8 ⟨rfl, hg⟩; have Q8 := Lib.hid (Q7.out.trans (hg.b.mono Q7.out.size)); clear hg)
      | (go_at_call 15; (with_reducible refine (CI.out _ Q6.out).mono ?_); rintro e t7 ⟨q3, rfl, vz, gz, hb⟩; have Q7 := Lib.hid (Q6.out.trans (hb.mono Q6.out.size)); have F8 := Lib.hid (EC.out _ Q7.out q3 gz vz); clear vz gz hb)
      | (go_at_call 16; (with_reducible refine F6.out.mono ?_); rintro e t6 ⟨rfl, hg⟩; have Q6 := Lib.hid (Q5.out.trans (hg.b.mono Q5.out.size)); clear hg)
      | (go_at_call 15; (with_reducible refine (CW.out _ Q4.out).mono ?_); rintro e t5 ⟨q2, rfl, vz, gz, hb⟩; have Q5 := Lib.hid (Q4.out.trans (hb.mono Q4.out.size)); have F6 := Lib.hid (ET.out _ Q5.out q2 gz vz); clear vz gz hb)
      | (go_at_call 16; (with_reducible refine F4.out.mono ?_); rintro e t4 ⟨rfl, hg⟩; have Q4 := Lib.hid (Q3.out.trans (hg.b.mono Q3.out.size)); clear hg)
      | (go_at_call 15; (with_reducible refine (C0.out _ Q2.out).mono ?_); rintro e t3 ⟨q1, rfl, vz, gz, hb⟩; have Q3 := Lib.hid (Q2.out.trans (hb.mono Q2.out.size)); have F4 := Lib.hid (EC.out _ Q3.out q1 gz vz); clear vz gz hb)
      | (go_at_call 16; (with_reducible refine (E1.out _ Q1.out).mono ?_); rintro e t2 ⟨rfl, hg⟩; have Q2 := Lib.hid (Q1.out.trans (hg.b.mono Q1.out.size)); clear hg)
      | (go_at_call 12; (with_reducible refine (AW.out _ BD.out).mono ?_); rintro e t1 ⟨rfl, hb⟩; have Q1 := Lib.hid (BD.out.trans (hb.mono BD.out.size)); clear hb))
  all_goals
    go_wp2
    go_ret
    exact ⟨rfl, BF.out.trans (Q8.out.mono BF.out.size)⟩

/-! ### THE ROW's STEP -/
set_option maxRecDepth 100000 in
theorem lifted (os : Os) (started : os.Started) (H : Type) (enc : TypeId × Value → H) :
    ReturnsInHanded {} Try.checked os 4 .any (Rows.tombUndoSpec.pre6 enc Try.prog Try.f4 Rows.tombUndoRow.domain false) (Rows.tombUndoSpec.post enc Try.prog Try.f4 false true false false) := by
  refine returnsInHanded_of_change (C := Try.checked) own started (by kernel_rfl) Try.func4
    (ChangeSpec.witness6 (enc := enc) (C := Try.checked) false ⟨#[], #[.slice none 0 0, .int .u8 0, .int .u64 0, .int .u64 0, .int .u8 0, .int .u16 0], []⟩ 8 (by kernel_rfl) (by kernel_rfl) (by kernel_rfl) (by kernel_rfl)) ?_
  intro W base args ds gs before hval0 hW hcnd _
  have hval : ∀ (j : Nat) t v, Try.f4.params[j]? = some t → args[j]? = some v → Value.okWide Try.prog W .any base t v := hval0
  have hW' := hW
  obtain ⟨p, q, hA0, hV, rfl, hfz, hnd⟩ := hW
  have hA : DataW.TrodAll enc Try.prog W 0 (fun _ => true) true Try.f4.params.toList args.toList ds p := hA0
  rw [Try.params4] at hA hval
  obtain ⟨v0, vs0, d0, ds0, p0, q0, hargs, rfl, rfl, h0, r0⟩ := trodAll_cons hA
  obtain ⟨v1, vs1, d1, ds1, p1, q1, rfl, rfl, rfl, h1, r1⟩ := trodAll_cons r0
  obtain ⟨v2, vs2, d2, ds2, p2, q2, rfl, rfl, rfl, h2, r2⟩ := trodAll_cons r1
  obtain ⟨v3, vs3, d3, ds3, p3, q3, rfl, rfl, rfl, h3, r3⟩ := trodAll_cons r2
  obtain ⟨v4, vs4, d4, ds4, p4, q4, rfl, rfl, rfl, h4, r4⟩ := trodAll_cons r3
  obtain ⟨v5, vs5, d5, ds5, p5, q5, rfl, rfl, rfl, h5, r5⟩ := trodAll_cons r4
  obtain ⟨rfl, rfl, rfl⟩ := trodAll_nil r5
  obtain rfl : args = #[v0, v1, v2, v3, v4, v5] := by cases args; simp_all
  obtain ⟨rfl, rfl⟩ := trodVars_none hV
  obtain ⟨a0, len0, cap0, rfl⟩ := okWide_slice Try.underlying29 (hval 0 29 v0 rfl rfl)
  have k0 := h0
  have lt0 : ∀ x ∈ p0, x.block < W.heap.size := by obtain ⟨m, hm⟩ := k0; exact DataW.trod_lt m _ _ _ hm
  have w0 := open_intsT h0
  obtain ⟨a1, rfl, rfl, rfl, w1⟩ := open_int Try.underlying5 (hval 1 5 v1 rfl rfl) h1
  obtain ⟨a2, rfl, rfl, rfl, w2⟩ := open_int Try.underlying23 (hval 2 23 v2 rfl rfl) h2
  obtain ⟨a3, rfl, rfl, rfl, w3⟩ := open_int Try.underlying23 (hval 3 23 v3 rfl rfl) h3
  obtain ⟨a4, rfl, rfl, rfl, w4⟩ := open_int Try.underlying5 (hval 4 5 v4 rfl rfl) h4
  obtain ⟨a5, rfl, rfl, rfl, w5⟩ := open_int Try.underlying39 (hval 5 39 v5 rfl rfl) h5
  clear hA0 hval0
  refine (walk a0 len0 cap0 a1 a2 a3 a4 a5 W w0 w1 w2 w3 w4 w5).mono fun e W' ⟨he, bel⟩ => ?_
  subst he
  exact ⟨_, rfl, _, _, _, [], _, [], hW', trodAll_mk1 (shut_bool Try.underlying4 _), (trodAll_cons_mk (Below.trod laidOut (by kernel_rfl) (of_decide_eq_true (by kernel_rfl)) k0 bel lt0) (trodAll_cons_mk (shut_int Try.underlying5 w1) (trodAll_cons_mk (shut_int Try.underlying23 w2) (trodAll_cons_mk (shut_int Try.underlying23 w3) (trodAll_cons_mk (shut_int Try.underlying5 w4) (trodAll_cons_mk (shut_int Try.underlying39 w5) trodAll_mk0)))))), rfl, bel.frame _, fun h => by cases h⟩

theorem over : Rows.tombUndoRow.holds Try.pinned (OpenSpec.ofChange Rows.tombUndoSpec) :=
  OpenClaim.holds_of_wide 4 Try.f4 rfl rfl rfl rfl rfl rfl rfl ⟨rfl, rfl, rfl, rfl, rfl⟩ rfl rfl rfl rfl rfl (by kernel_rfl) Try.func4 (by kernel_rfl)
    (of_decide_eq_true (by kernel_rfl)) (by unfold Func.isWrapper; first | (rw [if_pos (by decide +kernel)]; kernel_rfl) | (rw [if_neg (by decide +kernel)]; exact ⟨rfl, rfl⟩))
    (fun os started H enc _ => lifted os started H enc)

/-- ████ THE STATEMENT ████ -/
theorem proved : Rows.TombUndoSaid := over
#print axioms proved
end Go.Proofs.Ytpopoihggomfiaa.tombUndo
