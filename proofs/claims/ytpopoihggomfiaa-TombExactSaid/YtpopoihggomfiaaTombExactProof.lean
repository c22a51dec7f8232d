/- For every input the Go function TombExact of package ctrielaw07 returns true, and each argument reads afterwards as it read before. Conditions: none but those that every row of the form bears by itself. The frame follows the guide's proof-skeleton; the walk is ours. -/
import Derived.Test.YtpopoihggomfiaaRows
import Derived.WalkKit
import Derived.ProofKit
import Derived.OpenShut
import Derived.ShutString
import Derived.ChangeOld
import Derived.Below
import Derived.Test.YtpopoihggomfiaaFrame
import Derived.Test.YtpopoihggomfiaaTbQ
import Derived.Lib.Hide
import Derived.Deep.RegionHeld3
import Derived.Deep.DeepCutAuto
namespace Go.Proofs.Ytpopoihggomfiaa.tombExact
open Go.Lib
open Go.ChangeShapes Go.WideShapes Go.ChangeAt Go.RowKit
open Go.ChangeMaps (open_string shut_string)
set_option linter.unusedVariables false

theorem own : ownKnob Try.prog.godebug = none := by kernel_rfl
theorem laidOut : laidOutB Try.prog = true := by kernel_rfl
open Go.Sort
set_option maxRecDepth 100000
attribute [local go_sem ↓] exec_load28 exec_storeN
attribute [local go_sem] run_storeNode_new

/-! ### STEP 1: THE WALK -/
set_option maxRecDepth 100000 in
set_option maxHeartbeats 16000000 in
theorem walk (n0 : Nd) (n1 : Nd) (a2 : Option Addr) (len2 cap2 : Nat) (a3 : Int) (a4 : ByteArray) (a5 : Int) (w : World) (w0 : IsNode w n0) (w1 : IsNode w n1) (w2 : IsInts w a2 len2) (w3 : (Lit.int .i64 a3).wf = true) (w4 : a4.size ≤ maxLen) (w5 : (Lit.int .u64 a5).wf = true) :
    Calls Try.prog 3 #[.agg n0.cs, .agg n1.cs, .slice a2 len2 cap2, .int .i64 a3, .string a4, .int .u64 a5] w fun e w' => e = .returned (.bool true) ∧ Below w.heap.size w w' := by
  obtain ⟨W, hW⟩ : ∃ W, W = (w.alloc (.cells n0.cs 28)).alloc (.cells n1.cs 28) := ⟨_, rfl⟩
  have BW := Lib.hid (show RowKit.Below w.heap.size w W by rw [hW]; exact (alloc_below w _).alloc (by simp) _)
  have H0 := Lib.hid (show W.heap[w.heap.size]? = some (.cells n0.cs 28 (0, 0)) by rw [hW]; exact (Below.heap_alloc _ _ _ (by simp)).trans (heap_alloc_new w _))
  have H1 := Lib.hid (show W.heap[w.heap.size + 1]? = some (.cells n1.cs 28 (0, 0)) by rw [hW]; have := heap_alloc_new (w.alloc (.cells n0.cs 28)) (.cells n1.cs 28); simpa using this)
  have NW := Lib.hid (new_any a2 len2 cap2 W w2.1 (ints_up w2 BW.out))
  have I0 := Lib.hid w0
  have I1 := Lib.hid w1
  have I2 := Lib.hid w2
  have HK := Lib.hid w4
  have HW := Lib.hid hW.symm
  clear hW w0 w1 w2 w3 w4 w5
  go_enter Try.func3, Try.ntmps3
  go_upto_region 1 with (fail)
  rw [HW.out]
  go_upto_region 2 with (go_at_call 7; refine NW.out.mono ?_; rintro e u1 ⟨rfl, ht, hb⟩; have T1 := Lib.hid ht; have B1 := Lib.hid hb; clear ht hb)
  clear HW NW
  go_upto_region 3 with (first
    | (go_at_call 8; refine (node_any W.heap.size 9 u2 T2.out (by omega) (by omega)).mono ?_; rintro e u3 ⟨y, rfl, gd, tp, gr, vn, fr⟩; have X3 := Lib.hid (gn_tape X2.out F2.out T1.out.lt gr); have Y3 := Lib.hid (gn_good gd); have L3 := Lib.hid (⟨P2.out, gd.pl⟩ : _ ∧ _); have T3 := Lib.hid tp; have G3 := Lib.hid (grown_trans_ G2.out gr); have F3 := Lib.hid fr; have sA := (two_new X3.out Y3.out #[.int .i64 0, .int .i64 0, .int .i64 0, .int .u64 0, .slice none 0 0, .int .u64 0, .string ⟨#[]⟩, .int .u64 0, .slice none 0 0, .int .i64 0, .int .i64 0, .int .i64 0, .int .i64 0, .int .i64 0] rfl).1; have sB := (two_new X3.out Y3.out #[.int .i64 0, .int .i64 0, .int .i64 0, .int .u64 0, .slice none 0 0, .int .u64 0, .string ⟨#[]⟩, .int .u64 0, .slice none 0 0, .int .i64 0, .int .i64 0, .int .i64 0, .int .i64 0, .int .i64 0] rfl).2.1; clear gd tp gr vn fr)
    | (go_at_call 8; refine (node_any W.heap.size 9 u1 T1.out (by omega) (by omega)).mono ?_; rintro e u2 ⟨x, rfl, gd, tp, gr, vn, fr⟩; have X2 := Lib.hid (gn_good gd); have P2 := Lib.hid gd.pl; have F2 := Lib.hid fr; have S2 := Lib.hid gr.size; have T2 := Lib.hid tp; have G2 := Lib.hid gr; clear gd tp gr vn fr))
  have TN := two_new X3.out Y3.out #[.int .i64 0, .int .i64 0, .int .i64 0, .int .u64 0, .slice none 0 0, .int .u64 0, .string ⟨#[]⟩, .int .u64 0, .slice none 0 0, .int .i64 0, .int .i64 0, .int .i64 0, .int .i64 0, .int .i64 0] rfl
  obtain ⟨V, hV⟩ : ∃ V, V = (((u3.alloc (.cells #[.int .i64 0, .int .i64 0, .int .i64 0, .int .u64 0, .slice none 0 0, .int .u64 0, .string ⟨#[]⟩, .int .u64 0, .slice none 0 0, .int .i64 0, .int .i64 0, .int .i64 0, .int .i64 0, .int .i64 0] 28)).alloc (.cells #[.int .i64 0, .int .i64 0, .int .i64 0, .int .u64 0, .slice none 0 0, .int .u64 0, .string ⟨#[]⟩, .int .u64 0, .slice none 0 0, .int .i64 0, .int .i64 0, .int .i64 0, .int .i64 0, .int .i64 0] 28)).setRow u3.heap.size x.cs).setRow (u3.heap.size + 1) y.cs := ⟨_, rfl⟩
  rw [← hV] at TN ⊢
  have NX := Lib.hid TN.2.2.1
  have NY := Lib.hid TN.2.2.2.1
  have BV := Lib.hid TN.2.2.2.2
  clear hV TN sA sB X3 Y3
  have LT := Lib.hid (show W.heap.size < u1.heap.size ∧ u1.heap.size ≤ u2.heap.size ∧ u1.heap.size ≤ u3.heap.size from ⟨T1.out.lt, S2.out, G3.out.size⟩)
  have TV := Lib.hid (T3.out.below BV.out T3.out.lt)
  have BVV := Lib.hid (show RowKit.Below W.heap.size W V from (B1.out.trans (below_of_grown G3.out (Nat.le_refl _) B1.out.size)).trans (BV.out.mono (Nat.le_trans B1.out.size G3.out.size)))
  clear T1 T2 G2 T3 B1 G3 X2 S2
  generalize u3.heap.size = b at NX NY LT ⊢
  have KA := Lib.hid (key_any W.heap.size V TV.out)
  go_upto_region 4 with (go_at_call 9; refine KA.out.mono ?_; rintro e u4 ⟨k, hks, rfl, ht, hg⟩; have G4 := Lib.hid hg; have HKS := Lib.hid hks; clear ht hg hks)
  have MX := Lib.hid (show NB u4 b x from ⟨(G4.out.block b (Array.getElem?_eq_some_iff.1 NX.out.1).1 (fun e => by injection e with e; have := LT.out; omega)).trans NX.out.1, gn_tape NX.out.2 F2.out LT.out.1 G4.out⟩)
  have MY := Lib.hid (show NB u4 (b + 1) y from ⟨(G4.out.block (b + 1) (Array.getElem?_eq_some_iff.1 NY.out.1).1 (fun e => by injection e with e; have := LT.out; omega)).trans NY.out.1, gn_tape NY.out.2 F3.out (Nat.lt_of_lt_of_le LT.out.1 LT.out.2.1) G4.out⟩)
  have BU := Lib.hid (show RowKit.Below W.heap.size W u4 from BVV.out.trans (below_of_grown G4.out (Nat.le_refl _) BVV.out.size))
  have BUw := Lib.hid (BW.out.trans (BU.out.mono BW.out.size))
  have K0 := Lib.hid (heap_up H0.out BU.out)
  have K1 := Lib.hid (heap_up H1.out BU.out)
  clear NX NY TV KA G4 BVV BV H0 H1
  have l0 := run_loadNode K0.out
  go_cut [48] (fun s48 wx => s48 = .bool false ∧ Aside (RowKit.Below u4.heap.size u4 wx))
  case first =>
    have SA := Lib.hid (small_any n0 u4)
    cases s0 : smallB n0 with
    | false =>
      rw [s0] at SA
      go_wp2_with (go_at_call 10; refine SA.out.mono ?_; rintro e v1 ⟨rfl, hg⟩; have G1 := Lib.hid hg; clear hg)
      go_meet
      exact ⟨rfl, G1.out.b⟩
    | true =>
      rw [s0] at SA
      have GN0 := Lib.hid (gn_in I0.out BUw.out s0)
      have SB := Lib.hid (fun X => small_any n1 X)
      cases s1 : smallB n1 with
      | false =>
        rw [s1] at SB
        go_wp2_with (first
          | (go_at_call 10; (with_reducible refine (SB.out _).mono ?_); rintro e v2 ⟨rfl, hg⟩; have G2 := Lib.hid (G1.out.trans hg); clear hg)
          | (go_at_call 10; refine SA.out.mono ?_; rintro e v1 ⟨rfl, hg⟩; have G1 := Lib.hid hg; have l1 := run_loadNode (heap_up K1.out hg.b); clear hg))
        go_meet
        exact ⟨rfl, G2.out.b⟩
      | true =>
        rw [s1] at SB
        have GN1 := Lib.hid (gn_in I1.out BUw.out s1)
        have hp : n0.ps.length ≤ 900 := by
          unfold smallB at s0
          rw [Bool.and_eq_true, decide_eq_true_iff, decide_eq_true_iff] at s0
          omega
        have AA := Lib.hid (fun X (hX : RowKit.Below u4.heap.size u4 X) => agrees_any n0 n1 a3 a4 a5 X (GN0.out.up hX) (GN1.out.up hX) hp HK.out)
        have AB := Lib.hid (fun X (hX : RowKit.Below u4.heap.size u4 X) => agrees_any n0 y a3 k a5 X (GN0.out.up hX) (MY.out.up hX).2 hp (by have := HKS.out; unfold maxLen; omega))
        clear s0 s1 hp
        go_wp2_with (first
          | (go_at_call 11; (with_reducible refine (AB.out _ B3.out).mono ?_); rintro e v4 ⟨rfl, hb⟩; have B4 := Lib.hid (B3.out.trans (hb.mono B3.out.size)); clear hb)
          | (go_at_call 11; (with_reducible refine (AA.out _ G2.out.b).mono ?_); rintro e v3 ⟨rfl, hb⟩; have B3 := Lib.hid (G2.out.b.trans (hb.mono G2.out.b.size)); have l03 := run_loadNode (heap_up K0.out B3.out); have ly3 := (MY.out.up B3.out).ld; clear hb)
          | (go_at_call 10; (with_reducible refine (SB.out _).mono ?_); rintro e v2 ⟨rfl, hg⟩; have G2 := Lib.hid (G1.out.trans hg); have l02 := run_loadNode (heap_up K0.out G2.out.b); have l12 := run_loadNode (heap_up K1.out G2.out.b); clear hg)
          | (go_at_call 10; refine SA.out.mono ?_; rintro e v1 ⟨rfl, hg⟩; have G1 := Lib.hid hg; have l1 := run_loadNode (heap_up K1.out hg.b); clear hg))
        go_meet
        exact ⟨rfl, B4.out⟩
  case rest =>
    obtain ⟨rfl, BC⟩ := hcut
    have hPX : x.ps.length ≤ 900 := by have := P2.out; omega
    have hk9 : k.size ≤ maxLen := by have := HKS.out; unfold maxLen; omega
    have BT := Lib.hid (BUw.out.trans (BC.out.mono BUw.out.size))
    obtain ⟨V7, h7⟩ : ∃ V7, V7 = wc := ⟨_, rfl⟩
    rw [← h7] at BC BT ⊢
    clear h7
    have NX := Lib.hid (MX.out.up BC.out)
    have NY := Lib.hid (MY.out.up BC.out)
    clear MX MY l0 K0 K1
    go_upto_region 6 with (fail)
    have KS := Lib.hid (show ∀ X, RowKit.Below V7.heap.size V7 X → Sem.run Try.prog (loadNode (.pointer (some ⟨b, 0, none⟩))) X = .ok (.agg x.cs) X ∧ Sem.run Try.prog (loadNode (.pointer (some ⟨b + 1, 0, none⟩))) X = .ok (.agg y.cs) X from fun X hX => ⟨(NX.out.up hX).ld, (NY.out.up hX).ld⟩)
    have BD := Lib.hid (show RowKit.Below V7.heap.size V7 V7.drew from ⟨rfl, rfl, rfl, Nat.le_refl _, fun _ _ => rfl⟩)
    have AW := Lib.hid (fun X (hX : RowKit.Below V7.heap.size V7 X) => awake_any X)
    have AX := Lib.hid (fun X (hX : RowKit.Below V7.heap.size V7 X) => agrees_any x y a3 k a5 X (NX.out.up hX).2 (NY.out.up hX).2 hPX hk9)
    have LI := Lib.hid (fun X (hX : RowKit.Below V7.heap.size V7 X) => mklist_any a2 len2 cap2 X I2.out.1 (ints_up I2.out (BT.out.trans (hX.mono BT.out.size))))
    have YG := Lib.hid (fun X (hX : RowKit.Below V7.heap.size V7 X) => (NY.out.up hX).2)
    go_region_held3 (fun w' => Sem.run Try.prog (loadNode (.pointer (some ⟨b, 0, none⟩))) w' = .ok (.agg x.cs) w' ∧ Sem.run Try.prog (loadNode (.pointer (some ⟨b + 1, 0, none⟩))) w' = .ok (.agg y.cs) w')
      (exact KS.out _ (by first | exact Q6.out | exact Q5.out | exact Q4.out | exact Q3.out | exact Q2.out | exact Q1.out | exact BD.out))
      (first
        | (go_at_call 11; (with_reducible refine (E2.out).mono ?_); rintro e t6 ⟨rfl, hb⟩; have Q6 := Lib.hid (Q5.out.trans (hb.mono Q5.out.size)); clear hb)
        | (go_at_call 13; (with_reducible refine (LI.out _ Q4.out).mono ?_); rintro e t5 ⟨z2, rfl, lz, gz, hb⟩; have Q5 := Lib.hid (Q4.out.trans (hb.mono Q4.out.size)); have E2 := Lib.hid (agrees_any z2 y a3 a4 a5 t5 gz (YG.out _ Q5.out) (by have := lz.len; omega) HK.out); clear lz gz hb)
        | (go_at_call 11; (with_reducible refine (E1.out).mono ?_); rintro e t4 ⟨rfl, hb⟩; have Q4 := Lib.hid (Q3.out.trans (hb.mono Q3.out.size)); clear hb)
        | (go_at_call 13; (with_reducible refine (LI.out _ Q2.out).mono ?_); rintro e t3 ⟨z1, rfl, lz, gz, hb⟩; have Q3 := Lib.hid (Q2.out.trans (hb.mono Q2.out.size)); have E1 := Lib.hid (agrees_any z1 y a3 k a5 t3 gz (YG.out _ Q3.out) (by have := lz.len; omega) hk9); clear lz gz hb)
        | (go_at_call 11; (with_reducible refine (AX.out _ Q1.out).mono ?_); rintro e t2 ⟨rfl, hb⟩; have Q2 := Lib.hid (Q1.out.trans (hb.mono Q1.out.size)); clear hb)
        | (go_at_call 12; (with_reducible refine (AW.out _ BD.out).mono ?_); rintro e t1 ⟨rfl, hb⟩; have Q1 := Lib.hid (BD.out.trans (hb.mono BD.out.size)); clear hb))
    all_goals
      go_wp2
      go_ret
      exact ⟨rfl, BT.out.trans (Q6.out.mono BT.out.size)⟩

/-! ### THE ROW's STEP -/
set_option maxRecDepth 100000 in
theorem lifted (os : Os) (started : os.Started) (H : Type) (enc : TypeId × Value → H) :
    ReturnsInHanded {} Try.checked os 3 .any (Rows.tombExactSpec.pre6 enc Try.prog Try.f3 Rows.tombExactRow.domain false) (Rows.tombExactSpec.post enc Try.prog Try.f3 false true false false) := by
  refine returnsInHanded_of_change (C := Try.checked) own started (by kernel_rfl) Try.func3
    (ChangeSpec.witness6 (enc := enc) (C := Try.checked) false ⟨#[], #[.agg #[.int .i64 0, .int .i64 0, .int .i64 0, .int .u64 0, .slice none 0 0, .int .u64 0, .string ByteArray.empty, .int .u64 0, .slice none 0 0, .int .i64 0, .int .i64 0, .int .i64 0, .int .i64 0, .int .i64 0], .agg #[.int .i64 0, .int .i64 0, .int .i64 0, .int .u64 0, .slice none 0 0, .int .u64 0, .string ByteArray.empty, .int .u64 0, .slice none 0 0, .int .i64 0, .int .i64 0, .int .i64 0, .int .i64 0, .int .i64 0], .slice none 0 0, .int .i64 0, .string ByteArray.empty, .int .u64 0], []⟩ 8 (by kernel_rfl) (by kernel_rfl) (by kernel_rfl) (by kernel_rfl)) ?_
  intro W base args ds gs before hval0 hW hcnd _
  have hval : ∀ (j : Nat) t v, Try.f3.params[j]? = some t → args[j]? = some v → Value.okWide Try.prog W .any base t v := hval0
  have hW' := hW
  obtain ⟨p, q, hA0, hV, rfl, hfz, hnd⟩ := hW
  have hA : DataW.TrodAll enc Try.prog W 0 (fun _ => true) true Try.f3.params.toList args.toList ds p := hA0
  rw [Try.params3] at hA hval
  obtain ⟨v0, vs0, d0, ds0, p0, q0, hargs, rfl, rfl, h0, r0⟩ := trodAll_cons hA
  obtain ⟨v1, vs1, d1, ds1, p1, q1, rfl, rfl, rfl, h1, r1⟩ := trodAll_cons r0
  obtain ⟨v2, vs2, d2, ds2, p2, q2, rfl, rfl, rfl, h2, r2⟩ := trodAll_cons r1
  obtain ⟨v3, vs3, d3, ds3, p3, q3, rfl, rfl, rfl, h3, r3⟩ := trodAll_cons r2
  obtain ⟨v4, vs4, d4, ds4, p4, q4, rfl, rfl, rfl, h4, r4⟩ := trodAll_cons r3
  obtain ⟨v5, vs5, d5, ds5, p5, q5, rfl, rfl, rfl, h5, r5⟩ := trodAll_cons r4
  obtain ⟨rfl, rfl, rfl⟩ := trodAll_nil r5
  obtain rfl : args = #[v0, v1, v2, v3, v4, v5] := by cases args; simp_all
  obtain ⟨rfl, rfl⟩ := trodVars_none hV
  have k0 := h0
  have lt0 : ∀ x ∈ p0, x.block < W.heap.size := by obtain ⟨m, hm⟩ := k0; exact DataW.trod_lt m _ _ _ hm
  obtain ⟨n0, rfl, w0⟩ := open_node (hval 0 28 v0 rfl rfl) h0
  have k1 := h1
  have lt1 : ∀ x ∈ p1, x.block < W.heap.size := by obtain ⟨m, hm⟩ := k1; exact DataW.trod_lt m _ _ _ hm
  obtain ⟨n1, rfl, w1⟩ := open_node (hval 1 28 v1 rfl rfl) h1
  obtain ⟨a2, len2, cap2, rfl⟩ := okWide_slice Try.underlying29 (hval 2 29 v2 rfl rfl)
  have k2 := h2
  have lt2 : ∀ x ∈ p2, x.block < W.heap.size := by obtain ⟨m, hm⟩ := k2; exact DataW.trod_lt m _ _ _ hm
  have w2 := open_intsT h2
  obtain ⟨a3, rfl, rfl, rfl, w3⟩ := open_int Try.underlying3 (hval 3 3 v3 rfl rfl) h3
  obtain ⟨a4, rfl, rfl, rfl, w4⟩ := open_string Try.underlying9 (hval 4 9 v4 rfl rfl) h4
  obtain ⟨a5, rfl, rfl, rfl, w5⟩ := open_int Try.underlying23 (hval 5 23 v5 rfl rfl) h5
  clear hA0 hval0
  refine (walk n0 n1 a2 len2 cap2 a3 a4 a5 W w0 w1 w2 w3 w4 w5).mono fun e W' ⟨he, bel⟩ => ?_
  subst he
  exact ⟨_, rfl, _, _, _, [], _, [], hW', trodAll_mk1 (shut_bool Try.underlying4 _), (trodAll_cons_mk (Below.trod laidOut (by kernel_rfl) (of_decide_eq_true (by kernel_rfl)) k0 bel lt0) (trodAll_cons_mk (Below.trod laidOut (by kernel_rfl) (of_decide_eq_true (by kernel_rfl)) k1 bel lt1) (trodAll_cons_mk (Below.trod laidOut (by kernel_rfl) (of_decide_eq_true (by kernel_rfl)) k2 bel lt2) (trodAll_cons_mk (shut_int Try.underlying3 w3) (trodAll_cons_mk (shut_string Try.underlying9 w4) (trodAll_cons_mk (shut_int Try.underlying23 w5) trodAll_mk0)))))), rfl, bel.frame _, fun h => by cases h⟩

theorem over : Rows.tombExactRow.holds Try.pinned (OpenSpec.ofChange Rows.tombExactSpec) :=
  OpenClaim.holds_of_wide 3 Try.f3 rfl rfl rfl rfl rfl rfl rfl ⟨rfl, rfl, rfl, rfl, rfl⟩ rfl rfl rfl rfl rfl (by kernel_rfl) Try.func3 (by kernel_rfl)
    (of_decide_eq_true (by kernel_rfl)) (by unfold Func.isWrapper; first | (rw [if_pos (by decide +kernel)]; kernel_rfl) | (rw [if_neg (by decide +kernel)]; exact ⟨rfl, rfl⟩))
    (fun os started H enc _ => lifted os started H enc)

/-- ████ THE STATEMENT ████ -/
theorem proved : Rows.TombExactSaid := over
#print axioms proved
end Go.Proofs.Ytpopoihggomfiaa.tombExact
