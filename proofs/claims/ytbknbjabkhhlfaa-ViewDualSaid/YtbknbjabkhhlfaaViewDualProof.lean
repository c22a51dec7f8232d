/- For every input the Go function ViewDual of package ctrielaw09 returns true, and each argument reads afterwards as it read before. Conditions: none but those that every row of the form bears by itself. The frame follows the guide's proof-skeleton; the walk is ours. -/
import Derived.Test.YtbknbjabkhhlfaaRows
import Derived.WalkKit
import Derived.ProofKit
import Derived.OpenShut
import Derived.ShutString
import Derived.ChangeOld
import Derived.Below
import Derived.Test.YtbknbjabkhhlfaaFrame
import Derived.Test.YtbknbjabkhhlfaaVwL
import Derived.Lib.Hide
import Derived.Deep.RegionHeld3
import Derived.Deep.DeepCutAuto
namespace Go.Proofs.Ytbknbjabkhhlfaa.viewDual
open Go.Lib
open Go.ChangeShapes Go.WideShapes Go.ChangeAt Go.RowKit
open Go.ChangeMaps (open_string shut_string)
set_option linter.unusedVariables false

theorem own : ownKnob Try.prog.godebug = none := by kernel_rfl
theorem laidOut : laidOutB Try.prog = true := by kernel_rfl
open Go.Sort
set_option maxRecDepth 100000
attribute [local go_sem ↓] exec_load28 exec_store44

/-! ### STEP 1: THE WALK -/
set_option maxRecDepth 100000 in
set_option maxHeartbeats 16000000 in
theorem walk (a0 : Int) (a1 : Int) (a2 : Option Addr) (len2 cap2 : Nat) (a3 : Int) (a4 : Int) (w : World) (w0 : (Lit.int .u64 a0).wf = true) (w1 : (Lit.int .u8 a1).wf = true) (w2 : IsInts w a2 len2) (w3 : (Lit.int .u64 a3).wf = true) (w4 : (Lit.int .u64 a4).wf = true) :
    Calls Try.prog 3 #[.int .u64 a0, .int .u8 a1, .slice a2 len2 cap2, .int .u64 a3, .int .u64 a4] w fun e w' => e = .returned (.bool true) ∧ Below w.heap.size w w' := by
  have mixed := mixedOrders
  have HH := Lib.hid (u64_of_wf w0)
  have AW := Lib.hid (fun V => vawake_any V)
  have B1 := Lib.hid (u8_of_wf w1)
  have TN := Lib.hid (new_c a2 len2 cap2 w w2.1 w2.2)
  have RNW := Lib.hid (fun V => rnew_any V)
  clear w0 w1 w2 w3 w4
  go_enter Try.func3, Try.ntmps3
  go_upto_region 3 with (first
    | (go_at_call 5; refine KY.out.mono ?_; rintro e w2 ⟨key, hks, rfl, hT2, hg⟩; have KS := Lib.hid hks; have hk9 : ¬ 9223372036854775807 < key.size + 1 := (by omega); have B2 := Lib.hid (BT.out.trans (below_of_grown hg (Nat.le_refl _) BT.out.size)); clear hks hT2 hg)
    | (go_at_call 4; refine TN.out.mono ?_; rintro e w1 ⟨rfl, hT, hb⟩; have BT := Lib.hid hb; have KY := Lib.hid (key_any w.heap.size w1 hT); clear hT hb))
  go_upto_region 4 with (fail)
  obtain ⟨O, hO⟩ : ∃ O, O = key ++ (⟨#[120]⟩ : ByteArray) := ⟨_, rfl⟩
  rw [← hO]
  have HO := Lib.hid (key_more (O := O) (key := key) (x := [120]) (by rw [hO]; simp) (by simp))
  have HOS := Lib.hid (show O.size ≤ 64 ∧ key.size ≤ 64 by have h1 := HO.out.2.2; have h2 := KS.out; simp at h1; omega)
  clear hO hk9
  go_upto_if 35 with (fail)
  go_cut [14] (fun s14 wx => ∃ k : Int, s14 = .int .u64 k ∧ U64 k ∧ wx = w2)
  case first =>
    by_cases hb : a1 < 128
    · have qb : decide (a1 < 128) = true := decide_eq_true hb
      have b30 : 0 ≤ a1 := B1.out.1
      have b31 : a1 ≤ 255 := B1.out.2
      go_wp2_with fail
      go_meet
      exact ⟨_, rfl, u64_flip a0 a1 HH.out, rfl⟩
    · have qb : decide (a1 < 128) = false := decide_eq_false hb
      go_wp2_with fail
      go_meet
      exact ⟨a0, rfl, HH.out, rfl⟩
  case rest =>
    obtain ⟨k, rfl, hku, hw⟩ := hcut
    have hw := hw.symm
    subst hw
    obtain ⟨c, hc⟩ := com_ex a0 k
    have HC := Lib.hid hc
    have HKU := Lib.hid hku
    clear hc hku TN KY BT
    go_upto_region 9 with (first
      | (go_at_call 6; refine (RNW.out _).mono ?_; rintro e w3 ⟨g, q, rfl, hob, hb⟩; have O3 := Lib.hid hob; have B3 := Lib.hid (below_of B2.out hb); have AL := Lib.hid (show Calls Try.prog 7 #[.pointer (some ⟨q, 0, none⟩), .agg #[.int .i64 4, .int .i64 0, .int .i64 0, .int .u64 0, .slice none 0 0, .int .u64 a0, .string key, .int .u64 a3, .slice none 0 0, .int .i64 0, .int .i64 0, .int .i64 0, .int .i64 0, .int .i64 0], .int .i64 0] w3 (fun e w' => ∃ t, e = .returned (.int .i64 3) ∧ Alloced w3.heap.size (newS g) t (singN a0 key a3) 0 ∧ Ob w' w2.heap.size 40 q t 0 ∧ RowKit.Below w2.heap.size w3 w') from ralloc_k hob (singN a0 key a3) 0 ⟨RdR.nil, Rd.nil, u0, Nat.zero_le _, Nat.zero_le _⟩ (fun _ => rfl) (fun _ => rfl) (fun hh => absurd hh (Nat.lt_irrefl 0)) (fun hh => absurd hh (Nat.lt_irrefl 0)) (m := 2) rfl (by omega) (by show 0 < 1000; omega)); have B3' := Lib.hid hb; clear hob hb)
      | (go_at_call 7; refine AL.out.mono ?_; rintro e w4 ⟨t, rfl, hA, hob, hb⟩; have A4 := Lib.hid hA; have O4 := Lib.hid hob; have B4 := Lib.hid (below_of B2.out (B3'.out.trans hb)); clear hA hb hob))
    have c2 := block_cell O4.out.blk (i := 2) (v := .int .i64 t.gen) rfl
    have f2 := block_frozen O4.out.blk 2
    go_upto_region 10 with (fail)
    obtain ⟨V, hV⟩ : ∃ V, V = w4.setCell ⟨q, 2, none⟩ (.int .i64 5) := ⟨_, rfl⟩
    have OV := Lib.hid (show Ob V w2.heap.size 40 q { t with gen := 5 } 0 by rw [hV]; exact O4.out.setGen (by decide) (by decide) 5)
    have BV := Lib.hid (show RowKit.Below w.heap.size w V by rw [hV]; exact B4.out.setCell (Nat.le_trans B2.out.size O4.out.hq) _)
    rw [← hV]
    clear hV c2 f2 AL
    have GT := Lib.hid (show GS w2.heap.size { t with gen := 3 } from (gs_new w2.heap.size g).alloc (s := { newS g with gen := 3 }) (t := { t with gen := 3 }) (n := singN a0 key a3) (v := 0) ⟨A4.out.ns, A4.out.cs, rfl⟩ B3'.out.size (vn_sing _ a0 key a3 HOS.out.2) ⟨Int.le_refl 0, by show (0 : Int) ≤ 2; omega⟩)
    have OF := Lib.hid (of_f { t with gen := 5 } V.heap.size V OV.out.srd (Nat.le_refl _) GT.out.proper5)
    unfold Sd.vals at OF
    have q0 := block_cell OV.out.blk (i := 0) (v := .slice t.nA t.ns.length t.nc) rfl
    have q1 := block_cell OV.out.blk (i := 1) (v := .slice t.cA t.cs.length t.cc) rfl
    have q2 := block_cell OV.out.blk (i := 2) (v := .int .i64 5) rfl
    go_upto_region 13 with (go_at_call 8; refine OF.out.mono ?_; rintro e w5 ⟨qa, sa, rfl, hsl, hcs, hgn, hob, hfr, hb⟩; have K5 := Lib.hid (⟨hsl, hcs, hgn⟩ : _ ∧ _ ∧ _); have O5 := Lib.hid hob; have B5 := Lib.hid (below_of BV.out hb); clear hsl hcs hgn hob hfr hb)
    clear q0 q1 q2
    have SA := Lib.hid (show sa.ns.length = 3 ∧ sa.cs = [] ∧ sa.gen = 5 ∧ sameN (singN a0 key a3) (nodeV sa 3) from by
      obtain ⟨y, hy, hs, _⟩ := A4.out.ns
      have hl : sa.ns.length = 3 := by rw [← K5.out.1.1]; show t.ns.length = 3; rw [hy]; rfl
      refine ⟨hl, by rw [K5.out.2.1]; exact A4.out.cs, K5.out.2.2, ?_⟩
      have e1 : nodeV { t with gen := 5 } 3 = y := by
        show (if _ then _ else _) = _
        rw [show ({ t with gen := 5 } : Sd).ns = [markN, markN, y] from hy]
        rfl
      have hs' : sameN (singN a0 key a3) y := hs
      exact hs'.trans (e1 ▸ nodeV_same K5.out.1 3))
    have FF := Lib.hid (fun (lo' : Nat) (u Z : Sd) R hZ hZc hZg => vd_facts (lo' := lo') (u := u) (Z := Z) (v := a3) (w := a4) (key := key) (other := O) GT.out K5.out.1 K5.out.2.1 (show t.cs = [] from A4.out.cs) SA.out.1 SA.out.2.2.1 SA.out.2.2.2 HC.out HO.out.1 HOS.out.2 HOS.out.1 R hZ hZc hZg)
    have XA := Lib.hid (same_f SA.out.2.2.2)
    have BU := Lib.hid (show Calls Try.prog 9 #[.iface 41 (.pointer (some ⟨qa, 0, none⟩)), .int .i64 3, .int .u64 k, .string O, .int .u64 a4, .int .i64 0, .int .i64 1] w5 (BuildP V.heap.size qa sa 0 (dualL (duOf (nodeV sa 3) 3 k O a4 1 c) ((sa.ns.length : Int) + 1) c) w5) from by
      have := build_ok V.heap.size qa sa 0 3 k O a4 1 0 c w5 O5.out (by omega) (by omega) HKU.out (by rw [SA.out.1]; omega) (by rw [SA.out.2.1]; show 0 < 900; omega) (fun _ => by rw [XA.out.2.1]; exact ⟨HH.out, HC.out⟩) ⟨by rw [XA.out.1]; rfl, by have := HOS.out.1; show (O.size : Int) ≤ 64; omega, by rw [XA.out.2.2.1]; exact HO.out.1, by omega⟩
      simpa using this)
    unfold BuildP at BU
    obtain ⟨l, hl⟩ : ∃ l, l = dualL (duOf (nodeV sa 3) 3 k O a4 1 c) ((sa.ns.length : Int) + 1) c := ⟨_, rfl⟩
    have HL := Lib.hid (show l.length ≤ 24 from by rw [hl]; have h1 := (dual_pos (duOf (nodeV sa 3) 3 k O a4 1 c) ((sa.ns.length : Int) + 1) c).2; have h2 := HC.out.1; omega)
    rw [← hl] at BU FF
    clear hl GT A4 O4 B4 OF OV
    go_upto_region 16 with (go_at_call 9; refine BU.out.mono ?_; rintro e w6 ⟨u, rfl, hR⟩; have R6 := Lib.hid hR; have B6 := Lib.hid (B5.out.trans (hR.bel B5.out.size (fun k hk => Nat.le_trans BV.out.size (O5.out.mu_lt hk).1))); clear hR)
    have UL := Lib.hid (show u.ns.length = sa.ns.length + l.length ∧ u.ns.length < 900 ∧ u.cs.length < 900 from by
      have h1 := R6.out.len
      have h2 := R6.out.clen
      have h3 := SA.out.1
      have h4 : sa.cs.length = 0 := by rw [SA.out.2.1]; rfl
      have h5 := HL.out
      omega)
    have AI := Lib.hid (show Calls Try.prog 11 #[.pointer (some ⟨qa, 0, none⟩), .agg #[.int .i64 2, .int .i64 2, .int .i64 0, .int .u64 0, .slice none 0 0, .int .u64 0, .string ⟨#[]⟩, .int .u64 0, .slice none 0 0, .int .i64 0, .int .i64 0, .int .i64 0, .int .i64 0, .int .i64 0], .int .i64 ((sa.ns.length : Int) + (l.length : Int))] w6 (AllocP 69 V.heap.size qa u 0 (innN 2) ((sa.ns.length : Int) + (l.length : Int)) w6) from alloc_n R6.out.ob (gn_fixed u0 rfl rfl rfl rfl) _ (by have := UL.out.2.1; omega) (by have := UL.out.2.2; omega))
    go_upto_region 17 with (first
      | (go_at_call 10; refine NC.out.mono ?_; rintro e w8 ⟨g8, cap8, rfl, hob, hb⟩; have O8 := Lib.hid hob; have B8 := Lib.hid (B7.out.trans (hb.mono BV.out.size)); clear hb hob)
      | (go_at_call 11; refine AI.out.mono ?_; rintro e w7 ⟨u2, rfl, hA, hob, hf, hm⟩; have A7 := Lib.hid hA; have O7 := Lib.hid hob; have B7 := Lib.hid (B6.out.trans (hf.below B6.out.size (fun k hk => Nat.le_trans BV.out.size (R6.out.ob.mu_lt hk).1))); have UC := Lib.hid (show u2.cs.length < 1000 from (by rw [hA.cs]; have := UL.out.2.2; split <;> simp <;> omega)); have NC := Lib.hid (newc_a hob ((u.ns.length : Int) + 1) UC.out); clear hA hob hf hm))
    obtain ⟨U, hU⟩ : ∃ U, U = u2.addC g8 cap8 ((u.ns.length : Int) + 1) := ⟨_, rfl⟩
    have UE := Lib.hid (show U.ns = u2.ns ∧ U.cs = u2.cs ++ [(sa.ns.length : Int) + 1 + (l.length : Int)] ∧ U.gen = u2.gen from by
      rw [hU]
      refine ⟨rfl, ?_, rfl⟩
      show u2.cs ++ [(u.ns.length : Int) + 1] = _
      rw [UL.out.1]
      congr 2
      push_cast
      omega)
    rw [← hU] at O8
    have FZ := Lib.hid (fun (Z : Sd) (hs : SameL U.ns Z.ns) (hc : Z.cs = U.cs) (hg : Z.gen = U.gen) => FF.out w5.heap.size u2 Z (R6.out.rans.snoc A7.out R6.out.fr.size (sameN.refl _)) (UE.out.1 ▸ hs) (hc.trans UE.out.2.1) (hg.trans UE.out.2.2))
    obtain ⟨rc, hrc⟩ : ∃ rc, rc = (u2.cs.length : Int) + 1 := ⟨_, rfl⟩
    rw [← hrc] at FZ ⊢
    obtain ⟨Y, hY⟩ : ∃ Y, Y = w8.alloc (.cells #[.int .i64 rc, .bool false] 49) := ⟨_, rfl⟩
    have BY := Lib.hid (show RowKit.Below w.heap.size w Y by rw [hY]; exact B8.out.alloc B8.out.size _)
    have OY := Lib.hid (show Ob Y V.heap.size 69 qa U 0 by rw [hY]; exact O8.out.up ((RowKit.Below.refl _ w8).alloc (Nat.le_refl _) _))
    have hty : Y.heap[w8.heap.size]? = some (.cells #[.int .i64 rc, .bool false] 49 (0, 0)) := by rw [hY]; exact heap_alloc_new w8 _
    have TR := Lib.hid (fun (X : World) (hX : RowKit.Below Y.heap.size Y X) => (by
      have hb := (hX.block w8.heap.size (Array.getElem?_eq_some_iff.1 hty).1).trans hty
      exact ⟨block_cell hb rfl, block_cell hb rfl⟩ : X.cell? ⟨w8.heap.size, 0, none⟩ = some (.int .i64 rc) ∧ X.cell? ⟨w8.heap.size, 1, none⟩ = some (.bool false)))
    have CS := Lib.hid (fun (X : World) (hX : RowKit.Below Y.heap.size Y X) => state_own V.heap.size qa U 0 X (OY.out.up hX))
    rw [← hY]
    clear hY hty hU hrc O8 B8 B7 O7 A7 UE UL AI NC UC R6 B6 BU FF XA SA K5 O5 B5 HL
    have BD := Lib.hid (show RowKit.Below Y.heap.size Y Y.drew from ⟨rfl, rfl, rfl, Nat.le_refl _, fun _ _ => rfl⟩)
    have e3 := TR.out Y (RowKit.Below.refl _ _)
    have CS1 := Lib.hid (CS.out _ BD.out)
    go_region_held3 (fun w' => w'.cell? ⟨w8.heap.size, 0, none⟩ = some (.int .i64 rc) ∧ w'.cell? ⟨w8.heap.size, 1, none⟩ = some (.bool false))
      (first | exact TR.out _ B10.out | exact TR.out _ B9.out | exact TR.out _ BD.out)
      (first
        | (go_at_call 13; (with_reducible refine CS1.out.mono ?_); rintro e w9 ⟨Z, rfl, hs, hc, hg, hcp, hb⟩; have B9 := Lib.hid (below_of BD.out hb); have CC := Lib.hid (cont_callV hcp.srd (FZ.out Z hs hc hg)); clear hs hc hg hcp hb)
        | (go_at_call 12; (with_reducible refine CC.out.mono ?_); rintro e w10 ⟨A10, c10, rfl, hr10, hb⟩; have B10 := Lib.hid (below_of B9.out hb); have R10 := Lib.hid hr10; clear hr10 hb))
    go_upto_region 18 with (fail)
    have B10' := Lib.hid (RowKit.Below.trans BY.out (B10.out.mono BY.out.size))
    have e4 := TR.out w10 B10.out
    have BE := Lib.hid (show RowKit.Below w10.heap.size w10 w10.drew from ⟨rfl, rfl, rfl, Nat.le_refl _, fun _ _ => rfl⟩)
    have CS2 := Lib.hid (CS.out _ (below_of B10.out BE.out))
    go_region_held3 (fun w' => w'.cell? ⟨w8.heap.size, 0, none⟩ = some (.int .i64 rc) ∧ w'.cell? ⟨w8.heap.size, 1, none⟩ = some (.bool false))
      (first | exact TR.out _ (below_of B10.out B12.out) | exact TR.out _ (below_of B10.out B11.out) | exact TR.out _ (below_of B10.out BE.out))
      (first
        | (go_at_call 13; (with_reducible refine CS2.out.mono ?_); rintro e w11 ⟨Z2, rfl, hs, hc, hg, hcp, hb⟩; have B11 := Lib.hid (below_of BE.out hb); have CI := Lib.hid (inn_callV hcp.srd (FZ.out Z2 hs hc hg)); clear hs hc hg hcp hb)
        | (go_at_call 14; (with_reducible refine CI.out.mono ?_); rintro e w12 ⟨A12, c12, rfl, hb⟩; have B12 := Lib.hid (below_of B11.out hb); clear hb))
    go_upto_region 20 with (fail)
    obtain ⟨X, hX⟩ : ∃ X, X = w12.alloc (.cells #[.string key, .int .u64 a3, .string O, .int .u64 a4] 56) := ⟨_, rfl⟩
    have BX := Lib.hid (show RowKit.Below w.heap.size w X by rw [hX]; exact (B10'.out.trans (B12.out.mono B10'.out.size)).alloc (Nat.le_trans B10'.out.size B12.out.size) _)
    have X12 := Lib.hid (show RowKit.Below w12.heap.size w12 X by rw [hX]; exact (RowKit.Below.refl _ w12).alloc (Nat.le_refl _) _)
    have RP := Lib.hid (show Rd w12 w12.heap.size A10 (wantV a0 k key O a3 a4 c) from R10.out.up B12.out)
    have WW := Lib.hid (show w.heap.size ≤ w12.heap.size from Nat.le_trans B10'.out.size B12.out.size)
    have hxb : X.heap[w12.heap.size]? = some (.cells #[.string key, .int .u64 a3, .string O, .int .u64 a4] 56 (0, 0)) := by rw [hX]; exact heap_alloc_new w12 _
    have HXB := Lib.hid hxb
    have LS := Lib.hid (rless_any k a0 O key c HKU.out HH.out (com_symm HC.out) X)
    have RCM := Lib.hid (fun V => rcommon_any a0 k c HH.out HKU.out HC.out V)
    have WV := Lib.hid (show wantV a0 k key O a3 a4 c = if lessV k a0 O key c = true then [(O, a4), (key, a3)] else [(key, a3), (O, a4)] from rfl)
    have wc1 : IntKind.i64.wrap (1 + (c : Int)) = 1 + (c : Int) := by have := HC.out.1; rw [IntKind.wrap_i64]; omega
    have wc2 : (((c : Int) + 1) == (1 + (c : Int))) = true := by rw [beq_iff_eq]; omega
    rw [← hX]
    clear hX hxb e3 e4 CS CS1 CS2 FZ TR OY BY B10 B12 R10
    generalize wantV a0 k key O a3 a4 c = want at RP WV ⊢
    cases hls : lessV k a0 O key c with
    | false =>
      rw [hls] at LS
      rw [hls, if_neg (by decide)] at WV
      clear hls
      obtain rfl := WV.out
      go_upto_region 22 with (go_at_call 15; refine LS.out.mono ?_; rintro e w13 ⟨rfl, rfl⟩)
      have HB3 := Lib.hid (show X.heap[w12.heap.size]? = some (.cells (flat [(key, a3), (O, a4)]).toArray 56 (0, 0)) from HXB.out)
      have RP3 := Lib.hid (RP.out.up X12.out)
      have BX3 := Lib.hid BX.out
      have RL := Lib.hid (rd_block (xs := [(key, a3), (O, a4)]) HB3.out)
      go_wp2_with (first
        | (go_at_call 18; (with_reducible refine EQ.out.mono ?_); rintro e w16 ⟨rfl, q16, hq16⟩; have B16 := Lib.hid (show RowKit.Below w14.heap.size w14 w16 by rw [hq16]; exact ((Gr.refl w14).drewN q16).b); clear hq16)
        | (go_at_call 17; (with_reducible refine (RCM.out _).mono ?_); rintro e w15 ⟨rfl, rfl⟩)
        | (go_at_call 16; (with_reducible refine (AW.out _).mono ?_); rintro e w14 ⟨rfl, hb⟩; have B14 := Lib.hid hb; have EQ := Lib.hid (show Calls Try.prog 18 #[.slice A10 2 c10, .slice (some ⟨w12.heap.size, 0, none⟩) 2 2] w14 (fun e w' => e = .returned (.bool true) ∧ ∃ q, w' = w14.drewN q) from (requalP_any A10 c10 [(key, a3), (O, a4)] (some ⟨w12.heap.size, 0, none⟩) 2 [(key, a3), (O, a4)] w14.heap.size w14 (RP3.out.up hb) (RL.out.up hb) (by show 2 ≤ 1000000; omega) (by show 2 ≤ 1000000; omega)).mono fun e w' ⟨he, hq⟩ => ⟨by rw [he, decide_eq_true rfl], hq⟩); clear hb))
      go_ret
      exact ⟨rfl, BX3.out.trans ((B14.out.mono BX3.out.size).trans (B16.out.mono (Nat.le_trans BX3.out.size B14.out.size)))⟩
    | true =>
      rw [hls] at LS
      rw [hls, if_pos rfl] at WV
      clear hls
      obtain rfl := WV.out
      go_upto_region 21 with (go_at_call 15; refine LS.out.mono ?_; rintro e w13 ⟨rfl, rfl⟩)
      have x0 := cell_of_row X w12.heap.size 0 _ 56 (0, 0) HXB.out
      have x1 := cell_of_row X w12.heap.size 1 _ 56 (0, 0) HXB.out
      have x2 := cell_of_row X w12.heap.size 2 _ 56 (0, 0) HXB.out
      have x3 := cell_of_row X w12.heap.size 3 _ 56 (0, 0) HXB.out
      have y0 := block_frozen HXB.out 0
      have y1 := block_frozen HXB.out 1
      have y2 := block_frozen HXB.out 2
      have y3 := block_frozen HXB.out 3
      simp only [List.getElem?_toArray, List.getElem?_cons_zero, List.getElem?_cons_succ] at x0 x1 x2 x3
      go_region
      have DR := Lib.hid (show ∀ W : World, W.drew.heap = W.heap from fun W => rfl)
      obtain ⟨X3, hX3⟩ : ∃ X3, X3 = ((((X.setCell ⟨w12.heap.size, 0, none⟩ (.string O)).setCell ⟨w12.heap.size, 1, none⟩ (.int .u64 a4)).setCell ⟨w12.heap.size, 2, none⟩ (.string key)).setCell ⟨w12.heap.size, 3, none⟩ (.int .u64 a3)).drew := ⟨_, rfl⟩
      have HB3 := Lib.hid (show X3.heap[w12.heap.size]? = some (.cells (flat [(O, a4), (key, a3)]).toArray 56 (0, 0)) from by
        rw [hX3]
        exact set_block (t := 56) (set_block (t := 56) (set_block (t := 56) (set_block (t := 56) HXB.out 0 (.string O)) 1 (.int .u64 a4)) 2 (.string key)) 3 (.int .u64 a3))
      have X3B := Lib.hid (show RowKit.Below w12.heap.size w12 X3 from by
        rw [hX3]
        have h := (((X12.out.setCell (p := ⟨w12.heap.size, 0, none⟩) (Nat.le_refl _) (.string O)).setCell (p := ⟨w12.heap.size, 1, none⟩) (Nat.le_refl _) (.int .u64 a4)).setCell (p := ⟨w12.heap.size, 2, none⟩) (Nat.le_refl _) (.string key)).setCell (p := ⟨w12.heap.size, 3, none⟩) (Nat.le_refl _) (.int .u64 a3)
        exact ⟨h.os, h.tape, h.output, h.size, h.block⟩)
      have RP3 := Lib.hid (RP.out.up X3B.out)
      have BX3 := Lib.hid (show RowKit.Below w.heap.size w X3 from by
        rw [hX3]
        have h := (((BX.out.setCell (p := ⟨w12.heap.size, 0, none⟩) WW.out (.string O)).setCell (p := ⟨w12.heap.size, 1, none⟩) WW.out (.int .u64 a4)).setCell (p := ⟨w12.heap.size, 2, none⟩) WW.out (.string key)).setCell (p := ⟨w12.heap.size, 3, none⟩) WW.out (.int .u64 a3)
        exact ⟨h.os, h.tape, h.output, h.size, h.block⟩)
      rw [← hX3]
      clear hX3 x0 x1 x2 x3 y0 y1 y2 y3
      have RL := Lib.hid (rd_block (xs := [(O, a4), (key, a3)]) HB3.out)
      go_wp2_with (first
        | (go_at_call 18; (with_reducible refine EQ.out.mono ?_); rintro e w16 ⟨rfl, q16, hq16⟩; have B16 := Lib.hid (show RowKit.Below w14.heap.size w14 w16 by rw [hq16]; exact ((Gr.refl w14).drewN q16).b); clear hq16)
        | (go_at_call 17; (with_reducible refine (RCM.out _).mono ?_); rintro e w15 ⟨rfl, rfl⟩)
        | (go_at_call 16; (with_reducible refine (AW.out _).mono ?_); rintro e w14 ⟨rfl, hb⟩; have B14 := Lib.hid hb; have EQ := Lib.hid (show Calls Try.prog 18 #[.slice A10 2 c10, .slice (some ⟨w12.heap.size, 0, none⟩) 2 2] w14 (fun e w' => e = .returned (.bool true) ∧ ∃ q, w' = w14.drewN q) from (requalP_any A10 c10 [(O, a4), (key, a3)] (some ⟨w12.heap.size, 0, none⟩) 2 [(O, a4), (key, a3)] w14.heap.size w14 (RP3.out.up hb) (RL.out.up hb) (by show 2 ≤ 1000000; omega) (by show 2 ≤ 1000000; omega)).mono fun e w' ⟨he, hq⟩ => ⟨by rw [he, decide_eq_true rfl], hq⟩); clear hb))
      go_ret
      exact ⟨rfl, BX3.out.trans ((B14.out.mono BX3.out.size).trans (B16.out.mono (Nat.le_trans BX3.out.size B14.out.size)))⟩
/-! ### THE ROW's STEP -/
set_option maxRecDepth 100000 in
theorem lifted (os : Os) (started : os.Started) (H : Type) (enc : TypeId × Value → H) :
    ReturnsInHanded {} Try.checked os 3 .any (Rows.viewDualSpec.pre6 enc Try.prog Try.f3 Rows.viewDualRow.domain false) (Rows.viewDualSpec.post enc Try.prog Try.f3 false true false false) := by
  refine returnsInHanded_of_change (C := Try.checked) own started (by kernel_rfl) Try.func3
    (ChangeSpec.witness6 (enc := enc) (C := Try.checked) false ⟨#[], #[.int .u64 0, .int .u8 0, .slice none 0 0, .int .u64 0, .int .u64 0], []⟩ 8 (by kernel_rfl) (by kernel_rfl) (by kernel_rfl) (by kernel_rfl)) ?_
  intro W base args ds gs before hval0 hW hcnd _
  have hval : ∀ (j : Nat) t v, Try.f3.params[j]? = some t → args[j]? = some v → Value.okWide Try.prog W .any base t v := hval0
  have hW' := hW
  obtain ⟨p, q, hA0, hV, rfl, hfz, hnd⟩ := hW
  have hA : DataW.TrodAll enc Try.prog W 0 (fun _ => true) true Try.f3.params.toList args.toList ds p := hA0
  rw [Try.params3] at hA hval
  obtain ⟨v0, vs0, d0, ds0, p0, q0, hargs, rfl, rfl, h0, r0⟩ := trodAll_cons hA
  obtain ⟨v1, vs1, d1, ds1, p1, q1, rfl, rfl, rfl, h1, r1⟩ := trodAll_cons r0
  obtain ⟨v2, vs2, d2, ds2, p2, q2, rfl, rfl, rfl, h2, r2⟩ := trodAll_cons r1
  obtain ⟨v3, vs3, d3, ds3, p3, q3, rfl, rfl, rfl, h3, r3⟩ := trodAll_cons r2
  obtain ⟨v4, vs4, d4, ds4, p4, q4, rfl, rfl, rfl, h4, r4⟩ := trodAll_cons r3
  obtain ⟨rfl, rfl, rfl⟩ := trodAll_nil r4
  obtain rfl : args = #[v0, v1, v2, v3, v4] := by cases args; simp_all
  obtain ⟨rfl, rfl⟩ := trodVars_none hV
  obtain ⟨a0, rfl, rfl, rfl, w0⟩ := open_int Try.underlying22 (hval 0 22 v0 rfl rfl) h0
  obtain ⟨a1, rfl, rfl, rfl, w1⟩ := open_int Try.underlying5 (hval 1 5 v1 rfl rfl) h1
  obtain ⟨a2, len2, cap2, rfl⟩ := okWide_slice Try.underlying23 (hval 2 23 v2 rfl rfl)
  have k2 := h2
  have lt2 : ∀ x ∈ p2, x.block < W.heap.size := by obtain ⟨m, hm⟩ := k2; exact DataW.trod_lt m _ _ _ hm
  have w2 := open_intsT h2
  obtain ⟨a3, rfl, rfl, rfl, w3⟩ := open_int Try.underlying22 (hval 3 22 v3 rfl rfl) h3
  obtain ⟨a4, rfl, rfl, rfl, w4⟩ := open_int Try.underlying22 (hval 4 22 v4 rfl rfl) h4
  clear hA0 hval0
  refine (walk a0 a1 a2 len2 cap2 a3 a4 W w0 w1 w2 w3 w4).mono fun e W' ⟨he, bel⟩ => ?_
  subst he
  exact ⟨_, rfl, _, _, _, [], _, [], hW', trodAll_mk1 (shut_bool Try.underlying4 _), (trodAll_cons_mk (shut_int Try.underlying22 w0) (trodAll_cons_mk (shut_int Try.underlying5 w1) (trodAll_cons_mk (Below.trod laidOut (by kernel_rfl) (of_decide_eq_true (by kernel_rfl)) k2 bel lt2) (trodAll_cons_mk (shut_int Try.underlying22 w3) (trodAll_cons_mk (shut_int Try.underlying22 w4) trodAll_mk0))))), rfl, bel.frame _, fun h => by cases h⟩

theorem over : Rows.viewDualRow.holds Try.pinned (OpenSpec.ofChange Rows.viewDualSpec) :=
  OpenClaim.holds_of_wide 3 Try.f3 rfl rfl rfl rfl rfl rfl rfl ⟨rfl, rfl, rfl, rfl, rfl⟩ rfl rfl rfl rfl rfl (by kernel_rfl) Try.func3 (by kernel_rfl)
    (of_decide_eq_true (by kernel_rfl)) (by unfold Func.isWrapper; first | (rw [if_pos (by decide +kernel)]; kernel_rfl) | (rw [if_neg (by decide +kernel)]; exact ⟨rfl, rfl⟩))
    (fun os started H enc _ => lifted os started H enc)

/-- ████ THE STATEMENT ████ -/
theorem proved : Rows.ViewDualSaid := over
#print axioms proved
end Go.Proofs.Ytbknbjabkhhlfaa.viewDual
