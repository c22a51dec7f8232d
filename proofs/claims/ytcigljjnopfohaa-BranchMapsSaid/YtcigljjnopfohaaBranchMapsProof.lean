/- For every input the Go function BranchMaps of package ctrielaw06 returns true, and each argument reads afterwards as it read before. Conditions: none but those that every row of the form bears by itself. The frame follows the guide's proof-skeleton; the walk is ours. -/
import Derived.Test.YtcigljjnopfohaaRows
import Derived.WalkKit
import Derived.ProofKit
import Derived.OpenShut
import Derived.ShutString
import Derived.ChangeOld
import Derived.Below
import Derived.Test.YtcigljjnopfohaaFrame
import Derived.Test.YtcigljjnopfohaaBrS
import Derived.Lib.Hide
namespace Go.Proofs.Ytcigljjnopfohaa.branchMaps
open Go.Lib
open Go.ChangeShapes Go.WideShapes Go.ChangeAt Go.RowKit
open Go.ChangeMaps (open_string shut_string)
set_option linter.unusedVariables false

theorem own : ownKnob Try.prog.godebug = none := by kernel_rfl
theorem laidOut : laidOutB Try.prog = true := by kernel_rfl
open Go.Sort
set_option maxRecDepth 100000
attribute [local go_sem ↓] exec_load28 exec_storeN exec_build3
attribute [local go_sem] run_storeNode_new run_build3

/-! ### STEP 1: THE WALK -/
set_option maxRecDepth 100000 in
set_option maxHeartbeats 16000000 in
theorem walk (a0 : Option Addr) (len0 cap0 : Nat) (a1 : Int) (a2 : Int) (a3 : Int) (w : World) (w0 : IsInts w a0 len0) (w1 : (Lit.int .u8 a1).wf = true) (w2 : (Lit.int .u8 a2).wf = true) (w3 : (Lit.int .u16 a3).wf = true) :
    Calls Try.prog 4 #[.slice a0 len0 cap0, .int .u8 a1, .int .u8 a2, .int .u16 a3] w fun e w' => e = .returned (.bool true) ∧ Below w.heap.size w w' := by
  have LN := Lib.hid (lnode2 a0 len0 cap0 w w0.1 w0.2)
  clear w0
  have Hx := Lib.hid (idx_ok w1)
  have Hy := Lib.hid (idx_ok w2)
  have Hr := Lib.hid (ref_ok w3)
  go_enter Try.func4, Try.ntmps4
  go_upto_region 2 with (go_at_call 8; refine LN.out.mono ?_; rintro e u0 ⟨n, rfl, gn, hc, hl, hb⟩; have X := Lib.hid (⟨gn, hc, hl, hb⟩ : _ ∧ _ ∧ _ ∧ _); clear gn hc hl hb)
  generalize wrap64 (a1.tmod 64) = x at Hx ⊢
  generalize wrap64 (a2.tmod 64) = y at Hy ⊢
  generalize wrap64 (1 + wrap64 a3) = r at Hr ⊢
  obtain ⟨V0, hV0⟩ : ∃ X, X = u0.alloc (.cells n.cs 28) := ⟨_, rfl⟩
  have B0 := Lib.hid (show Below w.heap.size w V0 by rw [hV0]; exact X.out.2.2.2.alloc X.out.2.2.2.size _)
  have NN0 := Lib.hid (show NB V0 u0.heap.size n by rw [hV0]; exact nb_new X.out.1)
  rw [← hV0]; clear hV0
  generalize u0.heap.size = b0 at NN0 ⊢
  have lN0 := NN0.out.ld
  have HC := Lib.hid X.out.2.1
  have HR := Lib.hid X.out.1.rd

  cases e : fN n x with
  | none =>
    have CC1 := Lib.hid (look_none NN0.out.2 HC.out e)
    go_upto_region 3 with (go_at_call 12; refine CC1.out.mono ?_; rintro e u1 ⟨rfl, hg⟩; have BB1 := Lib.hid (Gr.b hg); clear hg)
    have Nn2 := Lib.hid (NN0.out.up BB1.out)
    have lNn2 := Nn2.out.ld
    have B3 := Lib.hid (B0.out.trans (BB1.out.mono B0.out.size))
    clear NN0
    clear B0
    have CC4 := Lib.hid (ins_y Nn2.out.2 HC.out Hx.out e Hr.out)
    go_upto_region 4 with (go_at_call 13; refine CC4.out.mono ?_; rintro e u4 ⟨ya, rfl, iy, gy, hb⟩; have Y4 := Lib.hid (⟨gy, iy, hb⟩ : _ ∧ _ ∧ _); clear iy gy hb)
    obtain ⟨V4, hV4⟩ : ∃ X, X = u4.alloc (.cells ya.cs 28) := ⟨_, rfl⟩
    have BB4 := Lib.hid (show Below u1.heap.size u1 V4 by rw [hV4]; exact (Y4.out.2.2).alloc (Y4.out.2.2).size _)
    have NN4 := Lib.hid (show NB V4 u4.heap.size ya by rw [hV4]; exact nb_new Y4.out.1)
    rw [← hV4]; clear hV4
    have Nn5 := Lib.hid (Nn2.out.up BB4.out)
    have lNn5 := Nn5.out.ld
    have B6 := Lib.hid (B3.out.trans (BB4.out.mono B3.out.size))
    clear Nn2
    clear B3
    generalize u4.heap.size = b4 at NN4 ⊢
    have lN4 := NN4.out.ld
    have Iya := Lib.hid (Y4.out.2.1)
    have CC7 := Lib.hid (upd_0 Nn5.out.2 HC.out Hx.out e Hr.out)
    go_upto_region 5 with (go_at_call 14; refine CC7.out.mono ?_; rintro e u7 ⟨rfl, hb⟩; have Y7 := Lib.hid hb; clear hb)
    obtain ⟨yb, hyb⟩ : ∃ m : Nd, m = Nd.zero := ⟨_, rfl⟩
    rw [← hyb]
    have Gyb := Lib.hid (show GN u7 yb by rw [hyb]; exact gn_zero _)
    clear hyb
    obtain ⟨V7, hV7⟩ : ∃ X, X = u7.alloc (.cells yb.cs 28) := ⟨_, rfl⟩
    have BB7 := Lib.hid (show Below V4.heap.size V4 V7 by rw [hV7]; exact (Y7.out).alloc (Y7.out).size _)
    have NN7 := Lib.hid (show NB V7 u7.heap.size yb by rw [hV7]; exact nb_new Gyb.out)
    rw [← hV7]; clear hV7
    have Nn8 := Lib.hid (Nn5.out.up BB7.out)
    have lNn8 := Nn8.out.ld
    have Nya9 := Lib.hid (NN4.out.up BB7.out)
    have lNya9 := Nya9.out.ld
    have B10 := Lib.hid (B6.out.trans (BB7.out.mono B6.out.size))
    clear Nn5
    clear NN4
    clear B6
    generalize u7.heap.size = b7 at NN7 ⊢
    have lN7 := NN7.out.ld
    have CC11 := Lib.hid (rem_0 Nn8.out.2 HC.out Hx.out e)
    go_upto_region 6 with (go_at_call 15; refine CC11.out.mono ?_; rintro e u11 ⟨rfl, hb⟩; have Y11 := Lib.hid hb; clear hb)
    obtain ⟨yc, hyc⟩ : ∃ m : Nd, m = Nd.zero := ⟨_, rfl⟩
    rw [← hyc]
    have Gyc := Lib.hid (show GN u11 yc by rw [hyc]; exact gn_zero _)
    clear hyc
    obtain ⟨V11, hV11⟩ : ∃ X, X = u11.alloc (.cells yc.cs 28) := ⟨_, rfl⟩
    have BB11 := Lib.hid (show Below V7.heap.size V7 V11 by rw [hV11]; exact (Y11.out).alloc (Y11.out).size _)
    have NN11 := Lib.hid (show NB V11 u11.heap.size yc by rw [hV11]; exact nb_new Gyc.out)
    rw [← hV11]; clear hV11
    have Nn12 := Lib.hid (Nn8.out.up BB11.out)
    have lNn12 := Nn12.out.ld
    have Nya13 := Lib.hid (Nya9.out.up BB11.out)
    have lNya13 := Nya13.out.ld
    have Nyb14 := Lib.hid (NN7.out.up BB11.out)
    have lNyb14 := Nyb14.out.ld
    have B15 := Lib.hid (B10.out.trans (BB11.out.mono B10.out.size))
    clear Nn8
    clear Nya9
    clear NN7
    clear B10
    generalize u11.heap.size = b11 at NN11 ⊢
    have lN11 := NN11.out.ld
    have CC16 := Lib.hid (awake_any V11)
    go_upto_region 8 with (go_at_call 11; refine CC16.out.mono ?_; rintro e u16 ⟨rfl, hb⟩; have BB16 := Lib.hid hb; clear hb)
    have Nn17 := Lib.hid (Nn12.out.up BB16.out)
    have lNn17 := Nn17.out.ld
    have Nya18 := Lib.hid (Nya13.out.up BB16.out)
    have lNya18 := Nya18.out.ld
    have Nyb19 := Lib.hid (Nyb14.out.up BB16.out)
    have lNyb19 := Nyb19.out.ld
    have Nyc20 := Lib.hid (NN11.out.up BB16.out)
    have lNyc20 := Nyc20.out.ld
    have B21 := Lib.hid (B15.out.trans (BB16.out.mono B15.out.size))
    clear Nn12
    clear Nya13
    clear Nyb14
    clear NN11
    clear B15
    obtain ⟨o, ho⟩ : ∃ o, o = fN n y := ⟨_, rfl⟩
    have HO := Lib.hid ho.symm
    clear ho
    have CC22 := Lib.hid (look_at Nn17.out.2 HC.out HO.out)
    obtain ⟨av, hav⟩ : ∃ av, av = o.getD 0 := ⟨_, rfl⟩
    obtain ⟨hv, hhv⟩ : ∃ hv, hv = o.isSome := ⟨_, rfl⟩
    rw [← hav, ← hhv] at CC22
    have HAV := Lib.hid (⟨hav, hhv⟩ : _ ∧ _)
    clear hav hhv
    go_upto_region 9 with (go_at_call 12; refine CC22.out.mono ?_; rintro e u22 ⟨rfl, hg⟩; have BB22 := Lib.hid (Gr.b hg); clear hg)
    have Nn23 := Lib.hid (Nn17.out.up BB22.out)
    have lNn23 := Nn23.out.ld
    have Nya24 := Lib.hid (Nya18.out.up BB22.out)
    have lNya24 := Nya24.out.ld
    have Nyb25 := Lib.hid (Nyb19.out.up BB22.out)
    have lNyb25 := Nyb25.out.ld
    have Nyc26 := Lib.hid (Nyc20.out.up BB22.out)
    have lNyc26 := Nyc26.out.ld
    have B27 := Lib.hid (B21.out.trans (BB22.out.mono B21.out.size))
    clear Nn17
    clear Nya18
    clear Nyb19
    clear Nyc20
    clear B21
    go_upto_region 10 with (fail)
    obtain ⟨U, hU⟩ : ∃ X, X = u22.alloc (.cells (rowOf [ya.cs, yb.cs, yc.cs]) 28) := ⟨_, rfl⟩
    have BU := Lib.hid (show Below u22.heap.size u22 U by rw [hU]; exact alloc_below u22 _)
    have RU := Lib.hid (show U.heap[u22.heap.size]? = some (.cells (rowOf [ya.cs, yb.cs, yc.cs]) 28 (0, 0)) by rw [hU]; exact heap_alloc_new u22 _)
    rw [← hU]; clear hU
    have Nn28 := Lib.hid (Nn23.out.up BU.out)
    have lNn28 := Nn28.out.ld
    have Nya29 := Lib.hid (Nya24.out.up BU.out)
    have lNya29 := Nya29.out.ld
    have Nyb30 := Lib.hid (Nyb25.out.up BU.out)
    have lNyb30 := Nyb30.out.ld
    have Nyc31 := Lib.hid (Nyc26.out.up BU.out)
    have lNyc31 := Nyc31.out.ld
    have B32 := Lib.hid (B27.out.trans (BU.out.mono B27.out.size))
    clear Nn23
    clear Nya24
    clear Nyb25
    clear Nyc26
    clear B27
    generalize u22.heap.size = g at RU ⊢
    go_wp2_with fail
    go_loopg [92] 3 (fun kx s92 wr => ∃ p : Nat, s92 = .int .i64 p ∧ p ≤ 3 ∧ 3 - p ≤ kx ∧ Aside (RowKit.Below U.heap.size U wr))
    case atStart => exact ⟨0, rfl, by omega, by omega, Below.refl _ _⟩
    case round =>
      obtain ⟨p, rfl, hp, hpx, I⟩ := hrel
      rcases (by omega : p = 0 ∨ p = 1 ∨ p = 2 ∨ p = 3) with rfl | rfl | rfl | rfl
      · have ld := (row3_ld (heap_up RU.out I.out)).1
        obtain ⟨Z, hZ⟩ : ∃ X, X = wr.alloc (.cells ya.cs 28) := ⟨_, rfl⟩
        have BZ := Lib.hid (show RowKit.Below U.heap.size U Z by rw [hZ]; exact I.out.alloc I.out.size _)
        have HZ := Lib.hid hZ.symm
        have NZ := Lib.hid (show NB Z wr.heap.size ya by rw [hZ]; exact nb_new (Nya29.out.up I.out).2)
        have lz := NZ.out.ld
        clear hZ
        go_upto_region 12 with (fail)
        rw [HZ.out]
        clear HZ
        by_cases hxy : x = y
        · subst hxy
          have LM := Lib.hid (look_at NZ.out.2 Iya.out.isC ((map_at Iya.out Hx.out).trans (if_pos rfl)))
          simp only [Option.getD, Option.isSome] at LM
          go_wp2_with (go_at_call 12; refine LM.out.mono ?_; rintro e z1 ⟨rfl, hg⟩; have GZ := Lib.hid (BZ.out.trans ((Gr.b hg).mono BZ.out.size)); clear hg)
          go_roundg 2
          case measure => omega
          case rel => exact ⟨1, by first | rfl | go_num, by omega, by omega, GZ.out⟩
        · have LM := Lib.hid (look_at NZ.out.2 Iya.out.isC ((map_at Iya.out Hy.out).trans ((if_neg (fun h => hxy h.symm)).trans HO.out)))
          rw [← HAV.out.1, ← HAV.out.2] at LM
          go_wp2_with (go_at_call 12; refine LM.out.mono ?_; rintro e z1 ⟨rfl, hg⟩; have GZ := Lib.hid (BZ.out.trans ((Gr.b hg).mono BZ.out.size)); clear hg)
          go_roundg 2
          case measure => omega
          case rel => exact ⟨1, by first | rfl | go_num, by omega, by omega, GZ.out⟩
      · have ld := (row3_ld (heap_up RU.out I.out)).2.1
        go_wp2_with fail
        go_roundg 1
        case measure => omega
        case rel => exact ⟨2, by first | rfl | go_num, by omega, by omega, I.out.trans ((alloc_below wr _).mono I.out.size)⟩
      · have ld := (row3_ld (heap_up RU.out I.out)).2.2
        go_wp2_with fail
        go_roundg 0
        case measure => omega
        case rel => exact ⟨3, by first | rfl | go_num, by omega, by omega, I.out.trans ((alloc_below wr _).mono I.out.size)⟩
      · go_wp2_with fail
        go_ret
        exact ⟨rfl, B32.out.trans (I.out.mono B32.out.size)⟩
  | some z =>
    have hz := fN_pos HC.out e
    have CC1 := Lib.hid (look_some NN0.out.2 HC.out e)
    go_upto_region 3 with (go_at_call 12; refine CC1.out.mono ?_; rintro e u1 ⟨rfl, hg⟩; have BB1 := Lib.hid (Gr.b hg); clear hg)
    have Nn2 := Lib.hid (NN0.out.up BB1.out)
    have lNn2 := Nn2.out.ld
    have B3 := Lib.hid (B0.out.trans (BB1.out.mono B0.out.size))
    clear NN0
    clear B0
    have CC4 := Lib.hid (ins_0 Nn2.out.2 HC.out e Hr.out)
    go_upto_region 4 with (go_at_call 13; refine CC4.out.mono ?_; rintro e u4 ⟨rfl, hb⟩; have Y4 := Lib.hid hb; clear hb)
    obtain ⟨ya, hya⟩ : ∃ m : Nd, m = Nd.zero := ⟨_, rfl⟩
    rw [← hya]
    have Gya := Lib.hid (show GN u4 ya by rw [hya]; exact gn_zero _)
    clear hya
    obtain ⟨V4, hV4⟩ : ∃ X, X = u4.alloc (.cells ya.cs 28) := ⟨_, rfl⟩
    have BB4 := Lib.hid (show Below u1.heap.size u1 V4 by rw [hV4]; exact (Y4.out).alloc (Y4.out).size _)
    have NN4 := Lib.hid (show NB V4 u4.heap.size ya by rw [hV4]; exact nb_new Gya.out)
    rw [← hV4]; clear hV4
    have Nn5 := Lib.hid (Nn2.out.up BB4.out)
    have lNn5 := Nn5.out.ld
    have B6 := Lib.hid (B3.out.trans (BB4.out.mono B3.out.size))
    clear Nn2
    clear B3
    generalize u4.heap.size = b4 at NN4 ⊢
    have lN4 := NN4.out.ld
    have CC7 := Lib.hid (upd_y Nn5.out.2 HC.out e Hr.out)
    go_upto_region 5 with (go_at_call 14; refine CC7.out.mono ?_; rintro e u7 ⟨yb, rfl, iy, gy, hb⟩; have Y7 := Lib.hid (⟨gy, iy, hb⟩ : _ ∧ _ ∧ _); clear iy gy hb)
    obtain ⟨V7, hV7⟩ : ∃ X, X = u7.alloc (.cells yb.cs 28) := ⟨_, rfl⟩
    have BB7 := Lib.hid (show Below V4.heap.size V4 V7 by rw [hV7]; exact (Y7.out.2.2).alloc (Y7.out.2.2).size _)
    have NN7 := Lib.hid (show NB V7 u7.heap.size yb by rw [hV7]; exact nb_new Y7.out.1)
    rw [← hV7]; clear hV7
    have Nn8 := Lib.hid (Nn5.out.up BB7.out)
    have lNn8 := Nn8.out.ld
    have Nya9 := Lib.hid (NN4.out.up BB7.out)
    have lNya9 := Nya9.out.ld
    have B10 := Lib.hid (B6.out.trans (BB7.out.mono B6.out.size))
    clear Nn5
    clear NN4
    clear B6
    generalize u7.heap.size = b7 at NN7 ⊢
    have lN7 := NN7.out.ld
    have Iyb := Lib.hid (Y7.out.2.1)
    have CC11 := Lib.hid (rem_y Nn8.out.2 HC.out e)
    go_upto_region 6 with (go_at_call 15; refine CC11.out.mono ?_; rintro e u11 ⟨yc, rfl, iy, gy, hb⟩; have Y11 := Lib.hid (⟨gy, iy, hb⟩ : _ ∧ _ ∧ _); clear iy gy hb)
    obtain ⟨V11, hV11⟩ : ∃ X, X = u11.alloc (.cells yc.cs 28) := ⟨_, rfl⟩
    have BB11 := Lib.hid (show Below V7.heap.size V7 V11 by rw [hV11]; exact (Y11.out.2.2).alloc (Y11.out.2.2).size _)
    have NN11 := Lib.hid (show NB V11 u11.heap.size yc by rw [hV11]; exact nb_new Y11.out.1)
    rw [← hV11]; clear hV11
    have Nn12 := Lib.hid (Nn8.out.up BB11.out)
    have lNn12 := Nn12.out.ld
    have Nya13 := Lib.hid (Nya9.out.up BB11.out)
    have lNya13 := Nya13.out.ld
    have Nyb14 := Lib.hid (NN7.out.up BB11.out)
    have lNyb14 := Nyb14.out.ld
    have B15 := Lib.hid (B10.out.trans (BB11.out.mono B10.out.size))
    clear Nn8
    clear Nya9
    clear NN7
    clear B10
    generalize u11.heap.size = b11 at NN11 ⊢
    have lN11 := NN11.out.ld
    have Iyc := Lib.hid (Y11.out.2.1)
    have CC16 := Lib.hid (awake_any V11)
    go_upto_region 8 with (go_at_call 11; refine CC16.out.mono ?_; rintro e u16 ⟨rfl, hb⟩; have BB16 := Lib.hid hb; clear hb)
    have Nn17 := Lib.hid (Nn12.out.up BB16.out)
    have lNn17 := Nn17.out.ld
    have Nya18 := Lib.hid (Nya13.out.up BB16.out)
    have lNya18 := Nya18.out.ld
    have Nyb19 := Lib.hid (Nyb14.out.up BB16.out)
    have lNyb19 := Nyb19.out.ld
    have Nyc20 := Lib.hid (NN11.out.up BB16.out)
    have lNyc20 := Nyc20.out.ld
    have B21 := Lib.hid (B15.out.trans (BB16.out.mono B15.out.size))
    clear Nn12
    clear Nya13
    clear Nyb14
    clear NN11
    clear B15
    obtain ⟨o, ho⟩ : ∃ o, o = fN n y := ⟨_, rfl⟩
    have HO := Lib.hid ho.symm
    clear ho
    have CC22 := Lib.hid (look_at Nn17.out.2 HC.out HO.out)
    obtain ⟨av, hav⟩ : ∃ av, av = o.getD 0 := ⟨_, rfl⟩
    obtain ⟨hv, hhv⟩ : ∃ hv, hv = o.isSome := ⟨_, rfl⟩
    rw [← hav, ← hhv] at CC22
    have HAV := Lib.hid (⟨hav, hhv⟩ : _ ∧ _)
    clear hav hhv
    go_upto_region 9 with (go_at_call 12; refine CC22.out.mono ?_; rintro e u22 ⟨rfl, hg⟩; have BB22 := Lib.hid (Gr.b hg); clear hg)
    have Nn23 := Lib.hid (Nn17.out.up BB22.out)
    have lNn23 := Nn23.out.ld
    have Nya24 := Lib.hid (Nya18.out.up BB22.out)
    have lNya24 := Nya24.out.ld
    have Nyb25 := Lib.hid (Nyb19.out.up BB22.out)
    have lNyb25 := Nyb25.out.ld
    have Nyc26 := Lib.hid (Nyc20.out.up BB22.out)
    have lNyc26 := Nyc26.out.ld
    have B27 := Lib.hid (B21.out.trans (BB22.out.mono B21.out.size))
    clear Nn17
    clear Nya18
    clear Nyb19
    clear Nyc20
    clear B21
    go_upto_region 10 with (fail)
    obtain ⟨U, hU⟩ : ∃ X, X = u22.alloc (.cells (rowOf [ya.cs, yb.cs, yc.cs]) 28) := ⟨_, rfl⟩
    have BU := Lib.hid (show Below u22.heap.size u22 U by rw [hU]; exact alloc_below u22 _)
    have RU := Lib.hid (show U.heap[u22.heap.size]? = some (.cells (rowOf [ya.cs, yb.cs, yc.cs]) 28 (0, 0)) by rw [hU]; exact heap_alloc_new u22 _)
    rw [← hU]; clear hU
    have Nn28 := Lib.hid (Nn23.out.up BU.out)
    have lNn28 := Nn28.out.ld
    have Nya29 := Lib.hid (Nya24.out.up BU.out)
    have lNya29 := Nya29.out.ld
    have Nyb30 := Lib.hid (Nyb25.out.up BU.out)
    have lNyb30 := Nyb30.out.ld
    have Nyc31 := Lib.hid (Nyc26.out.up BU.out)
    have lNyc31 := Nyc31.out.ld
    have B32 := Lib.hid (B27.out.trans (BU.out.mono B27.out.size))
    clear Nn23
    clear Nya24
    clear Nyb25
    clear Nyc26
    clear B27
    generalize u22.heap.size = g at RU ⊢
    go_wp2_with fail
    go_loopg [92] 3 (fun kx s92 wr => ∃ p : Nat, s92 = .int .i64 p ∧ p ≤ 3 ∧ 3 - p ≤ kx ∧ Aside (RowKit.Below U.heap.size U wr))
    case atStart => exact ⟨0, rfl, by omega, by omega, Below.refl _ _⟩
    case round =>
      obtain ⟨p, rfl, hp, hpx, I⟩ := hrel
      rcases (by omega : p = 0 ∨ p = 1 ∨ p = 2 ∨ p = 3) with rfl | rfl | rfl | rfl
      · have ld := (row3_ld (heap_up RU.out I.out)).1
        go_wp2_with fail
        go_roundg 2
        case measure => omega
        case rel => exact ⟨1, by first | rfl | go_num, by omega, by omega, I.out.trans ((alloc_below wr _).mono I.out.size)⟩
      · have ld := (row3_ld (heap_up RU.out I.out)).2.1
        obtain ⟨Z, hZ⟩ : ∃ X, X = wr.alloc (.cells yb.cs 28) := ⟨_, rfl⟩
        have BZ := Lib.hid (show RowKit.Below U.heap.size U Z by rw [hZ]; exact I.out.alloc I.out.size _)
        have HZ := Lib.hid hZ.symm
        have NZ := Lib.hid (show NB Z wr.heap.size yb by rw [hZ]; exact nb_new (Nyb30.out.up I.out).2)
        have lz := NZ.out.ld
        clear hZ
        go_upto_region 12 with (fail)
        rw [HZ.out]
        clear HZ
        by_cases hxy : x = y
        · subst hxy
          have LM := Lib.hid (look_at NZ.out.2 Iyb.out.isC ((map_at Iyb.out Hx.out).trans (if_pos rfl)))
          simp only [Option.getD, Option.isSome] at LM
          go_wp2_with (go_at_call 12; refine LM.out.mono ?_; rintro e z1 ⟨rfl, hg⟩; have GZ := Lib.hid (BZ.out.trans ((Gr.b hg).mono BZ.out.size)); clear hg)
          go_roundg 1
          case measure => omega
          case rel => exact ⟨2, by first | rfl | go_num, by omega, by omega, GZ.out⟩
        · have LM := Lib.hid (look_at NZ.out.2 Iyb.out.isC ((map_at Iyb.out Hy.out).trans ((if_neg (fun h => hxy h.symm)).trans HO.out)))
          rw [← HAV.out.1, ← HAV.out.2] at LM
          go_wp2_with (go_at_call 12; refine LM.out.mono ?_; rintro e z1 ⟨rfl, hg⟩; have GZ := Lib.hid (BZ.out.trans ((Gr.b hg).mono BZ.out.size)); clear hg)
          go_roundg 1
          case measure => omega
          case rel => exact ⟨2, by first | rfl | go_num, by omega, by omega, GZ.out⟩
      · have ld := (row3_ld (heap_up RU.out I.out)).2.2
        obtain ⟨Z, hZ⟩ : ∃ X, X = wr.alloc (.cells yc.cs 28) := ⟨_, rfl⟩
        have BZ := Lib.hid (show RowKit.Below U.heap.size U Z by rw [hZ]; exact I.out.alloc I.out.size _)
        have HZ := Lib.hid hZ.symm
        have NZ := Lib.hid (show NB Z wr.heap.size yc by rw [hZ]; exact nb_new (Nyc31.out.up I.out).2)
        have lz := NZ.out.ld
        clear hZ
        go_upto_region 12 with (fail)
        rw [HZ.out]
        clear HZ
        by_cases hxy : x = y
        · subst hxy
          have LM := Lib.hid (look_at NZ.out.2 Iyc.out.isC ((map_at Iyc.out Hx.out).trans (if_pos rfl)))
          simp only [Option.getD, Option.isSome] at LM
          go_wp2_with (go_at_call 12; refine LM.out.mono ?_; rintro e z1 ⟨rfl, hg⟩; have GZ := Lib.hid (BZ.out.trans ((Gr.b hg).mono BZ.out.size)); clear hg)
          go_roundg 0
          case measure => omega
          case rel => exact ⟨3, by first | rfl | go_num, by omega, by omega, GZ.out⟩
        · have LM := Lib.hid (look_at NZ.out.2 Iyc.out.isC ((map_at Iyc.out Hy.out).trans ((if_neg (fun h => hxy h.symm)).trans HO.out)))
          rw [← HAV.out.1, ← HAV.out.2] at LM
          go_wp2_with (go_at_call 12; refine LM.out.mono ?_; rintro e z1 ⟨rfl, hg⟩; have GZ := Lib.hid (BZ.out.trans ((Gr.b hg).mono BZ.out.size)); clear hg)
          go_roundg 0
          case measure => omega
          case rel => exact ⟨3, by first | rfl | go_num, by omega, by omega, GZ.out⟩
      · go_wp2_with fail
        go_ret
        exact ⟨rfl, B32.out.trans (I.out.mono B32.out.size)⟩

/-! ### THE ROW's STEP -/
set_option maxRecDepth 100000 in
theorem lifted (os : Os) (started : os.Started) (H : Type) (enc : TypeId × Value → H) :
    ReturnsInHanded {} Try.checked os 4 .any (Rows.branchMapsSpec.pre6 enc Try.prog Try.f4 Rows.branchMapsRow.domain false) (Rows.branchMapsSpec.post enc Try.prog Try.f4 false true false false) := by
  refine returnsInHanded_of_change (C := Try.checked) own started (by kernel_rfl) Try.func4
    (ChangeSpec.witness6 (enc := enc) (C := Try.checked) false ⟨#[], #[.slice none 0 0, .int .u8 0, .int .u8 0, .int .u16 0], []⟩ 8 (by kernel_rfl) (by kernel_rfl) (by kernel_rfl) (by kernel_rfl)) ?_
  intro W base args ds gs before hval0 hW hcnd _
  have hval : ∀ (j : Nat) t v, Try.f4.params[j]? = some t → args[j]? = some v → Value.okWide Try.prog W .any base t v := hval0
  have hW' := hW
  obtain ⟨p, q, hA0, hV, rfl, hfz, hnd⟩ := hW
  have hA : DataW.TrodAll enc Try.prog W 0 (fun _ => true) true Try.f4.params.toList args.toList ds p := hA0
  rw [Try.params4] at hA hval
  obtain ⟨v0, vs0, d0, ds0, p0, q0, hargs, rfl, rfl, h0, r0⟩ := trodAll_cons hA
  obtain ⟨v1, vs1, d1, ds1, p1, q1, rfl, rfl, rfl, h1, r1⟩ := trodAll_cons r0
  obtain ⟨v2, vs2, d2, ds2, p2, q2, rfl, rfl, rfl, h2, r2⟩ := trodAll_cons r1
  obtain ⟨v3, vs3, d3, ds3, p3, q3, rfl, rfl, rfl, h3, r3⟩ := trodAll_cons r2
  obtain ⟨rfl, rfl, rfl⟩ := trodAll_nil r3
  obtain rfl : args = #[v0, v1, v2, v3] := by cases args; simp_all
  obtain ⟨rfl, rfl⟩ := trodVars_none hV
  obtain ⟨a0, len0, cap0, rfl⟩ := okWide_slice Try.underlying29 (hval 0 29 v0 rfl rfl)
  have k0 := h0
  have lt0 : ∀ x ∈ p0, x.block < W.heap.size := by obtain ⟨m, hm⟩ := k0; exact DataW.trod_lt m _ _ _ hm
  have w0 := open_intsT h0
  obtain ⟨a1, rfl, rfl, rfl, w1⟩ := open_int Try.underlying5 (hval 1 5 v1 rfl rfl) h1
  obtain ⟨a2, rfl, rfl, rfl, w2⟩ := open_int Try.underlying5 (hval 2 5 v2 rfl rfl) h2
  obtain ⟨a3, rfl, rfl, rfl, w3⟩ := open_int Try.underlying35 (hval 3 35 v3 rfl rfl) h3
  clear hA0 hval0
  refine (walk a0 len0 cap0 a1 a2 a3 W w0 w1 w2 w3).mono fun e W' ⟨he, bel⟩ => ?_
  subst he
  exact ⟨_, rfl, _, _, _, [], _, [], hW', trodAll_mk1 (shut_bool Try.underlying4 _), (trodAll_cons_mk (Below.trod laidOut (by kernel_rfl) (of_decide_eq_true (by kernel_rfl)) k0 bel lt0) (trodAll_cons_mk (shut_int Try.underlying5 w1) (trodAll_cons_mk (shut_int Try.underlying5 w2) (trodAll_cons_mk (shut_int Try.underlying35 w3) trodAll_mk0)))), rfl, bel.frame _, fun h => by cases h⟩

theorem over : Rows.branchMapsRow.holds Try.pinned (OpenSpec.ofChange Rows.branchMapsSpec) :=
  OpenClaim.holds_of_wide 4 Try.f4 rfl rfl rfl rfl rfl rfl rfl ⟨rfl, rfl, rfl, rfl, rfl⟩ rfl rfl rfl rfl rfl (by kernel_rfl) Try.func4 (by kernel_rfl)
    (of_decide_eq_true (by kernel_rfl)) (by unfold Func.isWrapper; first | (rw [if_pos (by decide +kernel)]; kernel_rfl) | (rw [if_neg (by decide +kernel)]; exact ⟨rfl, rfl⟩))
    (fun os started H enc _ => lifted os started H enc)

/-- ████ THE STATEMENT ████ -/
theorem proved : Rows.BranchMapsSaid := over
#print axioms proved
end Go.Proofs.Ytcigljjnopfohaa.branchMaps
