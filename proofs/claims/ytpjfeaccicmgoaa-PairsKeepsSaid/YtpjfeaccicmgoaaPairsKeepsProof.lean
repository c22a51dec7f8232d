/- For every input the Go function PairsKeeps of package ctrielaw03 returns true, and each argument reads afterwards as it read before. Conditions: none but those that every row of the form bears by itself. The frame was written by the guide's proof-skeleton and turned to slices of pairs; the walk is ours. -/
import Derived.Test.YtpjfeaccicmgoaaRows
import Derived.WalkKit
import Derived.ProofKit
import Derived.OpenShut
import Derived.ShutString
import Derived.ChangeOld
import Derived.Below
import Derived.Test.YtpjfeaccicmgoaaFrame
import Derived.Test.YtpjfeaccicmgoaaWalksM
import Derived.Lib.Hide
namespace Go.Proofs.Ytpjfeaccicmgoaa.pairsKeeps
open Go.Lib
open Go.ChangeShapes Go.WideShapes Go.ChangeAt Go.RowKit
open Go.ChangeMaps (open_string shut_string)
set_option linter.unusedVariables false

theorem own : ownKnob Try.prog.godebug = none := by kernel_rfl
theorem laidOut : laidOutB Try.prog = true := by kernel_rfl

def kFill : ByteArray := ⟨#[102, 105, 108, 108]⟩
def kWiped : ByteArray := ⟨#[119, 105, 112, 101, 100]⟩

/-! ### STEP 1: THE WALK: the Go text returns true, AND WRITES NOTHING THAT WAS THERE: 'Below w.heap.size w w'' (Derived/Below.lean: '.refl', '.alloc', '.drew', '.setCell' at a new block, '.trans'). Open each 'IsRow' by 'rcases' AHEAD of 'go_enter'; part every test ahead of the walk. -/
theorem walk (a0 : Option Addr) (len0 cap0 : Nat) (z0 : List Pr) (a1 : ByteArray) (a2 : Int) (w : World) (w0 : IsList w a0 len0 cap0 z0) (w1 : a1.size ≤ maxLen) (w2 : (Lit.int .u64 a2).wf = true) :
    Calls Try.prog 7 #[.slice a0 len0 cap0, .string a1, .int .u64 a2] w fun e w' => e = .returned (.bool true) ∧ Below w.heap.size w w' := by
  obtain ⟨rfl, hc0, hR0⟩ := w0
  obtain ⟨y0, hy0⟩ : ∃ y, y = z0.take 30 := ⟨_, rfl⟩
  have cfirst := first_any a0 cap0 z0 w hc0
  rw [← hy0] at cfirst
  have R0 := Lib.hid (hR0.take 30)
  rw [← hy0] at R0
  have hy : y0.length ≤ 30 := by rw [hy0]; simp; omega
  have hyc : y0.length ≤ cap0 := by rw [hy0]; simp; omega
  have HB := Lib.hid (Below.refl w.heap.size w)
  clear hy0 hR0
  go_enter Try.func7, Try.ntmps7
  go_wp2_with (go_at_call 8; refine cfirst.mono ?_; rintro e w9 ⟨rfl, rfl⟩)
  clear cfirst
  refine (refOf_up2 a0 cap0 y0 _ R0.out (by omega)).mono ?_
  rintro e w1 ⟨A1, c1, x, rfl, hP, hR, hA, hcx, hb⟩
  have lx : x.length ≤ 30 := Nat.le_trans hP.2.2 hy
  have AX := Lib.hid hP.1
  have RX := Lib.hid hR
  have NX := Lib.hid hA
  have HB := Lib.hid (HB.out.trans (hb.mono HB.out.size))
  clear hP hR hA hb R0
  go_wp2_with fail
  -- the fill's box
  obtain ⟨w2, hw2⟩ : ∃ w2, w2 = w1.alloc (.cells #[.string kFill, .int .u64 7] 27) := ⟨_, rfl⟩
  have hb2 : Below w1.heap.size w1 w2 := by rw [hw2]; exact (Below.refl _ _).alloc (Nat.le_refl _) _
  have F0 : Hid (w2.cell? ⟨w1.heap.size, 0, none⟩ = some (.string kFill)) := by show _ = _; rw [hw2]; simp
  have F1 : Hid (w2.cell? ⟨w1.heap.size, 1, none⟩ = some (.int .u64 7)) := by show _ = _; rw [hw2]; simp
  have hz2 : w1.heap.size < w2.heap.size := by rw [hw2]; simp
  have c21 := spare_any A1 c1 x (kFill, 7) w2 (RX.out.up hb2) NX.out (by omega)
  rw [hw2] at c21
  refine c21.mono ?_
  rw [← hw2]
  clear c21
  have RX := Lib.hid (RX.out.up hb2)
  have HB := Lib.hid (HB.out.trans (hb2.mono HB.out.size))
  clear hb2 hw2
  rintro e w3 ⟨A2, rfl, hR, hb⟩
  have RY := Lib.hid hR
  have RX := Lib.hid (RX.out.up hb)
  have HB := Lib.hid (HB.out.trans (hb.mono HB.out.size))
  have F0 : Hid (w3.cell? ⟨w1.heap.size, 0, none⟩ = some (.string kFill)) := (hb.cell (p := ⟨w1.heap.size, 0, none⟩) hz2).trans F0.out
  have F1 : Hid (w3.cell? ⟨w1.heap.size, 1, none⟩ = some (.int .u64 7)) := (hb.cell (p := ⟨w1.heap.size, 1, none⟩) hz2).trans F1.out
  have hz3 : w1.heap.size < w3.heap.size := Nat.lt_of_lt_of_le hz2 hb.size
  clear hR hb hz2
  go_wp2_with fail
  refine (put_any A2 (x.length + 3) x a1 a2 w3.heap.size w3 RY.out.take_left (Nat.le_refl _) AX.out (by omega) (by omega)).mono ?_
  rintro e w4 ⟨p4, hP, v4, rfl, hO, hb4⟩
  obtain ⟨A4, c4, rfl, _, _, _⟩ := hO.open2
  have V4 := Lib.hid (hO.rowV (Nat.le_refl _) (by have := hP.le; omega))
  have B4 := Lib.hid hb4
  clear hP hO hb4
  go_wp2_with fail
  refine (drop_any A2 (x.length + 3) x a1 w4.heap.size w4 ((RY.out.take_left).up B4.out) (Nat.le_refl _) AX.out (by omega) (by omega)).mono ?_
  rintro e w5 ⟨p5, hP, v5, rfl, hO, hb5⟩
  obtain ⟨A5, c5, rfl, _, _, _⟩ := hO.open2
  have V4 := Lib.hid (V4.out.below hb5 hb5.size)
  have V5 := Lib.hid (hO.rowV B4.out.size (by have := hP.le; omega))
  have B5 := Lib.hid (B4.out.trans (hb5.mono B4.out.size))
  clear hP hO hb5 B4
  go_wp2_with fail
  refine (of_any A2 (x.length + 3) x w5.heap.size w5 ((RY.out.take_left).up B5.out) (Nat.le_refl _) (by omega)).mono ?_
  rintro e w6 ⟨p6, hP, v6, rfl, hO, hb6⟩
  obtain ⟨A6, c6, rfl, _, _, _⟩ := hO.open2
  have V4 := Lib.hid (V4.out.below hb6 hb6.size)
  have V5 := Lib.hid (V5.out.below hb6 hb6.size)
  have V6 := Lib.hid (hO.rowV B5.out.size (by have := hP.2.2; omega))
  have B6 := Lib.hid (B5.out.trans (hb6.mono B5.out.size))
  clear hP hO hb6 B5
  have K0 : Aside (KI w3 w6.heap.size (.slice A4 p4.length c4) (.slice A5 p5.length c5) (.slice A6 p6.length c6) (w6.alloc (.cells #[(.slice A4 p4.length c4), (.slice A5 p5.length c5), (.slice A6 p6.length c6)] 22))) :=
    ⟨B6.out.alloc B6.out.size _, heap_alloc_new w6 _, V4.out.below ((Below.refl _ _).alloc (Nat.le_refl _) _) (Nat.le_refl _), V5.out.below ((Below.refl _ _).alloc (Nat.le_refl _) _) (Nat.le_refl _), V6.out.below ((Below.refl _ _).alloc (Nat.le_refl _) _) (Nat.le_refl _)⟩
  clear V4 V5 V6 B6
  go_wp2_with fail
  go_loopg [11, 30] 3 (fun kx s11 s30 wr => ∃ i : Nat, s30 = .int .i64 i ∧ i ≤ 3 ∧ 3 - i ≤ kx ∧ Aside (KI w3 w6.heap.size (.slice A4 p4.length c4) (.slice A5 p5.length c5) (.slice A6 p6.length c6) wr))
  case atStart => exact ⟨0, rfl, by omega, by omega, K0⟩
  case round =>
    clear K0
    obtain ⟨i, rfl, hi, hkx, K⟩ := hrel
    obtain ⟨k0, k1, k2⟩ := K.out.cells
    rcases (show i = 0 ∨ i = 1 ∨ i = 2 ∨ i = 3 by omega) with rfl | rfl | rfl | rfl
    · go_wp2_with (go_at_call 22; refine (wipe_ki K.out (kWiped, 0) K.out.r4).mono ?_; rintro e wk ⟨rfl, hK⟩; have K1 := Lib.hid hK; clear hK)
      go_roundg 2
      case measure => omega
      case rel => exact ⟨1, by go_num, by omega, by omega, K1.out⟩
    · go_wp2_with (go_at_call 22; refine (wipe_ki K.out (kWiped, 0) K.out.r5).mono ?_; rintro e wk ⟨rfl, hK⟩; have K1 := Lib.hid hK; clear hK)
      go_roundg 1
      case measure => omega
      case rel => exact ⟨2, by go_num, by omega, by omega, K1.out⟩
    · go_wp2_with (go_at_call 22; refine (wipe_ki K.out (kWiped, 0) K.out.r6).mono ?_; rintro e wk ⟨rfl, hK⟩; have K1 := Lib.hid hK; clear hK)
      go_roundg 0
      case measure => omega
      case rel => exact ⟨3, by go_num, by omega, by omega, K1.out⟩
    · clear k0 k1 k2
      go_wp2_with fail
      refine (awake_any wr).mono ?_
      rintro e w7 ⟨rfl, hb⟩
      have B7 := Lib.hid (K.out.below.trans (hb.mono K.out.below.size))
      clear hb K
      have f0 : w7.cell? ⟨w1.heap.size, 0, none⟩ = some (.string kFill) := (B7.out.cell (p := ⟨w1.heap.size, 0, none⟩) hz3).trans F0.out
      have f1 : w7.cell? ⟨w1.heap.size, 1, none⟩ = some (.int .u64 7) := (B7.out.cell (p := ⟨w1.heap.size, 1, none⟩) hz3).trans F1.out
      go_wp2_with fail
      refine (kept_any A2 A1 c1 x (kFill, 7) w7 (RY.out.up B7.out) (RX.out.up B7.out) (by omega)).mono ?_
      rintro e w8 ⟨rfl, hb⟩
      have B8 := Lib.hid (B7.out.trans (hb.mono B7.out.size))
      clear hb f0 f1
      go_wp2
      go_ret
      exact ⟨rfl, HB.out.trans (B8.out.mono HB.out.size)⟩

/-! ### THE ROW's STEP: WRITTEN OUT: LEAVE IT -/
set_option maxRecDepth 100000 in
theorem lifted (os : Os) (started : os.Started) (H : Type) (enc : TypeId × Value → H) :
    ReturnsInHanded {} Try.checked os 7 .any (Rows.pairsKeepsSpec.pre6 enc Try.prog Try.f7 Rows.pairsKeepsRow.domain false) (Rows.pairsKeepsSpec.post enc Try.prog Try.f7 false true false false) := by
  refine returnsInHanded_of_change (C := Try.checked) own started (by kernel_rfl) Try.func7
    (ChangeSpec.witness6 (enc := enc) (C := Try.checked) false ⟨#[], #[.slice none 0 0, .string ByteArray.empty, .int .u64 0], []⟩ 8 (by kernel_rfl) (by kernel_rfl) (by kernel_rfl) (by kernel_rfl)) ?_
  intro W base args ds gs before hval0 hW hcnd _
  have hval : ∀ (j : Nat) t v, Try.f7.params[j]? = some t → args[j]? = some v → Value.okWide Try.prog W .any base t v := hval0
  have hW' := hW
  obtain ⟨p, q, hA0, hV, rfl, hfz, hnd⟩ := hW
  have hA : DataW.TrodAll enc Try.prog W 0 (fun _ => true) true Try.f7.params.toList args.toList ds p := hA0
  rw [Try.params7] at hA hval
  obtain ⟨v0, vs0, d0, ds0, p0, q0, hargs, rfl, rfl, h0, r0⟩ := trodAll_cons hA
  obtain ⟨v1, vs1, d1, ds1, p1, q1, rfl, rfl, rfl, h1, r1⟩ := trodAll_cons r0
  obtain ⟨v2, vs2, d2, ds2, p2, q2, rfl, rfl, rfl, h2, r2⟩ := trodAll_cons r1
  obtain ⟨rfl, rfl, rfl⟩ := trodAll_nil r2
  obtain rfl : args = #[v0, v1, v2] := by cases args; simp_all
  obtain ⟨rfl, rfl⟩ := trodVars_none hV
  obtain ⟨a0, len0, cap0, rfl⟩ := okWide_slice Try.underlying22 (hval 0 22 v0 rfl rfl)
  have k0 := h0
  have lt0 : ∀ x ∈ p0, x.block < W.heap.size := by obtain ⟨m, hm⟩ := k0; exact DataW.trod_lt m _ _ _ hm
  obtain ⟨z0, w0⟩ := open_list h0
  obtain ⟨a1, rfl, rfl, rfl, w1⟩ := open_string Try.underlying9 (hval 1 9 v1 rfl rfl) h1
  obtain ⟨a2, rfl, rfl, rfl, w2⟩ := open_int Try.underlying24 (hval 2 24 v2 rfl rfl) h2
  clear hA0 hval0
  refine (walk a0 len0 cap0 z0 a1 a2 W w0 w1 w2).mono fun e W' ⟨he, bel⟩ => ?_
  subst he
  exact ⟨_, rfl, _, _, _, [], _, [], hW', trodAll_mk1 (shut_bool Try.underlying4 _), (trodAll_cons_mk (Below.trod laidOut (by kernel_rfl) (of_decide_eq_true (by kernel_rfl)) k0 bel lt0) (trodAll_cons_mk (shut_string Try.underlying9 w1) (trodAll_cons_mk (shut_int Try.underlying24 w2) trodAll_mk0))), rfl, bel.frame _, fun h => by cases h⟩

theorem over : Rows.pairsKeepsRow.holds Try.pinned (OpenSpec.ofChange Rows.pairsKeepsSpec) :=
  OpenClaim.holds_of_wide 7 Try.f7 rfl rfl rfl rfl rfl rfl rfl ⟨rfl, rfl, rfl, rfl, rfl⟩ rfl rfl rfl rfl rfl (by kernel_rfl) Try.func7 (by kernel_rfl)
    (of_decide_eq_true (by kernel_rfl)) (by unfold Func.isWrapper; first | (rw [if_pos (by decide +kernel)]; kernel_rfl) | (rw [if_neg (by decide +kernel)]; exact ⟨rfl, rfl⟩))
    (fun os started H enc _ => lifted os started H enc)

/-- ████ THE STATEMENT ████ -/
theorem proved : Rows.PairsKeepsSaid := over
#print axioms proved
end Go.Proofs.Ytpjfeaccicmgoaa.pairsKeeps
