/- For every input the Go function PairsCommute of package ctrielaw03 returns true, and each argument reads afterwards as it read before. Conditions: none but those that every row of the form bears by itself. The frame was written by the guide's proof-skeleton and turned to slices of pairs; the walk is ours. -/
import Derived.Test.YtpjfeaccicmgoaaRows
import Derived.WalkKit
import Derived.ProofKit
import Derived.OpenShut
import Derived.ShutString
import Derived.ChangeOld
import Derived.Below
import Derived.Test.YtpjfeaccicmgoaaFrame
import Derived.Test.YtpjfeaccicmgoaaWalksJ
import Derived.Lib.Hide
namespace Go.Proofs.Ytpjfeaccicmgoaa.pairsCommute
open Go.Lib
open Go.ChangeShapes Go.WideShapes Go.ChangeAt Go.RowKit
open Go.ChangeMaps (open_string shut_string)
set_option linter.unusedVariables false

theorem own : ownKnob Try.prog.godebug = none := by kernel_rfl
theorem laidOut : laidOutB Try.prog = true := by kernel_rfl

theorem put_put {x p1 p2 p3 : List Pr} {a : ByteArray} {v : Int} (h1 : PutOf x a v p1) (h2 : PutOf p1 a v p2) (h3 : PutOf x a v p3) : p2 = p3 :=
  asc_ext h2.1 h3.1 fun j => by
    rw [h2.2.1, h1.2.1, h3.2.1]
    split <;> rfl
theorem put_comm {x p4 p5 p6 p7 : List Pr} {a b : ByteArray} {v u : Int} (hab : a ≠ b) (h4 : PutOf x a v p4) (h5 : PutOf p4 b u p5) (h6 : PutOf x b u p6) (h7 : PutOf p6 a v p7) : p5 = p7 :=
  asc_ext h5.1 h7.1 fun j => by
    rw [h5.2.1, h4.2.1, h7.2.1, h6.2.1]
    by_cases ha : j = a
    · subst ha; simp [hab]
    · by_cases hb : j = b
      · subst hb; simp [ha]
      · simp [ha, hb]
theorem put_drop {x p8 q1 q2 p9 : List Pr} {a b : ByteArray} {v : Int} (hab : a ≠ b) (h8 : PutOf x a v p8) (h1 : DropOf p8 b q1) (h2 : DropOf x b q2) (h9 : PutOf q2 a v p9) : q1 = p9 :=
  asc_ext h1.1 h9.1 fun j => by
    rw [h1.2.1, h8.2.1, h9.2.1, h2.2.1]
    by_cases ha : j = a
    · subst ha; simp [hab]
    · by_cases hb : j = b
      · subst hb; simp [ha]
      · simp [ha, hb]

/-! ### STEP 1: THE WALK: the Go text returns true, AND WRITES NOTHING THAT WAS THERE: 'Below w.heap.size w w'' (Derived/Below.lean: '.refl', '.alloc', '.drew', '.setCell' at a new block, '.trans'). Open each 'IsRow' by 'rcases' AHEAD of 'go_enter'; part every test ahead of the walk. -/
theorem walk (a0 : Option Addr) (len0 cap0 : Nat) (z0 : List Pr) (a1 : ByteArray) (a2 : ByteArray) (a3 : Int) (a4 : Int) (w : World) (w0 : IsList w a0 len0 cap0 z0) (w1 : a1.size ≤ maxLen) (w2 : a2.size ≤ maxLen) (w3 : (Lit.int .u64 a3).wf = true) (w4 : (Lit.int .u64 a4).wf = true) :
    Calls Try.prog 5 #[.slice a0 len0 cap0, .string a1, .string a2, .int .u64 a3, .int .u64 a4] w fun e w' => e = .returned (.bool true) ∧ Below w.heap.size w w' := by
  obtain ⟨rfl, hc0, hR0⟩ := w0
  obtain ⟨y0, hy0⟩ : ∃ y, y = z0.take 30 := ⟨_, rfl⟩
  have cfirst := first_any a0 cap0 z0 w hc0
  rw [← hy0] at cfirst
  have R0 := Lib.hid (hR0.take 30)
  rw [← hy0] at R0
  have hy : y0.length ≤ 30 := by rw [hy0]; simp; omega
  have hyc : y0.length ≤ cap0 := by rw [hy0]; simp; omega
  have HB := Lib.hid (Below.refl w.heap.size w)
  clear hy0 hR0
  go_enter Try.func5, Try.ntmps5
  go_wp2_with (go_at_call 8; refine cfirst.mono ?_; rintro e w9 ⟨rfl, rfl⟩)
  clear cfirst
  refine (of_up a0 cap0 y0 _ R0.out (by omega)).mono ?_
  rintro e v1 ⟨A1, c1, x, rfl, hP, hR, hcx, hb⟩
  have R0 := Lib.hid (R0.out.up hb)
  have HB := Lib.hid (HB.out.trans (hb.mono HB.out.size))
  have XO := Lib.hid hP
  have RX := Lib.hid hR
  have AX := Lib.hid hP.1
  have lx : x.length ≤ 30 := Nat.le_trans hP.2.2 hy
  clear hP hR
  clear hb
  go_wp2_with fail
  refine (awake_any _).mono ?_
  rintro e v2 ⟨rfl, hb⟩
  have R0 := Lib.hid (R0.out.up hb)
  have RX := Lib.hid (RX.out.up hb)
  have HB := Lib.hid (HB.out.trans (hb.mono HB.out.size))
  clear hb
  go_wp2_with fail
  refine (put_up A1 c1 x a1 a3 _ RX.out AX.out hcx (by omega)).mono ?_
  rintro e v3 ⟨Ap1, cp1, p1, rfl, hP, hR, hcp1, hb⟩
  have R0 := Lib.hid (R0.out.up hb)
  have RX := Lib.hid (RX.out.up hb)
  have HB := Lib.hid (HB.out.trans (hb.mono HB.out.size))
  have Pp1 := Lib.hid hP
  have Rp1 := Lib.hid hR
  have lp1 : p1.length ≤ 31 := by have := hP.le; omega
  clear hP hR
  clear hb
  go_wp2_with fail
  refine (put_up Ap1 cp1 p1 a1 a3 _ Rp1.out Pp1.out.1 hcp1 (by omega)).mono ?_
  rintro e v4 ⟨Ap2, cp2, p2, rfl, hP, hR, hcp2, hb⟩
  have R0 := Lib.hid (R0.out.up hb)
  have RX := Lib.hid (RX.out.up hb)
  have Rp1 := Lib.hid (Rp1.out.up hb)
  have HB := Lib.hid (HB.out.trans (hb.mono HB.out.size))
  have Pp2 := Lib.hid hP
  have Rp2 := Lib.hid hR
  have lp2 : p2.length ≤ 32 := by have := hP.le; omega
  clear hP hR
  clear hb
  go_wp2_with fail
  refine (put_up A1 c1 x a1 a3 _ RX.out AX.out hcx (by omega)).mono ?_
  rintro e v5 ⟨Ap3, cp3, p3, rfl, hP, hR, hcp3, hb⟩
  have R0 := Lib.hid (R0.out.up hb)
  have RX := Lib.hid (RX.out.up hb)
  have Rp1 := Lib.hid (Rp1.out.up hb)
  have Rp2 := Lib.hid (Rp2.out.up hb)
  have HB := Lib.hid (HB.out.trans (hb.mono HB.out.size))
  have Pp3 := Lib.hid hP
  have Rp3 := Lib.hid hR
  have lp3 : p3.length ≤ 31 := by have := hP.le; omega
  clear hP hR
  clear hb
  go_wp2_with fail
  refine (equal_up Ap2 cp2 Ap3 cp3 p2 p3 _ Rp2.out Rp3.out (by omega) (put_put Pp1.out Pp2.out Pp3.out)).mono ?_
  rintro e v6 ⟨rfl, hb⟩
  have R0 := Lib.hid (R0.out.up hb)
  have RX := Lib.hid (RX.out.up hb)
  have Rp1 := Lib.hid (Rp1.out.up hb)
  have Rp2 := Lib.hid (Rp2.out.up hb)
  have Rp3 := Lib.hid (Rp3.out.up hb)
  have HB := Lib.hid (HB.out.trans (hb.mono HB.out.size))
  clear hb
  by_cases hk : a1 = a2
  · have tk : (a1.toList == a2.toList) = true := by rw [hk]; exact beq_self_eq_true _
    clear hk
    go_wp2
    go_ret
    exact ⟨rfl, HB.out⟩
  · have tk : (a1.toList == a2.toList) = false := by rw [beq_eq_false_iff_ne, Lib.toList_data, Lib.toList_data]; exact fun e => hk (key_ext e)
    have HK := Lib.hid hk
    clear hk
    go_wp2_with fail
    refine (put_up A1 c1 x a1 a3 _ RX.out AX.out hcx (by omega)).mono ?_
    rintro e v7 ⟨Ap4, cp4, p4, rfl, hP, hR, hcp4, hb⟩
    have R0 := Lib.hid (R0.out.up hb)
    have RX := Lib.hid (RX.out.up hb)
    have HB := Lib.hid (HB.out.trans (hb.mono HB.out.size))
    have Pp4 := Lib.hid hP
    have Rp4 := Lib.hid hR
    have lp4 : p4.length ≤ 31 := by have := hP.le; omega
    clear hP hR
    clear hb
    go_wp2_with fail
    refine (put_up Ap4 cp4 p4 a2 a4 _ Rp4.out Pp4.out.1 hcp4 (by omega)).mono ?_
    rintro e v8 ⟨Ap5, cp5, p5, rfl, hP, hR, hcp5, hb⟩
    have R0 := Lib.hid (R0.out.up hb)
    have RX := Lib.hid (RX.out.up hb)
    have Rp4 := Lib.hid (Rp4.out.up hb)
    have HB := Lib.hid (HB.out.trans (hb.mono HB.out.size))
    have Pp5 := Lib.hid hP
    have Rp5 := Lib.hid hR
    have lp5 : p5.length ≤ 32 := by have := hP.le; omega
    clear hP hR
    clear hb
    go_wp2_with fail
    refine (put_up A1 c1 x a2 a4 _ RX.out AX.out hcx (by omega)).mono ?_
    rintro e v9 ⟨Ap6, cp6, p6, rfl, hP, hR, hcp6, hb⟩
    have R0 := Lib.hid (R0.out.up hb)
    have RX := Lib.hid (RX.out.up hb)
    have Rp4 := Lib.hid (Rp4.out.up hb)
    have Rp5 := Lib.hid (Rp5.out.up hb)
    have HB := Lib.hid (HB.out.trans (hb.mono HB.out.size))
    have Pp6 := Lib.hid hP
    have Rp6 := Lib.hid hR
    have lp6 : p6.length ≤ 31 := by have := hP.le; omega
    clear hP hR
    clear hb
    go_wp2_with fail
    refine (put_up Ap6 cp6 p6 a1 a3 _ Rp6.out Pp6.out.1 hcp6 (by omega)).mono ?_
    rintro e v10 ⟨Ap7, cp7, p7, rfl, hP, hR, hcp7, hb⟩
    have R0 := Lib.hid (R0.out.up hb)
    have RX := Lib.hid (RX.out.up hb)
    have Rp4 := Lib.hid (Rp4.out.up hb)
    have Rp5 := Lib.hid (Rp5.out.up hb)
    have Rp6 := Lib.hid (Rp6.out.up hb)
    have HB := Lib.hid (HB.out.trans (hb.mono HB.out.size))
    have Pp7 := Lib.hid hP
    have Rp7 := Lib.hid hR
    have lp7 : p7.length ≤ 32 := by have := hP.le; omega
    clear hP hR
    clear hb
    go_wp2_with fail
    refine (equal_up Ap5 cp5 Ap7 cp7 p5 p7 _ Rp5.out Rp7.out (by omega) (put_comm HK.out Pp4.out Pp5.out Pp6.out Pp7.out)).mono ?_
    rintro e v11 ⟨rfl, hb⟩
    have R0 := Lib.hid (R0.out.up hb)
    have RX := Lib.hid (RX.out.up hb)
    have Rp4 := Lib.hid (Rp4.out.up hb)
    have Rp5 := Lib.hid (Rp5.out.up hb)
    have Rp6 := Lib.hid (Rp6.out.up hb)
    have Rp7 := Lib.hid (Rp7.out.up hb)
    have HB := Lib.hid (HB.out.trans (hb.mono HB.out.size))
    clear hb
    go_wp2_with fail
    refine (put_up A1 c1 x a1 a3 _ RX.out AX.out hcx (by omega)).mono ?_
    rintro e v12 ⟨Ap8, cp8, p8, rfl, hP, hR, hcp8, hb⟩
    have R0 := Lib.hid (R0.out.up hb)
    have RX := Lib.hid (RX.out.up hb)
    have HB := Lib.hid (HB.out.trans (hb.mono HB.out.size))
    have Pp8 := Lib.hid hP
    have Rp8 := Lib.hid hR
    have lp8 : p8.length ≤ 31 := by have := hP.le; omega
    clear hP hR
    clear hb
    go_wp2_with fail
    refine (drop_up Ap8 cp8 p8 a2 _ Rp8.out Pp8.out.1 hcp8 (by omega)).mono ?_
    rintro e v13 ⟨Aq1, cq1, q1, rfl, hP, hR, hcq1, hb⟩
    have R0 := Lib.hid (R0.out.up hb)
    have RX := Lib.hid (RX.out.up hb)
    have Rp8 := Lib.hid (Rp8.out.up hb)
    have HB := Lib.hid (HB.out.trans (hb.mono HB.out.size))
    have Pq1 := Lib.hid hP
    have Rq1 := Lib.hid hR
    have lq1 : q1.length ≤ 31 := by have := hP.le; omega
    clear hP hR
    clear hb
    go_wp2_with fail
    refine (drop_up A1 c1 x a2 _ RX.out AX.out hcx (by omega)).mono ?_
    rintro e v14 ⟨Aq2, cq2, q2, rfl, hP, hR, hcq2, hb⟩
    have R0 := Lib.hid (R0.out.up hb)
    have RX := Lib.hid (RX.out.up hb)
    have Rp8 := Lib.hid (Rp8.out.up hb)
    have Rq1 := Lib.hid (Rq1.out.up hb)
    have HB := Lib.hid (HB.out.trans (hb.mono HB.out.size))
    have Pq2 := Lib.hid hP
    have Rq2 := Lib.hid hR
    have lq2 : q2.length ≤ 30 := by have := hP.le; omega
    clear hP hR
    clear hb
    go_wp2_with fail
    refine (put_up Aq2 cq2 q2 a1 a3 _ Rq2.out Pq2.out.1 hcq2 (by omega)).mono ?_
    rintro e v15 ⟨Ap9, cp9, p9, rfl, hP, hR, hcp9, hb⟩
    have R0 := Lib.hid (R0.out.up hb)
    have RX := Lib.hid (RX.out.up hb)
    have Rp8 := Lib.hid (Rp8.out.up hb)
    have Rq1 := Lib.hid (Rq1.out.up hb)
    have Rq2 := Lib.hid (Rq2.out.up hb)
    have HB := Lib.hid (HB.out.trans (hb.mono HB.out.size))
    have Pp9 := Lib.hid hP
    have Rp9 := Lib.hid hR
    have lp9 : p9.length ≤ 31 := by have := hP.le; omega
    clear hP hR
    clear hb
    go_wp2_with fail
    refine (equal_up Aq1 cq1 Ap9 cp9 q1 p9 _ Rq1.out Rp9.out (by omega) (put_drop HK.out Pp8.out Pq1.out Pq2.out Pp9.out)).mono ?_
    rintro e v16 ⟨rfl, hb⟩
    have R0 := Lib.hid (R0.out.up hb)
    have RX := Lib.hid (RX.out.up hb)
    have Rp8 := Lib.hid (Rp8.out.up hb)
    have Rq1 := Lib.hid (Rq1.out.up hb)
    have Rq2 := Lib.hid (Rq2.out.up hb)
    have Rp9 := Lib.hid (Rp9.out.up hb)
    have HB := Lib.hid (HB.out.trans (hb.mono HB.out.size))
    clear hb
    go_wp2
    go_ret
    exact ⟨rfl, HB.out⟩

/-! ### THE ROW's STEP: WRITTEN OUT: LEAVE IT -/
set_option maxRecDepth 100000 in
theorem lifted (os : Os) (started : os.Started) (H : Type) (enc : TypeId × Value → H) :
    ReturnsInHanded {} Try.checked os 5 .any (Rows.pairsCommuteSpec.pre6 enc Try.prog Try.f5 Rows.pairsCommuteRow.domain false) (Rows.pairsCommuteSpec.post enc Try.prog Try.f5 false true false false) := by
  refine returnsInHanded_of_change (C := Try.checked) own started (by kernel_rfl) Try.func5
    (ChangeSpec.witness6 (enc := enc) (C := Try.checked) false ⟨#[], #[.slice none 0 0, .string ByteArray.empty, .string ByteArray.empty, .int .u64 0, .int .u64 0], []⟩ 8 (by kernel_rfl) (by kernel_rfl) (by kernel_rfl) (by kernel_rfl)) ?_
  intro W base args ds gs before hval0 hW hcnd _
  have hval : ∀ (j : Nat) t v, Try.f5.params[j]? = some t → args[j]? = some v → Value.okWide Try.prog W .any base t v := hval0
  have hW' := hW
  obtain ⟨p, q, hA0, hV, rfl, hfz, hnd⟩ := hW
  have hA : DataW.TrodAll enc Try.prog W 0 (fun _ => true) true Try.f5.params.toList args.toList ds p := hA0
  rw [Try.params5] at hA hval
  obtain ⟨v0, vs0, d0, ds0, p0, q0, hargs, rfl, rfl, h0, r0⟩ := trodAll_cons hA
  obtain ⟨v1, vs1, d1, ds1, p1, q1, rfl, rfl, rfl, h1, r1⟩ := trodAll_cons r0
  obtain ⟨v2, vs2, d2, ds2, p2, q2, rfl, rfl, rfl, h2, r2⟩ := trodAll_cons r1
  obtain ⟨v3, vs3, d3, ds3, p3, q3, rfl, rfl, rfl, h3, r3⟩ := trodAll_cons r2
  obtain ⟨v4, vs4, d4, ds4, p4, q4, rfl, rfl, rfl, h4, r4⟩ := trodAll_cons r3
  obtain ⟨rfl, rfl, rfl⟩ := trodAll_nil r4
  obtain rfl : args = #[v0, v1, v2, v3, v4] := by cases args; simp_all
  obtain ⟨rfl, rfl⟩ := trodVars_none hV
  obtain ⟨a0, len0, cap0, rfl⟩ := okWide_slice Try.underlying22 (hval 0 22 v0 rfl rfl)
  have k0 := h0
  have lt0 : ∀ x ∈ p0, x.block < W.heap.size := by obtain ⟨m, hm⟩ := k0; exact DataW.trod_lt m _ _ _ hm
  obtain ⟨z0, w0⟩ := open_list h0
  obtain ⟨a1, rfl, rfl, rfl, w1⟩ := open_string Try.underlying9 (hval 1 9 v1 rfl rfl) h1
  obtain ⟨a2, rfl, rfl, rfl, w2⟩ := open_string Try.underlying9 (hval 2 9 v2 rfl rfl) h2
  obtain ⟨a3, rfl, rfl, rfl, w3⟩ := open_int Try.underlying24 (hval 3 24 v3 rfl rfl) h3
  obtain ⟨a4, rfl, rfl, rfl, w4⟩ := open_int Try.underlying24 (hval 4 24 v4 rfl rfl) h4
  clear hA0 hval0
  refine (walk a0 len0 cap0 z0 a1 a2 a3 a4 W w0 w1 w2 w3 w4).mono fun e W' ⟨he, bel⟩ => ?_
  subst he
  exact ⟨_, rfl, _, _, _, [], _, [], hW', trodAll_mk1 (shut_bool Try.underlying4 _), (trodAll_cons_mk (Below.trod laidOut (by kernel_rfl) (of_decide_eq_true (by kernel_rfl)) k0 bel lt0) (trodAll_cons_mk (shut_string Try.underlying9 w1) (trodAll_cons_mk (shut_string Try.underlying9 w2) (trodAll_cons_mk (shut_int Try.underlying24 w3) (trodAll_cons_mk (shut_int Try.underlying24 w4) trodAll_mk0))))), rfl, bel.frame _, fun h => by cases h⟩

theorem over : Rows.pairsCommuteRow.holds Try.pinned (OpenSpec.ofChange Rows.pairsCommuteSpec) :=
  OpenClaim.holds_of_wide 5 Try.f5 rfl rfl rfl rfl rfl rfl rfl ⟨rfl, rfl, rfl, rfl, rfl⟩ rfl rfl rfl rfl rfl (by kernel_rfl) Try.func5 (by kernel_rfl)
    (of_decide_eq_true (by kernel_rfl)) (by unfold Func.isWrapper; first | (rw [if_pos (by decide +kernel)]; kernel_rfl) | (rw [if_neg (by decide +kernel)]; exact ⟨rfl, rfl⟩))
    (fun os started H enc _ => lifted os started H enc)

/-- ████ THE STATEMENT ████ -/
theorem proved : Rows.PairsCommuteSaid := over
#print axioms proved
end Go.Proofs.Ytpjfeaccicmgoaa.pairsCommute
