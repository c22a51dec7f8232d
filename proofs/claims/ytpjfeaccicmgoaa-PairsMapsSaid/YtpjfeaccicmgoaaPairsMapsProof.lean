/- For every input the Go function PairsMaps of package ctrielaw03 returns true, and each argument reads afterwards as it read before. Conditions: none but those that every row of the form bears by itself. The frame was written by the guide's proof-skeleton and turned to slices of pairs; the walk is ours. -/
import Derived.Test.YtpjfeaccicmgoaaRows
import Derived.WalkKit
import Derived.ProofKit
import Derived.OpenShut
import Derived.ShutString
import Derived.ChangeOld
import Derived.Below
import Derived.Test.YtpjfeaccicmgoaaFrame
import Derived.Test.YtpjfeaccicmgoaaWalksJ
import Derived.Lib.Hide
namespace Go.Proofs.Ytpjfeaccicmgoaa.pairsMaps
open Go.Lib
open Go.ChangeShapes Go.WideShapes Go.ChangeAt Go.RowKit
open Go.ChangeMaps (open_string shut_string)
set_option linter.unusedVariables false

theorem own : ownKnob Try.prog.godebug = none := by kernel_rfl
theorem laidOut : laidOutB Try.prog = true := by kernel_rfl

/-! ### STEP 1: THE WALK: the Go text returns true, AND WRITES NOTHING THAT WAS THERE: 'Below w.heap.size w w'' (Derived/Below.lean: '.refl', '.alloc', '.drew', '.setCell' at a new block, '.trans'). Open each 'IsRow' by 'rcases' AHEAD of 'go_enter'; part every test ahead of the walk. -/
theorem walk (a0 : Option Addr) (len0 cap0 : Nat) (z0 : List Pr) (a1 : ByteArray) (a2 : ByteArray) (a3 : Int) (w : World) (w0 : IsList w a0 len0 cap0 z0) (w1 : a1.size ≤ maxLen) (w2 : a2.size ≤ maxLen) (w3 : (Lit.int .u64 a3).wf = true) :
    Calls Try.prog 4 #[.slice a0 len0 cap0, .string a1, .string a2, .int .u64 a3] w fun e w' => e = .returned (.bool true) ∧ Below w.heap.size w w' := by
  obtain ⟨rfl, hc0, hR0⟩ := w0
  obtain ⟨y0, hy0⟩ : ∃ y, y = z0.take 30 := ⟨_, rfl⟩
  have cfirst := first_any a0 cap0 z0 w hc0
  rw [← hy0] at cfirst
  have R0 := Lib.hid (hR0.take 30)
  rw [← hy0] at R0
  have hy : y0.length ≤ 30 := by rw [hy0]; simp; omega
  have hyc : y0.length ≤ cap0 := by rw [hy0]; simp; omega
  have HB := Lib.hid (Below.refl w.heap.size w)
  clear hy0 hR0
  have tv : (a3 != a3) = false := by simp
  go_enter Try.func4, Try.ntmps4
  go_wp2_with (go_at_call 8; refine cfirst.mono ?_; rintro e w9 ⟨rfl, rfl⟩)
  clear cfirst
  refine (of_up a0 cap0 y0 _ R0.out (by omega)).mono ?_
  rintro e v1 ⟨A1, c1, x, rfl, hP, hR, hcx, hb⟩
  have R0 := Lib.hid (R0.out.up hb)
  have HB := Lib.hid (HB.out.trans (hb.mono HB.out.size))
  have XO := Lib.hid hP
  have RX := Lib.hid hR
  have AX := Lib.hid hP.1
  have lx : x.length ≤ 30 := Nat.le_trans hP.2.2 hy
  clear hP hR
  clear hb
  go_wp2_with fail
  refine (put_up A1 c1 x a1 a3 _ RX.out AX.out hcx (by omega)).mono ?_
  rintro e v2 ⟨A2, c2, p, rfl, hP, hR, hcp, hb⟩
  have R0 := Lib.hid (R0.out.up hb)
  have RX := Lib.hid (RX.out.up hb)
  have HB := Lib.hid (HB.out.trans (hb.mono HB.out.size))
  have Pp := Lib.hid hP
  have Rp := Lib.hid hR
  have lp : p.length ≤ 32 := by have := hP.le; omega
  clear hP hR
  clear hb
  go_wp2_with fail
  refine (drop_up A1 c1 x a1 _ RX.out AX.out hcx (by omega)).mono ?_
  rintro e v3 ⟨A3, c3, q, rfl, hP, hR, hcq, hb⟩
  have R0 := Lib.hid (R0.out.up hb)
  have RX := Lib.hid (RX.out.up hb)
  have Rp := Lib.hid (Rp.out.up hb)
  have HB := Lib.hid (HB.out.trans (hb.mono HB.out.size))
  have Pq := Lib.hid hP
  have Rq := Lib.hid hR
  have lq : q.length ≤ 32 := by have := hP.le; omega
  clear hP hR
  clear hb
  go_wp2_with fail
  refine (find_at A2 c2 p a1 _ Rp.out Pp.out.1 (by omega) a3 true (by rw [Pp.out.same]; rfl) (by rw [Pp.out.same]; rfl)).mono ?_
  rintro e v4 ⟨rfl, hb⟩
  have R0 := Lib.hid (R0.out.up hb)
  have RX := Lib.hid (RX.out.up hb)
  have Rp := Lib.hid (Rp.out.up hb)
  have Rq := Lib.hid (Rq.out.up hb)
  have HB := Lib.hid (HB.out.trans (hb.mono HB.out.size))
  clear hb
  go_wp2_with fail
  refine (find_at A3 c3 q a1 _ Rq.out Pq.out.1 (by omega) 0 false (by rw [Pq.out.same]; rfl) (by rw [Pq.out.same]; rfl)).mono ?_
  rintro e v5 ⟨rfl, hb⟩
  have R0 := Lib.hid (R0.out.up hb)
  have RX := Lib.hid (RX.out.up hb)
  have Rp := Lib.hid (Rp.out.up hb)
  have Rq := Lib.hid (Rq.out.up hb)
  have HB := Lib.hid (HB.out.trans (hb.mono HB.out.size))
  clear hb
  go_wp2_with fail
  refine (awake_any _).mono ?_
  rintro e v6 ⟨rfl, hb⟩
  have R0 := Lib.hid (R0.out.up hb)
  have RX := Lib.hid (RX.out.up hb)
  have Rp := Lib.hid (Rp.out.up hb)
  have Rq := Lib.hid (Rq.out.up hb)
  have HB := Lib.hid (HB.out.trans (hb.mono HB.out.size))
  clear hb
  go_wp2_with fail
  refine (valid_up A2 c2 p _ Rp.out (by omega) Pp.out.1).mono ?_
  rintro e v7 ⟨rfl, hb⟩
  have R0 := Lib.hid (R0.out.up hb)
  have RX := Lib.hid (RX.out.up hb)
  have Rp := Lib.hid (Rp.out.up hb)
  have Rq := Lib.hid (Rq.out.up hb)
  have HB := Lib.hid (HB.out.trans (hb.mono HB.out.size))
  clear hb
  go_wp2_with fail
  refine (valid_up A3 c3 q _ Rq.out (by omega) Pq.out.1).mono ?_
  rintro e v8 ⟨rfl, hb⟩
  have R0 := Lib.hid (R0.out.up hb)
  have RX := Lib.hid (RX.out.up hb)
  have Rp := Lib.hid (Rp.out.up hb)
  have Rq := Lib.hid (Rq.out.up hb)
  have HB := Lib.hid (HB.out.trans (hb.mono HB.out.size))
  clear hb
  go_wp2_with fail
  refine (valid_up A1 c1 x _ RX.out (by omega) AX.out).mono ?_
  rintro e v9 ⟨rfl, hb⟩
  have R0 := Lib.hid (R0.out.up hb)
  have RX := Lib.hid (RX.out.up hb)
  have Rp := Lib.hid (Rp.out.up hb)
  have Rq := Lib.hid (Rq.out.up hb)
  have HB := Lib.hid (HB.out.trans (hb.mono HB.out.size))
  clear hb
  by_cases hk : a1 = a2
  · have tk : (a1.toList == a2.toList) = true := by rw [hk]; exact beq_self_eq_true _
    clear hk
    go_wp2
    go_ret
    exact ⟨rfl, HB.out⟩
  · have tk : (a1.toList == a2.toList) = false := by rw [beq_eq_false_iff_ne, Lib.toList_data, Lib.toList_data]; exact fun e => hk (key_ext e)
    obtain ⟨g, hg⟩ : ∃ g, (lk x a2).getD 0 = g := ⟨_, rfl⟩
    obtain ⟨s, hs⟩ : ∃ s, (lk x a2).isSome = s := ⟨_, rfl⟩
    have HG := Lib.hid hg
    have HS := Lib.hid hs
    have HK := Lib.hid hk
    clear hg hs hk
    go_wp2_with fail
    refine (find_at A1 c1 x a2 _ RX.out AX.out (by omega) g s HG.out HS.out).mono ?_
    rintro e v10 ⟨rfl, hb⟩
    have R0 := Lib.hid (R0.out.up hb)
    have RX := Lib.hid (RX.out.up hb)
    have Rp := Lib.hid (Rp.out.up hb)
    have Rq := Lib.hid (Rq.out.up hb)
    have HB := Lib.hid (HB.out.trans (hb.mono HB.out.size))
    clear hb
    go_wp2_with fail
    refine (find_at A2 c2 p a2 _ Rp.out Pp.out.1 (by omega) g s (by rw [Pp.out.other (Ne.symm HK.out)]; exact HG.out) (by rw [Pp.out.other (Ne.symm HK.out)]; exact HS.out)).mono ?_
    rintro e v11 ⟨rfl, hb⟩
    have R0 := Lib.hid (R0.out.up hb)
    have RX := Lib.hid (RX.out.up hb)
    have Rp := Lib.hid (Rp.out.up hb)
    have Rq := Lib.hid (Rq.out.up hb)
    have HB := Lib.hid (HB.out.trans (hb.mono HB.out.size))
    clear hb
    go_wp2_with fail
    refine (find_at A3 c3 q a2 _ Rq.out Pq.out.1 (by omega) g s (by rw [Pq.out.other (Ne.symm HK.out)]; exact HG.out) (by rw [Pq.out.other (Ne.symm HK.out)]; exact HS.out)).mono ?_
    rintro e v12 ⟨rfl, hb⟩
    have R0 := Lib.hid (R0.out.up hb)
    have RX := Lib.hid (RX.out.up hb)
    have Rp := Lib.hid (Rp.out.up hb)
    have Rq := Lib.hid (Rq.out.up hb)
    have HB := Lib.hid (HB.out.trans (hb.mono HB.out.size))
    clear hb
    have ts : (s == s) = true := beq_self_eq_true s
    have tg : (g == g) = true := beq_self_eq_true g
    go_wp2
    go_ret
    exact ⟨rfl, HB.out⟩

/-! ### THE ROW's STEP: WRITTEN OUT: LEAVE IT -/
set_option maxRecDepth 100000 in
theorem lifted (os : Os) (started : os.Started) (H : Type) (enc : TypeId × Value → H) :
    ReturnsInHanded {} Try.checked os 4 .any (Rows.pairsMapsSpec.pre6 enc Try.prog Try.f4 Rows.pairsMapsRow.domain false) (Rows.pairsMapsSpec.post enc Try.prog Try.f4 false true false false) := by
  refine returnsInHanded_of_change (C := Try.checked) own started (by kernel_rfl) Try.func4
    (ChangeSpec.witness6 (enc := enc) (C := Try.checked) false ⟨#[], #[.slice none 0 0, .string ByteArray.empty, .string ByteArray.empty, .int .u64 0], []⟩ 8 (by kernel_rfl) (by kernel_rfl) (by kernel_rfl) (by kernel_rfl)) ?_
  intro W base args ds gs before hval0 hW hcnd _
  have hval : ∀ (j : Nat) t v, Try.f4.params[j]? = some t → args[j]? = some v → Value.okWide Try.prog W .any base t v := hval0
  have hW' := hW
  obtain ⟨p, q, hA0, hV, rfl, hfz, hnd⟩ := hW
  have hA : DataW.TrodAll enc Try.prog W 0 (fun _ => true) true Try.f4.params.toList args.toList ds p := hA0
  rw [Try.params4] at hA hval
  obtain ⟨v0, vs0, d0, ds0, p0, q0, hargs, rfl, rfl, h0, r0⟩ := trodAll_cons hA
  obtain ⟨v1, vs1, d1, ds1, p1, q1, rfl, rfl, rfl, h1, r1⟩ := trodAll_cons r0
  obtain ⟨v2, vs2, d2, ds2, p2, q2, rfl, rfl, rfl, h2, r2⟩ := trodAll_cons r1
  obtain ⟨v3, vs3, d3, ds3, p3, q3, rfl, rfl, rfl, h3, r3⟩ := trodAll_cons r2
  obtain ⟨rfl, rfl, rfl⟩ := trodAll_nil r3
  obtain rfl : args = #[v0, v1, v2, v3] := by cases args; simp_all
  obtain ⟨rfl, rfl⟩ := trodVars_none hV
  obtain ⟨a0, len0, cap0, rfl⟩ := okWide_slice Try.underlying22 (hval 0 22 v0 rfl rfl)
  have k0 := h0
  have lt0 : ∀ x ∈ p0, x.block < W.heap.size := by obtain ⟨m, hm⟩ := k0; exact DataW.trod_lt m _ _ _ hm
  obtain ⟨z0, w0⟩ := open_list h0
  obtain ⟨a1, rfl, rfl, rfl, w1⟩ := open_string Try.underlying9 (hval 1 9 v1 rfl rfl) h1
  obtain ⟨a2, rfl, rfl, rfl, w2⟩ := open_string Try.underlying9 (hval 2 9 v2 rfl rfl) h2
  obtain ⟨a3, rfl, rfl, rfl, w3⟩ := open_int Try.underlying24 (hval 3 24 v3 rfl rfl) h3
  clear hA0 hval0
  refine (walk a0 len0 cap0 z0 a1 a2 a3 W w0 w1 w2 w3).mono fun e W' ⟨he, bel⟩ => ?_
  subst he
  exact ⟨_, rfl, _, _, _, [], _, [], hW', trodAll_mk1 (shut_bool Try.underlying4 _), (trodAll_cons_mk (Below.trod laidOut (by kernel_rfl) (of_decide_eq_true (by kernel_rfl)) k0 bel lt0) (trodAll_cons_mk (shut_string Try.underlying9 w1) (trodAll_cons_mk (shut_string Try.underlying9 w2) (trodAll_cons_mk (shut_int Try.underlying24 w3) trodAll_mk0)))), rfl, bel.frame _, fun h => by cases h⟩

theorem over : Rows.pairsMapsRow.holds Try.pinned (OpenSpec.ofChange Rows.pairsMapsSpec) :=
  OpenClaim.holds_of_wide 4 Try.f4 rfl rfl rfl rfl rfl rfl rfl ⟨rfl, rfl, rfl, rfl, rfl⟩ rfl rfl rfl rfl rfl (by kernel_rfl) Try.func4 (by kernel_rfl)
    (of_decide_eq_true (by kernel_rfl)) (by unfold Func.isWrapper; first | (rw [if_pos (by decide +kernel)]; kernel_rfl) | (rw [if_neg (by decide +kernel)]; exact ⟨rfl, rfl⟩))
    (fun os started H enc _ => lifted os started H enc)

/-- ████ THE STATEMENT ████ -/
theorem proved : Rows.PairsMapsSaid := over
#print axioms proved
end Go.Proofs.Ytpjfeaccicmgoaa.pairsMaps
