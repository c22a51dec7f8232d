/- For every input the Go function PairsExact of package ctrielaw03 returns true, and each argument reads afterwards as it read before. Conditions: none but those that every row of the form bears by itself. The frame was written by the guide's proof-skeleton and turned to slices of pairs; the walk is ours. -/
import Derived.Test.YtpjfeaccicmgoaaRows
import Derived.WalkKit
import Derived.ProofKit
import Derived.OpenShut
import Derived.ShutString
import Derived.ChangeOld
import Derived.Below
import Derived.Test.YtpjfeaccicmgoaaFrame
import Derived.Test.YtpjfeaccicmgoaaWalksN
import Derived.Test.YtpjfeaccicmgoaaWalksO
import Derived.Lib.Hide
namespace Go.Proofs.Ytpjfeaccicmgoaa.pairsExact
open Go.Lib
open Go.ChangeShapes Go.WideShapes Go.ChangeAt Go.RowKit
open Go.ChangeMaps (open_string shut_string)
set_option linter.unusedVariables false

theorem own : ownKnob Try.prog.godebug = none := by kernel_rfl
theorem laidOut : laidOutB Try.prog = true := by kernel_rfl

/-- WHAT THE WALK IS TOLD OF A SLICE OF INTEGERS THAT CAME IN: it is nil; or it leads to a row of 'cap' cells, the numbers 'zs' (the first 'len' are its elements, the rest its spare room), each fitting its kind. -/
def IsRow (k : IntKind) (w : World) (a : Option Addr) (len cap : Nat) (zs : List Int) : Prop :=
  (a = none ∧ len = 0 ∧ cap = 0 ∧ zs = []) ∨
  ∃ x, a = some x ∧ len ≤ cap ∧ cap ≤ maxLen ∧ zs.length = cap ∧ (∀ i, i < zs.length → w.cell? (x.add i) = some (.int k (zs.getD i 0))) ∧ ∀ n ∈ zs, (Lit.int k n).wf = true

/-! ### STEP 1: THE WALK: the Go text returns true, AND WRITES NOTHING THAT WAS THERE: 'Below w.heap.size w w'' (Derived/Below.lean: '.refl', '.alloc', '.drew', '.setCell' at a new block, '.trans'). Open each 'IsRow' by 'rcases' AHEAD of 'go_enter'; part every test ahead of the walk. -/
theorem walk (a0 : Option Addr) (len0 cap0 : Nat) (z0 : List Pr) (a1 : Option Addr) (len1 cap1 : Nat) (z1 : List Int) (a2 : ByteArray) (a3 : Int) (w : World) (w0 : IsList w a0 len0 cap0 z0) (w1 : IsRow .i64 w a1 len1 cap1 z1) (w2 : a2.size ≤ maxLen) (w3 : (Lit.int .u64 a3).wf = true) :
    Calls Try.prog 3 #[.slice a0 len0 cap0, .slice a1 len1 cap1, .string a2, .int .u64 a3] w fun e w' => e = .returned (.bool true) ∧ Below w.heap.size w w' := by
  have HZ : len1 ≤ maxLen ∧ ∀ j, j < len1 → ∃ ad z, a1 = some ad ∧ w.cell? (ad.add j) = some (.int .i64 z) := by
    rcases w1 with ⟨rfl, rfl, rfl, rfl⟩ | ⟨q, rfl, h1, h2, h3, h4, _⟩
    · exact ⟨Nat.zero_le _, fun j hj => by omega⟩
    · exact ⟨by omega, fun j hj => ⟨q, _, rfl, h4 j (by omega)⟩⟩
  have cnew := Lib.hid (new_any a1 len1 cap1 w HZ.1 HZ.2)
  clear HZ w1
  obtain ⟨rfl, hc0, hR0⟩ := w0
  obtain ⟨y0, hy0⟩ : ∃ y, y = z0.take 30 := ⟨_, rfl⟩
  have cfirst := first_any a0 cap0 z0 w hc0
  rw [← hy0] at cfirst
  have R0 := Lib.hid (hR0.take 30)
  rw [← hy0] at R0
  have hy : y0.length ≤ 30 := by rw [hy0]; simp; omega
  have hyc : y0.length ≤ cap0 := by rw [hy0]; simp; omega
  have RY0 := R0
  have HB := Lib.hid (Below.refl w.heap.size w)
  clear hy0 hR0
  go_enter Try.func3, Try.ntmps3
  go_wp2_with (go_at_call 8; refine cfirst.mono ?_; rintro e w9 ⟨rfl, rfl⟩)
  clear cfirst
  refine cnew.out.mono ?_
  rintro e u1 ⟨rfl, hT, hb⟩
  have T1 := Lib.hid hT
  have hs1 := hb.size
  have R0 := Lib.hid (R0.out.up hb)
  have HB := Lib.hid (HB.out.trans (hb.mono HB.out.size))
  clear hT hb cnew
  go_wp2_with fail
  refine (pairs_any w.heap.size u1 T1.out).mono ?_
  rintro e u2 ⟨A1, c1, ps, rfl, hl, hR, hT, hg⟩
  have T2 := Lib.hid hT
  have RP := Lib.hid hR
  have HB2 := Lib.hid (below_of_grown hg (Nat.le_refl _) hs1)
  have RY : Hid (Rd u2 w.heap.size a0 y0) := (RY0.out.below HB.out).below HB2.out
  have HB := Lib.hid (HB.out.trans HB2.out)
  have hT2 := T2.out.lt
  clear hT hR hg R0 T1
  go_wp2_with fail
  refine (refOf_any A1 c1 ps u2 RP.out (by omega)).mono ?_
  rintro e u3 ⟨x, hP, vx, rfl, hO, hb⟩
  have lx : x.length ≤ 30 := by have := hP.2.2; omega
  obtain ⟨Ax, cx, rfl, _, _, hcx⟩ := hO.open2
  have OX := Lib.hid hO
  have T3 := Lib.hid (T2.out.below hb hT2)
  have RY := Lib.hid (RY.out.below (hb.mono HB.out.size))
  have HB := Lib.hid (HB.out.trans (hb.mono HB.out.size))
  clear hP hO hb RP
  go_wp2_with fail
  refine (awake_any _).mono ?_
  rintro e v1 ⟨rfl, hb⟩
  have OX := Lib.hid (OX.out.below hb (Nat.le_refl _))
  have T3 := Lib.hid (T3.out.below hb T3.out.lt)
  have RY := Lib.hid (RY.out.below (hb.mono HB.out.size))
  have HB := Lib.hid (HB.out.trans (hb.mono HB.out.size))
  clear hb
  go_wp2_with fail
  refine (agrees_any a0 cap0 y0 a2 a3 _ (RY.out.more HB.out.size) hyc hy).mono ?_
  rintro e v2 ⟨rfl, hb⟩
  have OX := Lib.hid (OX.out.below hb (Nat.le_refl _))
  have T3 := Lib.hid (T3.out.below hb T3.out.lt)
  have RY := Lib.hid (RY.out.below (hb.mono HB.out.size))
  have HB := Lib.hid (HB.out.trans (hb.mono HB.out.size))
  clear hb
  go_wp2_with fail
  refine (refOf_up a0 cap0 y0 _ (RY.out.more HB.out.size) (by omega)).mono ?_
  rintro e v3 ⟨Az, cz, z, rfl, hP, hR, hcz, hb⟩
  have OX := Lib.hid (OX.out.below hb (Nat.le_refl _))
  have T3 := Lib.hid (T3.out.below hb T3.out.lt)
  have RY := Lib.hid (RY.out.below (hb.mono HB.out.size))
  have HB := Lib.hid (HB.out.trans (hb.mono HB.out.size))
  have RZ := Lib.hid hR
  have lz : z.length ≤ 30 := by have := hP.2.2; omega
  clear hP hR
  clear hb
  go_wp2_with fail
  refine (agrees_any Az cz z a2 a3 _ RZ.out hcz lz).mono ?_
  rintro e v4 ⟨rfl, hb⟩
  have OX := Lib.hid (OX.out.below hb (Nat.le_refl _))
  have T3 := Lib.hid (T3.out.below hb T3.out.lt)
  have RY := Lib.hid (RY.out.below (hb.mono HB.out.size))
  have HB := Lib.hid (HB.out.trans (hb.mono HB.out.size))
  clear RZ
  clear hb
  go_wp2_with fail
  refine (key_any w.heap.size _ T3.out).mono ?_
  rintro e u5 ⟨ks, rfl, hT, hg⟩
  have OX := Lib.hid (OX.out.grown hT2 hg)
  have HB := Lib.hid (HB.out.trans (below_of_grown hg (Nat.le_refl _) HB.out.size))
  clear hT hg T3 RY
  go_wp2_with fail
  refine (agrees_any Ax cx x ks a3 u5 OX.out.rd hcx lx).mono ?_
  rintro e u6 ⟨rfl, hb⟩
  have HB := Lib.hid (HB.out.trans (hb.mono HB.out.size))
  clear hb OX
  go_wp2
  go_ret
  exact ⟨rfl, HB.out⟩

/-! ### THE ROW's STEP: WRITTEN OUT: LEAVE IT -/
set_option maxRecDepth 100000 in
theorem lifted (os : Os) (started : os.Started) (H : Type) (enc : TypeId × Value → H) :
    ReturnsInHanded {} Try.checked os 3 .any (Rows.pairsExactSpec.pre6 enc Try.prog Try.f3 Rows.pairsExactRow.domain false) (Rows.pairsExactSpec.post enc Try.prog Try.f3 false true false false) := by
  refine returnsInHanded_of_change (C := Try.checked) own started (by kernel_rfl) Try.func3
    (ChangeSpec.witness6 (enc := enc) (C := Try.checked) false ⟨#[], #[.slice none 0 0, .slice none 0 0, .string ByteArray.empty, .int .u64 0], []⟩ 8 (by kernel_rfl) (by kernel_rfl) (by kernel_rfl) (by kernel_rfl)) ?_
  intro W base args ds gs before hval0 hW hcnd _
  have hval : ∀ (j : Nat) t v, Try.f3.params[j]? = some t → args[j]? = some v → Value.okWide Try.prog W .any base t v := hval0
  have hW' := hW
  obtain ⟨p, q, hA0, hV, rfl, hfz, hnd⟩ := hW
  have hA : DataW.TrodAll enc Try.prog W 0 (fun _ => true) true Try.f3.params.toList args.toList ds p := hA0
  rw [Try.params3] at hA hval
  obtain ⟨v0, vs0, d0, ds0, p0, q0, hargs, rfl, rfl, h0, r0⟩ := trodAll_cons hA
  obtain ⟨v1, vs1, d1, ds1, p1, q1, rfl, rfl, rfl, h1, r1⟩ := trodAll_cons r0
  obtain ⟨v2, vs2, d2, ds2, p2, q2, rfl, rfl, rfl, h2, r2⟩ := trodAll_cons r1
  obtain ⟨v3, vs3, d3, ds3, p3, q3, rfl, rfl, rfl, h3, r3⟩ := trodAll_cons r2
  obtain ⟨rfl, rfl, rfl⟩ := trodAll_nil r3
  obtain rfl : args = #[v0, v1, v2, v3] := by cases args; simp_all
  obtain ⟨rfl, rfl⟩ := trodVars_none hV
  obtain ⟨a0, len0, cap0, rfl⟩ := okWide_slice Try.underlying22 (hval 0 22 v0 rfl rfl)
  have k0 := h0
  have lt0 : ∀ x ∈ p0, x.block < W.heap.size := by obtain ⟨m, hm⟩ := k0; exact DataW.trod_lt m _ _ _ hm
  obtain ⟨z0, w0⟩ := open_list h0
  obtain ⟨a1, len1, cap1, rfl⟩ := okWide_slice Try.underlying23 (hval 1 23 v1 rfl rfl)
  have k1 := h1
  have lt1 : ∀ x ∈ p1, x.block < W.heap.size := by obtain ⟨m, hm⟩ := k1; exact DataW.trod_lt m _ _ _ hm
  obtain ⟨z1, w1⟩ : ∃ zs, IsRow .i64 W a1 len1 cap1 zs := by
    obtain ⟨fuel, hf⟩ := h1
    rcases open_ints Try.underlying23 Try.underlying3 (by kernel_rfl) hf with ⟨hcs, _⟩ | ⟨x, l, c, zs, hcs, _, hl, hm, hz, _, hcell, hwz⟩
    · simp [Value.cells] at hcs
      obtain ⟨rfl, rfl, rfl⟩ := hcs
      exact ⟨[], .inl ⟨rfl, rfl, rfl, rfl⟩⟩
    · simp [Value.cells] at hcs
      obtain ⟨rfl, rfl, rfl⟩ := hcs
      exact ⟨zs, .inr ⟨_, rfl, hl, hm, by simpa using hz, hcell, hwz⟩⟩
  obtain ⟨a2, rfl, rfl, rfl, w2⟩ := open_string Try.underlying9 (hval 2 9 v2 rfl rfl) h2
  obtain ⟨a3, rfl, rfl, rfl, w3⟩ := open_int Try.underlying24 (hval 3 24 v3 rfl rfl) h3
  clear hA0 hval0
  refine (walk a0 len0 cap0 z0 a1 len1 cap1 z1 a2 a3 W w0 w1 w2 w3).mono fun e W' ⟨he, bel⟩ => ?_
  subst he
  exact ⟨_, rfl, _, _, _, [], _, [], hW', trodAll_mk1 (shut_bool Try.underlying4 _), (trodAll_cons_mk (Below.trod laidOut (by kernel_rfl) (of_decide_eq_true (by kernel_rfl)) k0 bel lt0) (trodAll_cons_mk (Below.trod laidOut (by kernel_rfl) (of_decide_eq_true (by kernel_rfl)) k1 bel lt1) (trodAll_cons_mk (shut_string Try.underlying9 w2) (trodAll_cons_mk (shut_int Try.underlying24 w3) trodAll_mk0)))), rfl, bel.frame _, fun h => by cases h⟩

theorem over : Rows.pairsExactRow.holds Try.pinned (OpenSpec.ofChange Rows.pairsExactSpec) :=
  OpenClaim.holds_of_wide 3 Try.f3 rfl rfl rfl rfl rfl rfl rfl ⟨rfl, rfl, rfl, rfl, rfl⟩ rfl rfl rfl rfl rfl (by kernel_rfl) Try.func3 (by kernel_rfl)
    (of_decide_eq_true (by kernel_rfl)) (by unfold Func.isWrapper; first | (rw [if_pos (by decide +kernel)]; kernel_rfl) | (rw [if_neg (by decide +kernel)]; exact ⟨rfl, rfl⟩))
    (fun os started H enc _ => lifted os started H enc)

/-- ████ THE STATEMENT ████ -/
theorem proved : Rows.PairsExactSaid := over
#print axioms proved
end Go.Proofs.Ytpjfeaccicmgoaa.pairsExact
