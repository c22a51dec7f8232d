/- For every input the Go function DualRefuses of package ctrielaw08 returns true, and each argument reads afterwards as it read before. Conditions: none but those that every row of the form bears by itself. The frame follows the guide's proof-skeleton; the walk is ours. -/
import Derived.Test.YtkenhghaiedhnaaRows
import Derived.WalkKit
import Derived.ProofKit
import Derived.OpenShut
import Derived.ShutString
import Derived.ChangeOld
import Derived.Below
import Derived.Test.YtkenhghaiedhnaaFrame
import Derived.Test.YtkenhghaiedhnaaDuP
import Derived.Lib.Hide
import Derived.Deep.RegionHeld3
import Derived.Deep.DeepCutAuto
namespace Go.Proofs.Ytkenhghaiedhnaa.dualRefuses
open Go.Lib
open Go.ChangeShapes Go.WideShapes Go.ChangeAt Go.RowKit
open Go.ChangeMaps (open_string shut_string)
set_option linter.unusedVariables false

theorem own : ownKnob Try.prog.godebug = none := by kernel_rfl
theorem laidOut : laidOutB Try.prog = true := by kernel_rfl
open Go.Sort
set_option maxRecDepth 100000
attribute [local go_sem] run_field0
/-- The error where x is no single. -/
def errV (lv gn : Int) : Int := if lv < 0 ∨ 11 < lv ∨ gn < 1 then 2 else 1
theorem refuse_a {qa : Nat} {s : Sd} {x K : Int} {key : ByteArray} {val lv gn : Int} {w : World} (h : Ob w 0 74 qa s 0) (hk : (nodeV s x).kind ≠ 4) (hK : U64 K) :
    Calls Try.prog 8 #[.iface 24 (.pointer (some ⟨qa, 0, none⟩)), .int .i64 x, .int .u64 K, .string key, .int .u64 val, .int .i64 lv, .int .i64 gn] w fun e w' => e = .returned (.tuple #[.int .i64 0, .int .i64 (errV lv gn)]) ∧ RowKit.Below w.heap.size w w' := by
  unfold errV
  by_cases hr : lv < 0 ∨ 11 < lv ∨ gn < 1
  · rw [if_pos hr]
    exact (build_range qa x K key val lv gn w hr).mono fun e w' ⟨he, hw⟩ => ⟨he, hw ▸ Below.refl _ _⟩
  · rw [if_neg hr]
    obtain ⟨n, rfl⟩ : ∃ n : Nat, lv = (n : Int) := ⟨lv.toNat, by omega⟩
    exact build_bad 0 qa s 0 x K key val gn n 0 w h (by omega) (by omega) hK (fun h4 => absurd h4 hk) (fun hm => hk hm.1)
theorem refuse_m {qm : Nat} {s : Sd} {x K : Int} {key : ByteArray} {lv gn : Int} {w : World} (h : Ob w 0 40 qm s 0) (hk : (nodeV s x).kind ≠ 4) (hK : U64 K) :
    Calls Try.prog 17 #[.pointer (some ⟨qm, 0, none⟩), .int .i64 x, .int .u64 K, .string key, .int .i64 lv, .int .i64 gn] w fun e w' => e = .returned (.int .i64 (errV lv gn)) ∧ RowKit.Below w.heap.size w w' := by
  unfold errV
  by_cases hr : lv < 0 ∨ 11 < lv ∨ gn < 1
  · rw [if_pos hr]
    exact (err_range qm x K key lv gn w hr).mono fun e w' ⟨he, hw⟩ => ⟨he, hw ▸ Below.refl _ _⟩
  · rw [if_neg hr]
    exact (err_more 0 qm s 0 x K key 0 lv gn 0 w h (by omega) (by omega) (by omega) hK (fun h4 => absurd h4 hk)).mono fun e w' ⟨_, hn, hb⟩ => ⟨hn fun hm => hk hm.1, hb⟩
theorem errV_ne (lv gn : Int) : (errV lv gn != 0) = true := by
  unfold errV
  split <;> rfl
theorem rnode_lit {qm : Nat} {s : Sd} {x : Int} {n : Nd} {w : World} (h : Ob w 0 40 qm s 0) (hn : n = nodeV s x) : Calls Try.prog 16 #[.pointer (some ⟨qm, 0, none⟩), .int .i64 x] w fun e w' => e = .returned (.agg #[.int .i64 n.kind, .int .i64 n.gen, .int .i64 n.main, .int .u64 n.bm, .slice n.bA n.bs.length n.bc, .int .u64 n.hash, .string n.key, .int .u64 n.val, .slice n.pA n.ps.length n.pc, .int .i64 n.prev, .int .i64 n.old, .int .i64 n.exp, .int .i64 n.new, .int .i64 n.status]) ∧ RowKit.Below w.heap.size w w' := by
  subst hn
  exact (rnode_get 0 qm s 0 x w h).mono fun e w' hh => ⟨hh.1, hh.2⟩
theorem two_node {xs ys : Sd} {x : Int} (h : SameL xs.ns ys.ns) : sameN (nodeV xs x) (nodeV ys x) := by
  unfold nodeV
  rw [h.1]
  split
  · rename_i hx
    have h1 : (x - 1).toNat < ys.ns.length := by omega
    have e1 := List.getElem?_eq_getElem h1
    have e2 := List.getElem?_eq_getElem (by rw [h.1]; exact h1 : (x - 1).toNat < xs.ns.length)
    rw [e1, e2]
    exact h.2 _ _ _ e2 e1
  · exact sameN.refl _

/-! ### STEP 1: THE WALK -/
set_option maxRecDepth 100000 in
set_option maxHeartbeats 16000000 in
theorem walk (a0 : Option Addr) (len0 cap0 : Nat) (a1 : Int) (a2 : Int) (a3 : ByteArray) (a4 : Int) (a5 : Int) (w : World) (w0 : IsInts w a0 len0) (w1 : (Lit.int .i64 a1).wf = true) (w2 : (Lit.int .u64 a2).wf = true) (w3 : a3.size ≤ maxLen) (w4 : (Lit.int .i64 a4).wf = true) (w5 : (Lit.int .i64 a5).wf = true) :
    Calls Try.prog 4 #[.slice a0 len0 cap0, .int .i64 a1, .int .u64 a2, .string a3, .int .i64 a4, .int .i64 a5] w fun e w' => e = .returned (.bool true) ∧ Below w.heap.size w w' := by
  have mixed := mixedOrders
  have NW := Lib.hid (new_c a0 len0 cap0 w w0.1 w0.2)
  have HH := Lib.hid (u64_of_wf w2)
  have AW := Lib.hid (fun V => awake_any V)
  clear w0 w1 w2 w3 w4 w5
  go_enter Try.func4, Try.ntmps4
  go_upto_region 5 with (first
    | (go_at_call 12; refine NW.out.mono ?_; rintro e u1 ⟨rfl, hT, hb⟩; have B1 := Lib.hid hb; have MM := Lib.hid (mem_t w.heap.size u1 hT); have TL := Lib.hid hT.lt; clear hT hb)
    | (go_at_call 13; refine MM.out.mono ?_; rintro e u2 ⟨qm, sm, rfl, hob, hgs, hn9, hc9, hg, hT⟩; have B2 := Lib.hid (B1.out.trans (below_of_grown (B := w.heap.size) hg (Nat.le_refl _) B1.out.size)); have OM := Lib.hid hob; have L2 := Lib.hid (⟨hn9, hc9⟩ : _ ∧ _); have OF := Lib.hid (show Calls Try.prog 14 #[.agg #[.slice sm.nA sm.ns.length sm.nc, .slice sm.cA sm.cs.length sm.cc, .int .i64 sm.gen]] u2 _ from of_f sm u2.heap.size u2 hob.srd (Nat.le_refl _) hgs.proper); have d0 := block_cell hob.blk (i := 0) (v := .slice sm.nA sm.ns.length sm.nc) rfl; have d1 := block_cell hob.blk (i := 1) (v := .slice sm.cA sm.cs.length sm.cc) rfl; have d2 := block_cell hob.blk (i := 2) (v := .int .i64 sm.gen) rfl; clear hob hgs hn9 hc9 hg hT)
    | (go_at_call 14; refine OF.out.mono ?_; rintro e u3 ⟨qa, sa, rfl, hsl, hcs, hgn, hob, hfr, hb⟩; have B3 := Lib.hid (B2.out.trans (hb.mono B2.out.size)); have TW := Lib.hid (two_of OM.out hb hob hfr hsl hcs hgn); clear hob hfr hsl hcs hgn hb))
  clear NW MM OF d0 d1 d2 B1 B2 OM TL
  obtain ⟨r, hr, hmod⟩ := mod_any a1 (sm.ns.length + 3) (by omega) (by have := L2.out.1; omega)
  have MO := Lib.hid (fun V => by have h := hmod V; rw [show ((sm.ns.length + 3 : Nat) : Int) = (sm.ns.length : Int) + 3 by omega] at h; exact h)
  have j1 : IntKind.i64.wrap ((sm.ns.length : Int) + 3) = (sm.ns.length : Int) + 3 := by have := L2.out.1; rw [IntKind.wrap_i64]; omega
  have j2 : wrap64 ((sm.ns.length : Int) + 3) = (sm.ns.length : Int) + 3 := IntWalk.wrap64_in _ (by have := L2.out.1; omega)
  have m0 := block_cell TW.out.m.blk (i := 0) (v := .slice sm.nA sm.ns.length sm.nc) rfl
  obtain ⟨n, hn⟩ : ∃ n, n = nodeV sm r := ⟨_, rfl⟩
  have NG := Lib.hid (rnode_lit TW.out.m hn)
  have EN := Lib.hid hn
  clear hmod hn
  by_cases h4 : n.kind = 4
  · have q4 : (n.kind == 4) = true := beq_iff_eq.2 h4
    clear h4
    go_wp2_with (first
      | (go_at_call 15; refine (MO.out _).mono ?_; rintro e w2 ⟨rfl, rfl⟩)
      | (go_at_call 16; refine NG.out.mono ?_; rintro e w3 ⟨rfl, hb⟩; have B4 := Lib.hid (below_of B3.out hb); clear hb)
      | (go_at_call 6; refine (AW.out _).mono ?_; rintro e w4 ⟨rfl, hb⟩; have B5 := Lib.hid (below_of B4.out hb); clear hb))
    go_ret
    exact ⟨rfl, B5.out⟩
  · have q4 : (n.kind == 4) = false := beq_eq_false_iff_ne.2 h4
    have KM := Lib.hid (show (nodeV sm r).kind ≠ 4 by rw [← EN.out]; exact h4)
    have KA := Lib.hid (show (nodeV sa r).kind ≠ 4 by
      have hs := two_node TW.out.ns (x := (r : Int))
      rw [(same_f hs).1]
      exact KM.out)
    clear h4
    go_upto_region 9 with (first
      | (go_at_call 15; refine (MO.out _).mono ?_; rintro e w2 ⟨rfl, rfl⟩)
      | (go_at_call 16; refine NG.out.mono ?_; rintro e w3 ⟨rfl, hb⟩; have B4 := Lib.hid hb; have P8 := Lib.hid (refuse_a (key := a3) (val := 1) (lv := a4) (gn := a5) (TW.out.a.up hb) KA.out HH.out); clear hb)
      | (go_at_call 8; refine P8.out.mono ?_; rintro e w4 ⟨rfl, hb⟩; have B5 := Lib.hid (below_of B4.out hb); clear hb))
    have TW4 := Lib.hid (TW.out.below B5.out)
    have EV := Lib.hid (fun V (hV : Ob V 0 40 qm sm 0) => refuse_m (key := a3) (lv := a4) (gn := a5) hV KM.out HH.out)
    have qe := errV_ne a4 a5
    generalize errV a4 a5 = ev at qe EV ⊢
    have BD := Lib.hid (show RowKit.Below w4.heap.size w4 w4.drew from ⟨rfl, rfl, rfl, Nat.le_refl _, fun _ _ => rfl⟩)
    have MA := Lib.hid (show ∀ V, RowKit.Below w4.heap.size w4 V → V.cell? ⟨qm, 0, none⟩ = some (.slice sm.nA sm.ns.length sm.nc) ∧ V.cell? ⟨qm, 1, none⟩ = some (.slice sm.cA sm.cs.length sm.cc) ∧ V.cell? ⟨qm, 2, none⟩ = some (.int .i64 sm.gen) from fun V hV => by
      have hb := (TW4.out.m.up hV).blk
      exact ⟨block_cell hb rfl, block_cell hb rfl, block_cell hb rfl⟩)
    clear m0 j1 j2 MO NG
    go_region_held3 (fun w' => w'.cell? ⟨qm, 0, none⟩ = some (.slice sm.nA sm.ns.length sm.nc) ∧ w'.cell? ⟨qm, 1, none⟩ = some (.slice sm.cA sm.cs.length sm.cc) ∧ w'.cell? ⟨qm, 2, none⟩ = some (.int .i64 sm.gen))
      (exact MA.out _ (by first | exact B9.out | exact B8.out | exact B7.out | exact B6.out | exact BD.out))
      (first
        | (go_at_call 6; (with_reducible refine (AW.out _).mono ?_); rintro e w5 ⟨rfl, hb⟩; have B6 := Lib.hid (below_of BD.out hb); have E6 := Lib.hid (EV.out w5 (TW4.out.below (below_of BD.out hb)).m); clear hb)
        | (go_at_call 17; (with_reducible refine E6.out.mono ?_); rintro e w6 ⟨rfl, hb⟩; have B7 := Lib.hid (below_of B6.out hb); have ST7 := Lib.hid (let T := TW4.out.below (below_of B6.out hb); state_d T.a T.ns T.cs T.gen); clear hb)
        | (go_at_call 11; (with_reducible refine ST7.out.mono ?_); rintro e w7 ⟨u, rfl, hus, hur, hb⟩; have B8 := Lib.hid (below_of B7.out hb); have SM := Lib.hid (same_c (TW4.out.m.up (below_of B7.out hb)).srd hur hus (Nat.le_refl _)); clear hus hur hb)
        | (go_at_call 10; (with_reducible refine SM.out.mono ?_); rintro e w8 ⟨rfl, hb⟩; have B9 := Lib.hid (below_of B8.out hb); clear hb))
    all_goals
      go_wp2
      go_ret
      exact ⟨rfl, below_of B3.out (below_of B5.out B9.out)⟩
/-! ### THE ROW's STEP -/
set_option maxRecDepth 100000 in
theorem lifted (os : Os) (started : os.Started) (H : Type) (enc : TypeId × Value → H) :
    ReturnsInHanded {} Try.checked os 4 .any (Rows.dualRefusesSpec.pre6 enc Try.prog Try.f4 Rows.dualRefusesRow.domain false) (Rows.dualRefusesSpec.post enc Try.prog Try.f4 false true false false) := by
  refine returnsInHanded_of_change (C := Try.checked) own started (by kernel_rfl) Try.func4
    (ChangeSpec.witness6 (enc := enc) (C := Try.checked) false ⟨#[], #[.slice none 0 0, .int .i64 0, .int .u64 0, .string ByteArray.empty, .int .i64 0, .int .i64 0], []⟩ 8 (by kernel_rfl) (by kernel_rfl) (by kernel_rfl) (by kernel_rfl)) ?_
  intro W base args ds gs before hval0 hW hcnd _
  have hval : ∀ (j : Nat) t v, Try.f4.params[j]? = some t → args[j]? = some v → Value.okWide Try.prog W .any base t v := hval0
  have hW' := hW
  obtain ⟨p, q, hA0, hV, rfl, hfz, hnd⟩ := hW
  have hA : DataW.TrodAll enc Try.prog W 0 (fun _ => true) true Try.f4.params.toList args.toList ds p := hA0
  rw [Try.params4] at hA hval
  obtain ⟨v0, vs0, d0, ds0, p0, q0, hargs, rfl, rfl, h0, r0⟩ := trodAll_cons hA
  obtain ⟨v1, vs1, d1, ds1, p1, q1, rfl, rfl, rfl, h1, r1⟩ := trodAll_cons r0
  obtain ⟨v2, vs2, d2, ds2, p2, q2, rfl, rfl, rfl, h2, r2⟩ := trodAll_cons r1
  obtain ⟨v3, vs3, d3, ds3, p3, q3, rfl, rfl, rfl, h3, r3⟩ := trodAll_cons r2
  obtain ⟨v4, vs4, d4, ds4, p4, q4, rfl, rfl, rfl, h4, r4⟩ := trodAll_cons r3
  obtain ⟨v5, vs5, d5, ds5, p5, q5, rfl, rfl, rfl, h5, r5⟩ := trodAll_cons r4
  obtain ⟨rfl, rfl, rfl⟩ := trodAll_nil r5
  obtain rfl : args = #[v0, v1, v2, v3, v4, v5] := by cases args; simp_all
  obtain ⟨rfl, rfl⟩ := trodVars_none hV
  obtain ⟨a0, len0, cap0, rfl⟩ := okWide_slice Try.underlying42 (hval 0 42 v0 rfl rfl)
  have k0 := h0
  have lt0 : ∀ x ∈ p0, x.block < W.heap.size := by obtain ⟨m, hm⟩ := k0; exact DataW.trod_lt m _ _ _ hm
  have w0 := open_intsT h0
  obtain ⟨a1, rfl, rfl, rfl, w1⟩ := open_int Try.underlying26 (hval 1 26 v1 rfl rfl) h1
  obtain ⟨a2, rfl, rfl, rfl, w2⟩ := open_int Try.underlying22 (hval 2 22 v2 rfl rfl) h2
  obtain ⟨a3, rfl, rfl, rfl, w3⟩ := open_string Try.underlying9 (hval 3 9 v3 rfl rfl) h3
  obtain ⟨a4, rfl, rfl, rfl, w4⟩ := open_int Try.underlying3 (hval 4 3 v4 rfl rfl) h4
  obtain ⟨a5, rfl, rfl, rfl, w5⟩ := open_int Try.underlying3 (hval 5 3 v5 rfl rfl) h5
  clear hA0 hval0
  refine (walk a0 len0 cap0 a1 a2 a3 a4 a5 W w0 w1 w2 w3 w4 w5).mono fun e W' ⟨he, bel⟩ => ?_
  subst he
  exact ⟨_, rfl, _, _, _, [], _, [], hW', trodAll_mk1 (shut_bool Try.underlying4 _), (trodAll_cons_mk (Below.trod laidOut (by kernel_rfl) (of_decide_eq_true (by kernel_rfl)) k0 bel lt0) (trodAll_cons_mk (shut_int Try.underlying26 w1) (trodAll_cons_mk (shut_int Try.underlying22 w2) (trodAll_cons_mk (shut_string Try.underlying9 w3) (trodAll_cons_mk (shut_int Try.underlying3 w4) (trodAll_cons_mk (shut_int Try.underlying3 w5) trodAll_mk0)))))), rfl, bel.frame _, fun h => by cases h⟩

theorem over : Rows.dualRefusesRow.holds Try.pinned (OpenSpec.ofChange Rows.dualRefusesSpec) :=
  OpenClaim.holds_of_wide 4 Try.f4 rfl rfl rfl rfl rfl rfl rfl ⟨rfl, rfl, rfl, rfl, rfl⟩ rfl rfl rfl rfl rfl (by kernel_rfl) Try.func4 (by kernel_rfl)
    (of_decide_eq_true (by kernel_rfl)) (by unfold Func.isWrapper; first | (rw [if_pos (by decide +kernel)]; kernel_rfl) | (rw [if_neg (by decide +kernel)]; exact ⟨rfl, rfl⟩))
    (fun os started H enc _ => lifted os started H enc)

/-- ████ THE STATEMENT ████ -/
theorem proved : Rows.DualRefusesSaid := over
#print axioms proved
end Go.Proofs.Ytkenhghaiedhnaa.dualRefuses
