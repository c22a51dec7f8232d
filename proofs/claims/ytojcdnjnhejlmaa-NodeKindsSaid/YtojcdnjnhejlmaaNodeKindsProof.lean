/- For every input the Go function NodeKinds of package ctrielaw04 returns true, and each argument reads afterwards as it read before. Conditions: none but those that every row of the form bears by itself. The frame follows the guide's proof-skeleton; the walk is ours. -/
import Derived.Test.YtojcdnjnhejlmaaRows
import Derived.WalkKit
import Derived.ProofKit
import Derived.OpenShut
import Derived.ShutString
import Derived.ChangeOld
import Derived.Below
import Derived.Test.YtojcdnjnhejlmaaFrame
import Derived.Test.YtojcdnjnhejlmaaWalksX
import Derived.Test.YtojcdnjnhejlmaaWalksT
import Derived.Test.YtojcdnjnhejlmaaWalksY
import Derived.Lib.Hide
namespace Go.Proofs.Ytojcdnjnhejlmaa.nodeKinds
open Go.Lib Go.Sort
open Go.ChangeShapes Go.WideShapes Go.ChangeAt Go.RowKit
open Go.ChangeMaps (open_string shut_string)
set_option linter.unusedVariables false

theorem own : ownKnob Try.prog.godebug = none := by kernel_rfl
theorem laidOut : laidOutB Try.prog = true := by kernel_rfl

attribute [local go_sem ↓] exec_build7
attribute [local go_sem] run_build7
attribute [local go_sem] cs_size14
theorem lt_app : ∀ (a : List UInt8) (c : UInt8), ltStr a (a ++ [c]) = true
  | [], c => by simp [ltStr]
  | x :: a, c => by
    have := lt_app a c
    simp only [ltStr, List.cons_append, List.cons_lt_cons_iff, decide_eq_true_eq] at this ⊢
    first | exact .inr ⟨rfl, this⟩ | exact .inr ⟨trivial, this⟩ | simpa using this
theorem main_at (n : Nd) (r : Bool) (hr : mainB n = r) (w : World) : Calls Try.prog 13 #[.agg n.cs] w fun e w' => e = .returned (.bool r) ∧ Below w.heap.size w w' := by
  subst hr
  exact (main_any n w).mono fun _ _ ⟨he, hg⟩ => ⟨he, hg.b⟩
theorem asc_two (k : ByteArray) : Asc [(k, (1 : Int)), (k ++ ⟨#[122]⟩, 2)] := by
  have : kl k (k ++ ⟨#[122]⟩) = true := by
    unfold kl
    rw [ByteArray.data_append, Array.toList_append]
    exact lt_app _ _
  simp [Asc, this]
theorem as_node {K : Nat} {args : Array Value} {w : World} {N n : Nd} (h : Calls Try.prog K args w fun e w' => e = .returned (.agg N.cs) ∧ Gr w w') (e : n = N) : Calls Try.prog K args w fun e w' => e = .returned (.agg n.cs) ∧ Below w.heap.size w w' := by
  subst e
  exact h.mono fun _ _ ⟨he, hg⟩ => ⟨he, hg.b⟩

/-! ### STEP 1: THE WALK -/
set_option maxRecDepth 100000 in
set_option maxHeartbeats 16000000 in
theorem walk (a0 : Int) (a1 : Int) (a2 : Option Addr) (len2 cap2 : Nat) (a3 : Int) (w : World) (w0 : (Lit.int .u8 a0).wf = true) (w1 : (Lit.int .u64 a1).wf = true) (w2 : IsInts w a2 len2) (w3 : (Lit.int .u8 a3).wf = true) :
    Calls Try.prog 6 #[.int .u8 a0, .int .u64 a1, .slice a2 len2 cap2, .int .u8 a3] w fun e w' => e = .returned (.bool true) ∧ Below w.heap.size w w' := by
  have cnew := Lib.hid (new_any a2 len2 cap2 w w2.1 w2.2)
  have hr1 := u8_of_wf w3
  have hr0 := u8_of_wf w0
  have hu := Lib.hid (u64_of_wf w1)
  clear w0 w1 w2 w3
  go_enter Try.func6, Try.ntmps6
  (try simp only [List.append])
  go_wp2_with fail
  refine cnew.out.mono ?_
  rintro e v1 ⟨rfl, hT, hb⟩
  have TP := Lib.hid hT
  have HB := Lib.hid hb
  clear hT hb cnew
  go_wp2_with fail
  refine (key_any w.heap.size v1 TP.out).mono ?_
  rintro e v2 ⟨ks, hks, rfl, hT, hg⟩
  have HB := Lib.hid (HB.out.trans (below_of_grown hg (Nat.le_refl _) HB.out.size))
  clear hT hg TP
  go_wp2_with fail
  obtain ⟨U0, hU0⟩ : ∃ U0, U0 = v2.alloc (.cells #[.string ks, .int .u64 1, .string (ks ++ ⟨#[122]⟩), .int .u64 2] 41) := ⟨_, rfl⟩
  have hRL : Rd U0 U0.heap.size (some ⟨v2.heap.size, 0, none⟩) [(ks, 1), (ks ++ ⟨#[122]⟩, 2)] := by rw [hU0]; exact lit_rdP v2 [(ks, 1), (ks ++ ⟨#[122]⟩, 2)]
  have HB := Lib.hid (show Below w.heap.size w U0 by rw [hU0]; exact HB.out.alloc HB.out.size _)
  have RL := Lib.hid hRL
  have HU := Lib.hid hU0.symm
  clear hRL hU0
  rw [HU.out]
  obtain ⟨n0, hn0⟩ : ∃ n : Nd, n = { Nd.zero with kind := 3 } := ⟨_, rfl⟩
  have N0 := Lib.hid hn0
  refine (as_node (empty_any U0) hn0).mono ?_
  rintro e U1 ⟨rfl, hb⟩
  have HB := Lib.hid (HB.out.trans (hb.mono HB.out.size))
  have RL := Lib.hid (RL.out.up hb)
  clear hb hn0
  go_wp2_with fail
  obtain ⟨n1, hn1⟩ : ∃ n : Nd, n = { Nd.zero with kind := 5, hash := a1, key := ks, val := 3 } := ⟨_, rfl⟩
  have N1 := Lib.hid hn1
  refine (as_node (tomb_any a1 ks 3 U1) hn1).mono ?_
  rintro e U2 ⟨rfl, hb⟩
  have HB := Lib.hid (HB.out.trans (hb.mono HB.out.size))
  have RL := Lib.hid (RL.out.up hb)
  clear hb hn1
  go_wp2_with fail
  refine (list_any a1 (some ⟨v2.heap.size, 0, none⟩) 2 [(ks, 1), (ks ++ ⟨#[122]⟩, 2)] U2 RL.out (fun e => by cases e) (by simp)).mono ?_
  rintro e U3 ⟨A, c, rfl, ho, hb⟩
  have RC := Lib.hid (Own.rdX ho).rd
  obtain ⟨n2, hn2⟩ : ∃ n : Nd, n = { Nd.zero with kind := 6, hash := a1, pA := A, pc := c, ps := [(ks, 1), (ks ++ ⟨#[122]⟩, 2)] } := ⟨_, rfl⟩
  have N2 := Lib.hid hn2
  rw [← hn2]
  have HB := Lib.hid (HB.out.trans (hb.mono HB.out.size))
  have RL := Lib.hid (RL.out.up hb)
  clear hb hn2 ho
  go_wp2_with fail
  obtain ⟨n3, hn3⟩ : ∃ n : Nd, n = { Nd.zero with kind := 2, gen := 1 + a0 } := ⟨_, rfl⟩
  have N3 := Lib.hid hn3
  refine (as_node (inner_any (1 + a0) U3) hn3).mono ?_
  rintro e U4 ⟨rfl, hb⟩
  have HB := Lib.hid (HB.out.trans (hb.mono HB.out.size))
  have RL := Lib.hid (RL.out.up hb)
  have RC := Lib.hid (RC.out.up hb)
  clear hb hn3
  go_wp2_with fail
  obtain ⟨n4, hn4⟩ : ∃ n : Nd, n = { Nd.zero with kind := 4, hash := a1, key := ks, val := 3 } := ⟨_, rfl⟩
  have N4 := Lib.hid hn4
  refine (as_node (single_any a1 ks 3 U4) hn4).mono ?_
  rintro e U5 ⟨rfl, hb⟩
  have HB := Lib.hid (HB.out.trans (hb.mono HB.out.size))
  have RL := Lib.hid (RL.out.up hb)
  have RC := Lib.hid (RC.out.up hb)
  clear hb hn4
  go_wp2_with fail
  obtain ⟨n5, hn5⟩ : ∃ n : Nd, n = { Nd.zero with kind := 7, old := 1 + a3 } := ⟨_, rfl⟩
  have N5 := Lib.hid hn5
  refine (as_node (failed_any (1 + a3) U5) hn5).mono ?_
  rintro e U6 ⟨rfl, hb⟩
  have HB := Lib.hid (HB.out.trans (hb.mono HB.out.size))
  have RL := Lib.hid (RL.out.up hb)
  have RC := Lib.hid (RC.out.up hb)
  clear hb hn5
  go_wp2_with fail
  obtain ⟨n6, hn6⟩ : ∃ n : Nd, n = { Nd.zero with kind := 8, old := 1 + a3, exp := 1 + a3, new := 1 + a3 } := ⟨_, rfl⟩
  have N6 := Lib.hid hn6
  refine (as_node (desc_any (1 + a3) (1 + a3) (1 + a3) U6) hn6).mono ?_
  rintro e U7 ⟨rfl, hb⟩
  have HB := Lib.hid (HB.out.trans (hb.mono HB.out.size))
  have RL := Lib.hid (RL.out.up hb)
  have RC := Lib.hid (RC.out.up hb)
  clear hb hn6
  go_wp2_with fail
  obtain ⟨g, hgd⟩ : ∃ g, g = U7.heap.size := ⟨_, rfl⟩
  obtain ⟨U8, hU8⟩ : ∃ U8, U8 = U7.alloc (.cells (rowOf [n0.cs, n1.cs, n2.cs, n3.cs, n4.cs, n5.cs, n6.cs]) 28) := ⟨_, rfl⟩
  have hg8 : U8.heap[g]? = some (.cells (rowOf ([n0, n1, n2, n3, n4, n5, n6].map Nd.cs)) 28 (0, 0)) := by rw [hU8, hgd]; exact heap_alloc_new U7 _
  have hb8 : Below U7.heap.size U7 U8 := by rw [hU8]; exact (Below.refl _ _).alloc (Nat.le_refl _) _
  have HB := Lib.hid (HB.out.trans (hb8.mono HB.out.size))
  have RC := Lib.hid (RC.out.up hb8)
  rw [← hU8, ← hgd]
  have HG := Lib.hid hg8
  have hks4 : (ks ++ ⟨#[122]⟩ : ByteArray).size ≤ 4 := by rw [ByteArray.size_append]; show ks.size + 1 ≤ 4; omega
  have HN : Hid (∀ (i : Nat) (n : Nd), [n0, n1, n2, n3, n4, n5, n6][i]? = some n → validN n = true ∧ mainB n = decide ((i : Int) < 3) ∧ NRd U8 U8.heap.size n) := by
    intro i n hn
    have lk1 : longK ks = false := decide_eq_false (by omega)
    have lk2 : longK (ks ++ ⟨#[122]⟩) = false := decide_eq_false (by omega)
    have lo3 : lowK (1 + a3) = false := decide_eq_false (by omega)
    match i, hn with
    | 0, hn => injection hn with hn; subst hn; rw [N0.out]; exact ⟨valid_empty, rfl, nrd_plain rfl rfl rfl⟩
    | 1, hn => injection hn with hn; subst hn; rw [N1.out]; exact ⟨by rw [valid_tomb, lk1]; rfl, rfl, nrd_plain rfl rfl rfl⟩
    | 2, hn =>
      injection hn with hn; subst hn; rw [N2.out]
      exact ⟨valid_list _ _ _ _ (by simp) (validB_true (asc_two ks)) (by simp [longB, lk1, lk2]), rfl, ⟨RdR.nil, RC.out, u64_zero, Nat.zero_le _, by simp⟩⟩
    | 3, hn => injection hn with hn; subst hn; rw [N3.out]; exact ⟨by rw [valid_inner]; exact decide_eq_true (by omega), rfl, nrd_plain rfl rfl rfl⟩
    | 4, hn => injection hn with hn; subst hn; rw [N4.out]; exact ⟨by rw [valid_single, lk1]; rfl, rfl, nrd_plain rfl rfl rfl⟩
    | 5, hn => injection hn with hn; subst hn; rw [N5.out]; exact ⟨by rw [valid_failed, lo3]; rfl, rfl, nrd_plain rfl rfl rfl⟩
    | 6, hn => injection hn with hn; subst hn; rw [N6.out]; exact ⟨by rw [valid_desc, lo3]; rfl, rfl, nrd_plain rfl rfl rfl⟩
    | i + 7, hn => simp at hn
  have hsz : g < U8.heap.size := (Array.getElem?_eq_some_iff.1 hg8).1
  have HSZ := Lib.hid hsz
  clear hgd hU8 hg8 hb8 hks4 RL RC N0 N1 N2 N3 N4 N5 N6 hr0 hr1 hu hks hsz
  go_loopg [50] 7 (fun kx s50 wr => ∃ i : Nat, s50 = .int .i64 i ∧ i ≤ 7 ∧ 7 - i ≤ kx ∧ Aside (Below U8.heap.size U8 wr))
  case atStart => exact ⟨0, rfl, Nat.zero_le _, by omega, Below.refl _ _⟩
  case round =>
    obtain ⟨i, rfl, hi, hkx, W⟩ := hrel
    by_cases hlt : i < 7
    · have hltz : (i : Int) < 7 := by omega
      obtain ⟨n, hn⟩ : ∃ n, [n0, n1, n2, n3, n4, n5, n6][i]? = some n := ⟨_, List.getElem?_eq_getElem (by simpa using hlt)⟩
      have hcs : ([n0, n1, n2, n3, n4, n5, n6].map Nd.cs)[i]? = some n.cs := by rw [List.getElem?_map, hn]; rfl
      obtain ⟨hv, hm, hnr⟩ := HN.out i n hn
      have hgr := (W.out.block g HSZ.out).trans HG.out
      have HV := Lib.hid hv
      have HM := Lib.hid hm
      have HR := Lib.hid (hnr.below W.out)
      have c0 : wr.cell? ⟨g, i * 14, none⟩ = some (.int .i64 n.kind) := (cell_of_row wr g _ _ 28 (0, 0) hgr).trans (rowOf_get (i := i) (j := 0) hcs (by omega) rfl)
      have c1 : wr.cell? ⟨g, i * 14 + 1, none⟩ = some (.int .i64 n.gen) := (cell_of_row wr g _ _ 28 (0, 0) hgr).trans (rowOf_get (i := i) (j := 1) hcs (by omega) rfl)
      have c2 : wr.cell? ⟨g, i * 14 + 2, none⟩ = some (.int .i64 n.main) := (cell_of_row wr g _ _ 28 (0, 0) hgr).trans (rowOf_get (i := i) (j := 2) hcs (by omega) rfl)
      have c3 : wr.cell? ⟨g, i * 14 + 3, none⟩ = some (.int .u64 n.bm) := (cell_of_row wr g _ _ 28 (0, 0) hgr).trans (rowOf_get (i := i) (j := 3) hcs (by omega) rfl)
      have c4 : wr.cell? ⟨g, i * 14 + 4, none⟩ = some (.slice n.bA n.bs.length n.bc) := (cell_of_row wr g _ _ 28 (0, 0) hgr).trans (rowOf_get (i := i) (j := 4) hcs (by omega) rfl)
      have c5 : wr.cell? ⟨g, i * 14 + 5, none⟩ = some (.int .u64 n.hash) := (cell_of_row wr g _ _ 28 (0, 0) hgr).trans (rowOf_get (i := i) (j := 5) hcs (by omega) rfl)
      have c6 : wr.cell? ⟨g, i * 14 + 6, none⟩ = some (.string n.key) := (cell_of_row wr g _ _ 28 (0, 0) hgr).trans (rowOf_get (i := i) (j := 6) hcs (by omega) rfl)
      have c7 : wr.cell? ⟨g, i * 14 + 7, none⟩ = some (.int .u64 n.val) := (cell_of_row wr g _ _ 28 (0, 0) hgr).trans (rowOf_get (i := i) (j := 7) hcs (by omega) rfl)
      have c8 : wr.cell? ⟨g, i * 14 + 8, none⟩ = some (.slice n.pA n.ps.length n.pc) := (cell_of_row wr g _ _ 28 (0, 0) hgr).trans (rowOf_get (i := i) (j := 8) hcs (by omega) rfl)
      have c9 : wr.cell? ⟨g, i * 14 + 9, none⟩ = some (.int .i64 n.prev) := (cell_of_row wr g _ _ 28 (0, 0) hgr).trans (rowOf_get (i := i) (j := 9) hcs (by omega) rfl)
      have c10 : wr.cell? ⟨g, i * 14 + 10, none⟩ = some (.int .i64 n.old) := (cell_of_row wr g _ _ 28 (0, 0) hgr).trans (rowOf_get (i := i) (j := 10) hcs (by omega) rfl)
      have c11 : wr.cell? ⟨g, i * 14 + 11, none⟩ = some (.int .i64 n.exp) := (cell_of_row wr g _ _ 28 (0, 0) hgr).trans (rowOf_get (i := i) (j := 11) hcs (by omega) rfl)
      have c12 : wr.cell? ⟨g, i * 14 + 12, none⟩ = some (.int .i64 n.new) := (cell_of_row wr g _ _ 28 (0, 0) hgr).trans (rowOf_get (i := i) (j := 12) hcs (by omega) rfl)
      have c13 : wr.cell? ⟨g, i * 14 + 13, none⟩ = some (.int .i64 n.status) := (cell_of_row wr g _ _ 28 (0, 0) hgr).trans (rowOf_get (i := i) (j := 13) hcs (by omega) rfl)
      clear hn hcs hv hm hnr hgr
      go_wp2_with fail
      refine (valid_at n true HV.out (wr.alloc (.cells n.cs 28)) ((HR.out.more W.out.size).below ((Below.refl _ _).alloc (Nat.le_refl _) _) |>.more (by simp))).mono ?_
      rintro e w1 ⟨rfl, hb⟩
      have Hx := Lib.hid ((hb.block wr.heap.size (by simp)).trans (heap_alloc_new wr (.cells n.cs 28)))
      have HW := Lib.hid ((W.out.alloc W.out.size (.cells n.cs 28)).trans (hb.mono (by have := W.out.size; simp; omega)))
      clear hb c0 c1 c2 c3 c4 c5 c6 c7 c8 c9 c10 c11 c12 c13
      have e0 := node_cellA Hx.out (i := 0) (v := .int .i64 n.kind) rfl
      have e1 := node_cellA Hx.out (i := 1) (v := .int .i64 n.gen) rfl
      have e2 := node_cellA Hx.out (i := 2) (v := .int .i64 n.main) rfl
      have e3 := node_cellA Hx.out (i := 3) (v := .int .u64 n.bm) rfl
      have e4 := node_cellA Hx.out (i := 4) (v := .slice n.bA n.bs.length n.bc) rfl
      have e5 := node_cellA Hx.out (i := 5) (v := .int .u64 n.hash) rfl
      have e6 := node_cellA Hx.out (i := 6) (v := .string n.key) rfl
      have e7 := node_cellA Hx.out (i := 7) (v := .int .u64 n.val) rfl
      have e8 := node_cellA Hx.out (i := 8) (v := .slice n.pA n.ps.length n.pc) rfl
      have e9 := node_cellA Hx.out (i := 9) (v := .int .i64 n.prev) rfl
      have e10 := node_cellA Hx.out (i := 10) (v := .int .i64 n.old) rfl
      have e11 := node_cellA Hx.out (i := 11) (v := .int .i64 n.exp) rfl
      have e12 := node_cellA Hx.out (i := 12) (v := .int .i64 n.new) rfl
      have e13 := node_cellA Hx.out (i := 13) (v := .int .i64 n.status) rfl
      by_cases h3 : (i : Int) < 3
      · have d3 : decide ((i : Int) < 3) = true := decide_eq_true h3
        have hmB : mainB n = true := by rw [HM.out]; exact decide_eq_true h3
        have cm := main_at n _ hmB w1
        have CM := Lib.hid cm
        clear cm hmB h3
        go_wp2_with fail
        refine CM.out.mono ?_
        rintro e w2 ⟨rfl, hb⟩
        have HW := Lib.hid (HW.out.trans (hb.mono HW.out.size))
        clear hb CM e0 e1 e2 e3 e4 e5 e6 e7 e8 e9 e10 e11 e12 e13
        go_wp2
        go_roundg (7 - (i + 1))
        case measure => omega
        case rel => exact ⟨i + 1, by go_num, by omega, Nat.le_refl _, HW.out⟩
      · have d3 : decide ((i : Int) < 3) = false := decide_eq_false h3
        have hmB : mainB n = false := by rw [HM.out]; exact decide_eq_false h3
        have cm := main_at n _ hmB w1
        have CM := Lib.hid cm
        clear cm hmB h3
        go_wp2_with fail
        refine CM.out.mono ?_
        rintro e w2 ⟨rfl, hb⟩
        have HW := Lib.hid (HW.out.trans (hb.mono HW.out.size))
        clear hb CM e0 e1 e2 e3 e4 e5 e6 e7 e8 e9 e10 e11 e12 e13
        go_wp2
        go_roundg (7 - (i + 1))
        case measure => omega
        case rel => exact ⟨i + 1, by go_num, by omega, Nat.le_refl _, HW.out⟩
    · obtain rfl : i = 7 := by omega
      have HB := Lib.hid (HB.out.trans (W.out.mono HB.out.size))
      clear W
      go_wp2_with fail
      refine (awake_any wr).mono ?_
      rintro e w1 ⟨rfl, hb⟩
      have HB := Lib.hid (HB.out.trans (hb.mono HB.out.size))
      clear hb
      go_wp2_with fail
      refine (inner_any 0 w1).mono ?_
      rintro e w2 ⟨rfl, hg⟩
      have HB := Lib.hid (HB.out.trans (hg.b.mono HB.out.size))
      clear hg
      go_wp2_with fail
      refine (valid_at { Nd.zero with kind := 2, gen := 0 } false (valid_inner 0) w2 (nrd_plain rfl rfl rfl)).mono ?_
      rintro e w3 ⟨rfl, hb⟩
      have HB := Lib.hid (HB.out.trans (hb.mono HB.out.size))
      clear hb
      go_wp2_with fail
      refine (failed_any 0 w3).mono ?_
      rintro e w4 ⟨rfl, hg⟩
      have HB := Lib.hid (HB.out.trans (hg.b.mono HB.out.size))
      clear hg
      go_wp2_with fail
      refine (valid_at { Nd.zero with kind := 7, old := 0 } false (valid_failed 0) w4 (nrd_plain rfl rfl rfl)).mono ?_
      rintro e w5 ⟨rfl, hb⟩
      have HB := Lib.hid (HB.out.trans (hb.mono HB.out.size))
      clear hb
      go_wp2_with fail
      refine (valid_at Nd.zero false valid_zero w5 (nrd_plain rfl rfl rfl)).mono ?_
      rintro e w6 ⟨rfl, hb⟩
      have HB := Lib.hid (HB.out.trans (hb.mono HB.out.size))
      clear hb
      go_wp2
      go_ret
      exact ⟨rfl, HB.out⟩

/-! ### THE ROW's STEP -/
set_option maxRecDepth 100000 in
theorem lifted (os : Os) (started : os.Started) (H : Type) (enc : TypeId × Value → H) :
    ReturnsInHanded {} Try.checked os 6 .any (Rows.nodeKindsSpec.pre6 enc Try.prog Try.f6 Rows.nodeKindsRow.domain false) (Rows.nodeKindsSpec.post enc Try.prog Try.f6 false true false false) := by
  refine returnsInHanded_of_change (C := Try.checked) own started (by kernel_rfl) Try.func6
    (ChangeSpec.witness6 (enc := enc) (C := Try.checked) false ⟨#[], #[.int .u8 0, .int .u64 0, .slice none 0 0, .int .u8 0], []⟩ 8 (by kernel_rfl) (by kernel_rfl) (by kernel_rfl) (by kernel_rfl)) ?_
  intro W base args ds gs before hval0 hW hcnd _
  have hval : ∀ (j : Nat) t v, Try.f6.params[j]? = some t → args[j]? = some v → Value.okWide Try.prog W .any base t v := hval0
  have hW' := hW
  obtain ⟨p, q, hA0, hV, rfl, hfz, hnd⟩ := hW
  have hA : DataW.TrodAll enc Try.prog W 0 (fun _ => true) true Try.f6.params.toList args.toList ds p := hA0
  rw [Try.params6] at hA hval
  obtain ⟨v0, vs0, d0, ds0, p0, q0, hargs, rfl, rfl, h0, r0⟩ := trodAll_cons hA
  obtain ⟨v1, vs1, d1, ds1, p1, q1, rfl, rfl, rfl, h1, r1⟩ := trodAll_cons r0
  obtain ⟨v2, vs2, d2, ds2, p2, q2, rfl, rfl, rfl, h2, r2⟩ := trodAll_cons r1
  obtain ⟨v3, vs3, d3, ds3, p3, q3, rfl, rfl, rfl, h3, r3⟩ := trodAll_cons r2
  obtain ⟨rfl, rfl, rfl⟩ := trodAll_nil r3
  obtain rfl : args = #[v0, v1, v2, v3] := by cases args; simp_all
  obtain ⟨rfl, rfl⟩ := trodVars_none hV
  obtain ⟨a0, rfl, rfl, rfl, w0⟩ := open_int Try.underlying5 (hval 0 5 v0 rfl rfl) h0
  obtain ⟨a1, rfl, rfl, rfl, w1⟩ := open_int Try.underlying23 (hval 1 23 v1 rfl rfl) h1
  obtain ⟨a2, len2, cap2, rfl⟩ := okWide_slice Try.underlying29 (hval 2 29 v2 rfl rfl)
  have k2 := h2
  have lt2 : ∀ x ∈ p2, x.block < W.heap.size := by obtain ⟨m, hm⟩ := k2; exact DataW.trod_lt m _ _ _ hm
  have w2 := open_intsT h2
  obtain ⟨a3, rfl, rfl, rfl, w3⟩ := open_int Try.underlying5 (hval 3 5 v3 rfl rfl) h3
  clear hA0 hval0
  refine (walk a0 a1 a2 len2 cap2 a3 W w0 w1 w2 w3).mono fun e W' ⟨he, bel⟩ => ?_
  subst he
  exact ⟨_, rfl, _, _, _, [], _, [], hW', trodAll_mk1 (shut_bool Try.underlying4 _), (trodAll_cons_mk (shut_int Try.underlying5 w0) (trodAll_cons_mk (shut_int Try.underlying23 w1) (trodAll_cons_mk (Below.trod laidOut (by kernel_rfl) (of_decide_eq_true (by kernel_rfl)) k2 bel lt2) (trodAll_cons_mk (shut_int Try.underlying5 w3) trodAll_mk0)))), rfl, bel.frame _, fun h => by cases h⟩

theorem over : Rows.nodeKindsRow.holds Try.pinned (OpenSpec.ofChange Rows.nodeKindsSpec) :=
  OpenClaim.holds_of_wide 6 Try.f6 rfl rfl rfl rfl rfl rfl rfl ⟨rfl, rfl, rfl, rfl, rfl⟩ rfl rfl rfl rfl rfl (by kernel_rfl) Try.func6 (by kernel_rfl)
    (of_decide_eq_true (by kernel_rfl)) (by unfold Func.isWrapper; first | (rw [if_pos (by decide +kernel)]; kernel_rfl) | (rw [if_neg (by decide +kernel)]; exact ⟨rfl, rfl⟩))
    (fun os started H enc _ => lifted os started H enc)

/-- ████ THE STATEMENT ████ -/
theorem proved : Rows.NodeKindsSaid := over
#print axioms proved
end Go.Proofs.Ytojcdnjnhejlmaa.nodeKinds
