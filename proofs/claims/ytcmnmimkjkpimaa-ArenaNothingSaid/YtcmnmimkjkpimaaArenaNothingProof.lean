/- For every input the Go function ArenaNothing of package ctrielaw05 returns true, and each argument reads afterwards as it read before. Conditions: none but those that every row of the form bears by itself. The frame follows the guide's proof-skeleton; the walk is ours. -/
import Derived.Test.YtcmnmimkjkpimaaRows
import Derived.WalkKit
import Derived.ProofKit
import Derived.OpenShut
import Derived.ShutString
import Derived.ChangeOld
import Derived.Below
import Derived.Test.YtcmnmimkjkpimaaFrame
import Derived.Test.YtcmnmimkjkpimaaArS
import Derived.Lib.Hide
import Derived.Deep.RegionHeld3
namespace Go.Proofs.Ytcmnmimkjkpimaa.arenaNothing
open Go.Lib Go.Sort
open Go.ChangeShapes Go.WideShapes Go.ChangeAt Go.RowKit
open Go.ChangeMaps (open_string shut_string)
set_option linter.unusedVariables false

theorem own : ownKnob Try.prog.godebug = none := by kernel_rfl
theorem laidOut : laidOutB Try.prog = true := by kernel_rfl

attribute [local go_sem ↓] exec_load28 exec_store44
theorem i64_of_wf {a : Int} (h : (Lit.int .i64 a).wf = true) : -9223372036854775808 ≤ a ∧ a ≤ 9223372036854775807 := by
  simp only [Lit.wf, IntKind.min, IntKind.max, IntKind.signed, IntKind.bits, Bool.and_eq_true, decide_eq_true_eq, if_true] at h
  omega

/-! ### STEP 1: THE WALK -/
set_option maxRecDepth 100000 in
set_option maxHeartbeats 16000000 in
theorem walk (a0 : Option Addr) (len0 cap0 : Nat) (a1 : Int) (a2 : Int) (a3 : Int) (w : World) (w0 : IsInts w a0 len0) (w1 : (Lit.int .i64 a1).wf = true) (w2 : (Lit.int .i64 a2).wf = true) (w3 : (Lit.int .i64 a3).wf = true) :
    Calls Try.prog 7 #[.slice a0 len0 cap0, .int .i64 a1, .int .i64 a2, .int .i64 a3] w fun e w' => e = .returned (.bool true) ∧ Below w.heap.size w w' := by
  have mixed := mixedOrders
  have NW := Lib.hid (new_c a0 len0 cap0 w w0.1 w0.2)
  obtain ⟨hlo1, hhi1⟩ := i64_of_wf w1
  clear w0 w1 w2 w3
  go_enter Try.func7, Try.ntmps7
  go_upto_region 5 with (first
    | (go_at_call 8; refine NW.out.mono ?_; rintro e u1 ⟨rfl, hT, hb⟩; have B1 := Lib.hid hb; have MM := Lib.hid (mem_c w.heap.size u1 hT); clear hT hb)
    | (go_at_call 9; refine MM.out.mono ?_; rintro e u2 ⟨q, s, rfl, hmb, hql, hsr, hpr, hn9, hc9, hb⟩; have M2 := Lib.hid hmb; have Q2 := Lib.hid hql; have S2 := Lib.hid hsr; have L2 := Lib.hid (⟨hn9, hc9⟩ : _ ∧ _); have B2 := Lib.hid (B1.out.trans hb); have OF := Lib.hid (of_c s u2 hsr hpr); have d0 := hmb.at0; have d1 := hmb.at1; have d2 := hmb.at2; clear hmb hql hsr hpr hn9 hc9 hb)
    | (go_at_call 10; refine OF.out.mono ?_; rintro e u3 ⟨q2, t, rfl, hob, hsl, hcs, hgn, hb⟩; have O3 := Lib.hid hob; have K3 := Lib.hid (⟨hsl, hcs, hgn⟩ : _ ∧ _ ∧ _); have B3 := Lib.hid hb; have M3 := Lib.hid (M2.out.up Q2.out hb); clear hob hsl hcs hgn hb))
  have hcl := L2.out.2
  have hnl := L2.out.1
  have m0 := M3.out.at0
  have m1 := M3.out.at1
  clear d0 d1 d2
  by_cases hA : 1 ≤ a1 ∧ a1 ≤ (s.cs.length : Int)
  ·
    have g1 : decide (a1 ≥ 1) = true := decide_eq_true hA.1
    have g2 : decide (a1 ≤ (s.cs.length : Int)) = true := decide_eq_true hA.2
    have g3 : IntKind.i64.wrap (-a1) = -a1 := by rw [IntKind.wrap_i64]; omega
    have g4 : decide (-a1 ≥ 1) = false := decide_eq_false (by omega)
    go_upto_region 10 with (fail)
    have HC := Lib.hid (show hasC t (-a1) = false by rw [hasC, K3.out.2.1]; simp; omega)
    have HR := Lib.hid (show ¬ (1 ≤ (-a1 : Int) ∧ (-a1 : Int) ≤ (t.ns.length : Int)) by rw [← K3.out.1.1]; omega)
    have AW := Lib.hid (awake_c (w := u3.drew) (O3.out.up (Below.refl _ u3).drew) B3.out.size)
    have BS := Lib.hid B3.out.size
    have SS := Lib.hid (S2.out.below B3.out)
    clear g1 g2 g3 g4 m0 m1 hA
    go_region_held3 (fun w' => w'.cell? ⟨q, 0, none⟩ = some (.slice s.nA s.ns.length s.nc) ∧ w'.cell? ⟨q, 1, none⟩ = some (.slice s.cA s.cs.length s.cc) ∧ w'.cell? ⟨q, 2, none⟩ = some (.int .i64 s.gen))
      (exact MB.all (by first | exact N8.out | exact N7.out | exact N6.out | exact N5.out | exact N4.out | exact N3.out | exact N2.out | exact N1.out | exact M3.out))
      (first
        | (go_at_call 19; refine AW.out.mono ?_; rintro e v1 ⟨rfl, hob, hb⟩; have D1 := Lib.hid (⟨hb.os, hb.tape, hb.output, hb.size, hb.block⟩ : Below u2.heap.size u3 v1); have N1 := Lib.hid (M3.out.up Q2.out D1.out); have LD := Lib.hid (load_no (c := -a1) hob ⟨Int.le_refl 0, by omega⟩ HC.out); clear hob hb)
        | (go_at_call 15; refine LD.out.mono ?_; rintro e v2 ⟨rfl, hob, hb⟩; have D2 := Lib.hid (D1.out.trans hb); have N2 := Lib.hid (M3.out.up Q2.out D2.out); have C1 := Lib.hid (cas_no (c := -a1) (old := a2) (new := a3) hob ⟨by omega, by omega⟩ HC.out); clear hob hb)
        | (go_at_call 14; refine C2.out.mono ?_; rintro e v4 ⟨rfl, hob, hb⟩; have D4 := Lib.hid (D3.out.trans hb); have N4 := Lib.hid (M3.out.up Q2.out D4.out); have ND := Lib.hid (node_no (r := -a1) hob (Nat.le_trans BS.out D4.out.size) HR.out); clear hob hb)
        | (go_at_call 14; refine C1.out.mono ?_; rintro e v3 ⟨rfl, hob, hb⟩; have D3 := Lib.hid (D2.out.trans hb); have N3 := Lib.hid (M3.out.up Q2.out D3.out); have C2 := Lib.hid (cas_no (c := -a1) (old := 0) (new := a3) hob ⟨by omega, by omega⟩ HC.out); clear hob hb)
        | (go_at_call 27; refine ND.out.mono ?_; rintro e v5 ⟨y, rfl, hye, hyr, hob, hb⟩; have D5 := Lib.hid (D4.out.trans hb); have N5 := Lib.hid (M3.out.up Q2.out D5.out); have EQ := Lib.hid (equal_c hob (Nat.le_trans BS.out D5.out.size) hyr hye); clear hye hyr hob hb)
        | (go_at_call 29; refine EQ.out.mono ?_; rintro e v6 ⟨rfl, hob, hb⟩; have D6 := Lib.hid (D5.out.trans hb); have N6 := Lib.hid (M3.out.up Q2.out D6.out); have ST := Lib.hid (state_c (s := s) hob (Nat.le_trans BS.out D6.out.size) K3.out.1 K3.out.2.1 K3.out.2.2); clear hob hb)
        | (go_at_call 23; refine ST.out.mono ?_; rintro e v7 ⟨u, rfl, hus, hur, hb⟩; have D7 := Lib.hid (D6.out.trans hb); have N7 := Lib.hid (M3.out.up Q2.out D7.out); have SM := Lib.hid (same_c ((S2.out.below (B3.out.trans D7.out)).more (Nat.le_trans BS.out D7.out.size)) hur hus (Nat.le_trans BS.out D7.out.size)); clear hus hur hb)
        | (go_at_call 22; refine SM.out.mono ?_; rintro e v8 ⟨rfl, hb⟩; have D8 := Lib.hid (D7.out.trans hb); have N8 := Lib.hid (M3.out.up Q2.out D8.out); clear hb))
    all_goals
      go_wp2
      go_ret
      exact ⟨rfl, B2.out.trans ((B3.out.trans D8.out).mono B2.out.size)⟩
  by_cases h1 : a1 < 1
  ·
    have g1 : decide (a1 ≥ 1) = false := decide_eq_false (by omega)
    go_upto_region 10 with (fail)
    have HC := Lib.hid (show hasC t (a1) = false by rw [hasC, K3.out.2.1]; simp; omega)
    have HR := Lib.hid (show ¬ (1 ≤ (a1 : Int) ∧ (a1 : Int) ≤ (t.ns.length : Int)) by rw [← K3.out.1.1]; omega)
    have AW := Lib.hid (awake_c (w := u3.drew) (O3.out.up (Below.refl _ u3).drew) B3.out.size)
    have BS := Lib.hid B3.out.size
    have SS := Lib.hid (S2.out.below B3.out)
    clear g1 m0 m1 hA h1
    go_region_held3 (fun w' => w'.cell? ⟨q, 0, none⟩ = some (.slice s.nA s.ns.length s.nc) ∧ w'.cell? ⟨q, 1, none⟩ = some (.slice s.cA s.cs.length s.cc) ∧ w'.cell? ⟨q, 2, none⟩ = some (.int .i64 s.gen))
      (exact MB.all (by first | exact N8.out | exact N7.out | exact N6.out | exact N5.out | exact N4.out | exact N3.out | exact N2.out | exact N1.out | exact M3.out))
      (first
        | (go_at_call 19; refine AW.out.mono ?_; rintro e v1 ⟨rfl, hob, hb⟩; have D1 := Lib.hid (⟨hb.os, hb.tape, hb.output, hb.size, hb.block⟩ : Below u2.heap.size u3 v1); have N1 := Lib.hid (M3.out.up Q2.out D1.out); have LD := Lib.hid (load_no (c := a1) hob ⟨Int.le_refl 0, by omega⟩ HC.out); clear hob hb)
        | (go_at_call 15; refine LD.out.mono ?_; rintro e v2 ⟨rfl, hob, hb⟩; have D2 := Lib.hid (D1.out.trans hb); have N2 := Lib.hid (M3.out.up Q2.out D2.out); have C1 := Lib.hid (cas_no (c := a1) (old := a2) (new := a3) hob ⟨by omega, by omega⟩ HC.out); clear hob hb)
        | (go_at_call 14; refine C2.out.mono ?_; rintro e v4 ⟨rfl, hob, hb⟩; have D4 := Lib.hid (D3.out.trans hb); have N4 := Lib.hid (M3.out.up Q2.out D4.out); have ND := Lib.hid (node_no (r := a1) hob (Nat.le_trans BS.out D4.out.size) HR.out); clear hob hb)
        | (go_at_call 14; refine C1.out.mono ?_; rintro e v3 ⟨rfl, hob, hb⟩; have D3 := Lib.hid (D2.out.trans hb); have N3 := Lib.hid (M3.out.up Q2.out D3.out); have C2 := Lib.hid (cas_no (c := a1) (old := 0) (new := a3) hob ⟨by omega, by omega⟩ HC.out); clear hob hb)
        | (go_at_call 27; refine ND.out.mono ?_; rintro e v5 ⟨y, rfl, hye, hyr, hob, hb⟩; have D5 := Lib.hid (D4.out.trans hb); have N5 := Lib.hid (M3.out.up Q2.out D5.out); have EQ := Lib.hid (equal_c hob (Nat.le_trans BS.out D5.out.size) hyr hye); clear hye hyr hob hb)
        | (go_at_call 29; refine EQ.out.mono ?_; rintro e v6 ⟨rfl, hob, hb⟩; have D6 := Lib.hid (D5.out.trans hb); have N6 := Lib.hid (M3.out.up Q2.out D6.out); have ST := Lib.hid (state_c (s := s) hob (Nat.le_trans BS.out D6.out.size) K3.out.1 K3.out.2.1 K3.out.2.2); clear hob hb)
        | (go_at_call 23; refine ST.out.mono ?_; rintro e v7 ⟨u, rfl, hus, hur, hb⟩; have D7 := Lib.hid (D6.out.trans hb); have N7 := Lib.hid (M3.out.up Q2.out D7.out); have SM := Lib.hid (same_c ((S2.out.below (B3.out.trans D7.out)).more (Nat.le_trans BS.out D7.out.size)) hur hus (Nat.le_trans BS.out D7.out.size)); clear hus hur hb)
        | (go_at_call 22; refine SM.out.mono ?_; rintro e v8 ⟨rfl, hb⟩; have D8 := Lib.hid (D7.out.trans hb); have N8 := Lib.hid (M3.out.up Q2.out D8.out); clear hb))
    all_goals
      go_wp2
      go_ret
      exact ⟨rfl, B2.out.trans ((B3.out.trans D8.out).mono B2.out.size)⟩
  by_cases h2 : a1 ≤ (s.ns.length : Int)
  ·
    have g1 : decide (a1 ≥ 1) = true := decide_eq_true (by omega)
    have g2 : decide (a1 ≤ (s.cs.length : Int)) = false := decide_eq_false (by omega)
    have g3 : decide (a1 ≤ (s.ns.length : Int)) = true := decide_eq_true h2
    go_upto_region 10 with (fail)
    have HC := Lib.hid (show hasC t (a1) = false by rw [hasC, K3.out.2.1]; simp; omega)
    have HR := Lib.hid (show ¬ (1 ≤ (0 : Int) ∧ (0 : Int) ≤ (t.ns.length : Int)) by rw [← K3.out.1.1]; omega)
    have AW := Lib.hid (awake_c (w := u3.drew) (O3.out.up (Below.refl _ u3).drew) B3.out.size)
    have BS := Lib.hid B3.out.size
    have SS := Lib.hid (S2.out.below B3.out)
    clear g1 g2 g3 m0 m1 hA h1 h2
    go_region_held3 (fun w' => w'.cell? ⟨q, 0, none⟩ = some (.slice s.nA s.ns.length s.nc) ∧ w'.cell? ⟨q, 1, none⟩ = some (.slice s.cA s.cs.length s.cc) ∧ w'.cell? ⟨q, 2, none⟩ = some (.int .i64 s.gen))
      (exact MB.all (by first | exact N8.out | exact N7.out | exact N6.out | exact N5.out | exact N4.out | exact N3.out | exact N2.out | exact N1.out | exact M3.out))
      (first
        | (go_at_call 19; refine AW.out.mono ?_; rintro e v1 ⟨rfl, hob, hb⟩; have D1 := Lib.hid (⟨hb.os, hb.tape, hb.output, hb.size, hb.block⟩ : Below u2.heap.size u3 v1); have N1 := Lib.hid (M3.out.up Q2.out D1.out); have LD := Lib.hid (load_no (c := a1) hob ⟨Int.le_refl 0, by omega⟩ HC.out); clear hob hb)
        | (go_at_call 15; refine LD.out.mono ?_; rintro e v2 ⟨rfl, hob, hb⟩; have D2 := Lib.hid (D1.out.trans hb); have N2 := Lib.hid (M3.out.up Q2.out D2.out); have C1 := Lib.hid (cas_no (c := a1) (old := a2) (new := a3) hob ⟨by omega, by omega⟩ HC.out); clear hob hb)
        | (go_at_call 14; refine C2.out.mono ?_; rintro e v4 ⟨rfl, hob, hb⟩; have D4 := Lib.hid (D3.out.trans hb); have N4 := Lib.hid (M3.out.up Q2.out D4.out); have ND := Lib.hid (node_no (r := 0) hob (Nat.le_trans BS.out D4.out.size) HR.out); clear hob hb)
        | (go_at_call 14; refine C1.out.mono ?_; rintro e v3 ⟨rfl, hob, hb⟩; have D3 := Lib.hid (D2.out.trans hb); have N3 := Lib.hid (M3.out.up Q2.out D3.out); have C2 := Lib.hid (cas_no (c := a1) (old := 0) (new := a3) hob ⟨by omega, by omega⟩ HC.out); clear hob hb)
        | (go_at_call 27; refine ND.out.mono ?_; rintro e v5 ⟨y, rfl, hye, hyr, hob, hb⟩; have D5 := Lib.hid (D4.out.trans hb); have N5 := Lib.hid (M3.out.up Q2.out D5.out); have EQ := Lib.hid (equal_c hob (Nat.le_trans BS.out D5.out.size) hyr hye); clear hye hyr hob hb)
        | (go_at_call 29; refine EQ.out.mono ?_; rintro e v6 ⟨rfl, hob, hb⟩; have D6 := Lib.hid (D5.out.trans hb); have N6 := Lib.hid (M3.out.up Q2.out D6.out); have ST := Lib.hid (state_c (s := s) hob (Nat.le_trans BS.out D6.out.size) K3.out.1 K3.out.2.1 K3.out.2.2); clear hob hb)
        | (go_at_call 23; refine ST.out.mono ?_; rintro e v7 ⟨u, rfl, hus, hur, hb⟩; have D7 := Lib.hid (D6.out.trans hb); have N7 := Lib.hid (M3.out.up Q2.out D7.out); have SM := Lib.hid (same_c ((S2.out.below (B3.out.trans D7.out)).more (Nat.le_trans BS.out D7.out.size)) hur hus (Nat.le_trans BS.out D7.out.size)); clear hus hur hb)
        | (go_at_call 22; refine SM.out.mono ?_; rintro e v8 ⟨rfl, hb⟩; have D8 := Lib.hid (D7.out.trans hb); have N8 := Lib.hid (M3.out.up Q2.out D8.out); clear hb))
    all_goals
      go_wp2
      go_ret
      exact ⟨rfl, B2.out.trans ((B3.out.trans D8.out).mono B2.out.size)⟩
  ·
    have g1 : decide (a1 ≥ 1) = true := decide_eq_true (by omega)
    have g2 : decide (a1 ≤ (s.cs.length : Int)) = false := decide_eq_false (by omega)
    have g3 : decide (a1 ≤ (s.ns.length : Int)) = false := decide_eq_false h2
    go_upto_region 10 with (fail)
    have HC := Lib.hid (show hasC t (a1) = false by rw [hasC, K3.out.2.1]; simp; omega)
    have HR := Lib.hid (show ¬ (1 ≤ (a1 : Int) ∧ (a1 : Int) ≤ (t.ns.length : Int)) by rw [← K3.out.1.1]; omega)
    have AW := Lib.hid (awake_c (w := u3.drew) (O3.out.up (Below.refl _ u3).drew) B3.out.size)
    have BS := Lib.hid B3.out.size
    have SS := Lib.hid (S2.out.below B3.out)
    clear g1 g2 g3 m0 m1 hA h1 h2
    go_region_held3 (fun w' => w'.cell? ⟨q, 0, none⟩ = some (.slice s.nA s.ns.length s.nc) ∧ w'.cell? ⟨q, 1, none⟩ = some (.slice s.cA s.cs.length s.cc) ∧ w'.cell? ⟨q, 2, none⟩ = some (.int .i64 s.gen))
      (exact MB.all (by first | exact N8.out | exact N7.out | exact N6.out | exact N5.out | exact N4.out | exact N3.out | exact N2.out | exact N1.out | exact M3.out))
      (first
        | (go_at_call 19; refine AW.out.mono ?_; rintro e v1 ⟨rfl, hob, hb⟩; have D1 := Lib.hid (⟨hb.os, hb.tape, hb.output, hb.size, hb.block⟩ : Below u2.heap.size u3 v1); have N1 := Lib.hid (M3.out.up Q2.out D1.out); have LD := Lib.hid (load_no (c := a1) hob ⟨Int.le_refl 0, by omega⟩ HC.out); clear hob hb)
        | (go_at_call 15; refine LD.out.mono ?_; rintro e v2 ⟨rfl, hob, hb⟩; have D2 := Lib.hid (D1.out.trans hb); have N2 := Lib.hid (M3.out.up Q2.out D2.out); have C1 := Lib.hid (cas_no (c := a1) (old := a2) (new := a3) hob ⟨by omega, by omega⟩ HC.out); clear hob hb)
        | (go_at_call 14; refine C2.out.mono ?_; rintro e v4 ⟨rfl, hob, hb⟩; have D4 := Lib.hid (D3.out.trans hb); have N4 := Lib.hid (M3.out.up Q2.out D4.out); have ND := Lib.hid (node_no (r := a1) hob (Nat.le_trans BS.out D4.out.size) HR.out); clear hob hb)
        | (go_at_call 14; refine C1.out.mono ?_; rintro e v3 ⟨rfl, hob, hb⟩; have D3 := Lib.hid (D2.out.trans hb); have N3 := Lib.hid (M3.out.up Q2.out D3.out); have C2 := Lib.hid (cas_no (c := a1) (old := 0) (new := a3) hob ⟨by omega, by omega⟩ HC.out); clear hob hb)
        | (go_at_call 27; refine ND.out.mono ?_; rintro e v5 ⟨y, rfl, hye, hyr, hob, hb⟩; have D5 := Lib.hid (D4.out.trans hb); have N5 := Lib.hid (M3.out.up Q2.out D5.out); have EQ := Lib.hid (equal_c hob (Nat.le_trans BS.out D5.out.size) hyr hye); clear hye hyr hob hb)
        | (go_at_call 29; refine EQ.out.mono ?_; rintro e v6 ⟨rfl, hob, hb⟩; have D6 := Lib.hid (D5.out.trans hb); have N6 := Lib.hid (M3.out.up Q2.out D6.out); have ST := Lib.hid (state_c (s := s) hob (Nat.le_trans BS.out D6.out.size) K3.out.1 K3.out.2.1 K3.out.2.2); clear hob hb)
        | (go_at_call 23; refine ST.out.mono ?_; rintro e v7 ⟨u, rfl, hus, hur, hb⟩; have D7 := Lib.hid (D6.out.trans hb); have N7 := Lib.hid (M3.out.up Q2.out D7.out); have SM := Lib.hid (same_c ((S2.out.below (B3.out.trans D7.out)).more (Nat.le_trans BS.out D7.out.size)) hur hus (Nat.le_trans BS.out D7.out.size)); clear hus hur hb)
        | (go_at_call 22; refine SM.out.mono ?_; rintro e v8 ⟨rfl, hb⟩; have D8 := Lib.hid (D7.out.trans hb); have N8 := Lib.hid (M3.out.up Q2.out D8.out); clear hb))
    all_goals
      go_wp2
      go_ret
      exact ⟨rfl, B2.out.trans ((B3.out.trans D8.out).mono B2.out.size)⟩

/-! ### THE ROW's STEP -/
set_option maxRecDepth 100000 in
theorem lifted (os : Os) (started : os.Started) (H : Type) (enc : TypeId × Value → H) :
    ReturnsInHanded {} Try.checked os 7 .any (Rows.arenaNothingSpec.pre6 enc Try.prog Try.f7 Rows.arenaNothingRow.domain false) (Rows.arenaNothingSpec.post enc Try.prog Try.f7 false true false false) := by
  refine returnsInHanded_of_change (C := Try.checked) own started (by kernel_rfl) Try.func7
    (ChangeSpec.witness6 (enc := enc) (C := Try.checked) false ⟨#[], #[.slice none 0 0, .int .i64 0, .int .i64 0, .int .i64 0], []⟩ 8 (by kernel_rfl) (by kernel_rfl) (by kernel_rfl) (by kernel_rfl)) ?_
  intro W base args ds gs before hval0 hW hcnd _
  have hval : ∀ (j : Nat) t v, Try.f7.params[j]? = some t → args[j]? = some v → Value.okWide Try.prog W .any base t v := hval0
  have hW' := hW
  obtain ⟨p, q, hA0, hV, rfl, hfz, hnd⟩ := hW
  have hA : DataW.TrodAll enc Try.prog W 0 (fun _ => true) true Try.f7.params.toList args.toList ds p := hA0
  rw [Try.params7] at hA hval
  obtain ⟨v0, vs0, d0, ds0, p0, q0, hargs, rfl, rfl, h0, r0⟩ := trodAll_cons hA
  obtain ⟨v1, vs1, d1, ds1, p1, q1, rfl, rfl, rfl, h1, r1⟩ := trodAll_cons r0
  obtain ⟨v2, vs2, d2, ds2, p2, q2, rfl, rfl, rfl, h2, r2⟩ := trodAll_cons r1
  obtain ⟨v3, vs3, d3, ds3, p3, q3, rfl, rfl, rfl, h3, r3⟩ := trodAll_cons r2
  obtain ⟨rfl, rfl, rfl⟩ := trodAll_nil r3
  obtain rfl : args = #[v0, v1, v2, v3] := by cases args; simp_all
  obtain ⟨rfl, rfl⟩ := trodVars_none hV
  obtain ⟨a0, len0, cap0, rfl⟩ := okWide_slice Try.underlying22 (hval 0 22 v0 rfl rfl)
  have k0 := h0
  have lt0 : ∀ x ∈ p0, x.block < W.heap.size := by obtain ⟨m, hm⟩ := k0; exact DataW.trod_lt m _ _ _ hm
  have w0 := open_intsT h0
  obtain ⟨a1, rfl, rfl, rfl, w1⟩ := open_int Try.underlying3 (hval 1 3 v1 rfl rfl) h1
  obtain ⟨a2, rfl, rfl, rfl, w2⟩ := open_int Try.underlying3 (hval 2 3 v2 rfl rfl) h2
  obtain ⟨a3, rfl, rfl, rfl, w3⟩ := open_int Try.underlying3 (hval 3 3 v3 rfl rfl) h3
  clear hA0 hval0
  refine (walk a0 len0 cap0 a1 a2 a3 W w0 w1 w2 w3).mono fun e W' ⟨he, bel⟩ => ?_
  subst he
  exact ⟨_, rfl, _, _, _, [], _, [], hW', trodAll_mk1 (shut_bool Try.underlying4 _), (trodAll_cons_mk (Below.trod laidOut (by kernel_rfl) (of_decide_eq_true (by kernel_rfl)) k0 bel lt0) (trodAll_cons_mk (shut_int Try.underlying3 w1) (trodAll_cons_mk (shut_int Try.underlying3 w2) (trodAll_cons_mk (shut_int Try.underlying3 w3) trodAll_mk0)))), rfl, bel.frame _, fun h => by cases h⟩

theorem over : Rows.arenaNothingRow.holds Try.pinned (OpenSpec.ofChange Rows.arenaNothingSpec) :=
  OpenClaim.holds_of_wide 7 Try.f7 rfl rfl rfl rfl rfl rfl rfl ⟨rfl, rfl, rfl, rfl, rfl⟩ rfl rfl rfl rfl rfl (by kernel_rfl) Try.func7 (by kernel_rfl)
    (of_decide_eq_true (by kernel_rfl)) (by unfold Func.isWrapper; first | (rw [if_pos (by decide +kernel)]; kernel_rfl) | (rw [if_neg (by decide +kernel)]; exact ⟨rfl, rfl⟩))
    (fun os started H enc _ => lifted os started H enc)

/-- ████ THE STATEMENT ████ -/
theorem proved : Rows.ArenaNothingSaid := over
#print axioms proved
end Go.Proofs.Ytcmnmimkjkpimaa.arenaNothing
