/-
  The walks of Main, and of the parts of Valid: cells and fields that are permitted.
-/
import Derived.Test.YtbknbjabkhhlfaaOwnA
import Derived.BigGuard
import Derived.Shelf.SlicesQ.Load
set_option linter.unusedVariables false
set_option maxRecDepth 100000
namespace Go.Proofs.Ytbknbjabkhhlfaa
open Go.Shelf Go.RowKit Go.Lib Go.Sort

def mainB (n : Nd) : Bool := n.kind == 3 || (n.kind == 5 || n.kind == 6)
def cellsB (n : Nd) : Bool := decide (0 ≤ n.main) && (decide (0 ≤ n.prev) && decide (0 ≤ n.status))
noncomputable def fieldsB (n : Nd) : Bool :=
  if n.kind = 1 then true
  else if n.kind = 2 then decide (1 ≤ n.gen)
  else if n.kind = 3 then ((n.bs.length : Int) == cntI n.bm) && !lowB n.bs
  else if n.kind = 4 then !longK n.key
  else if n.kind = 5 then !longK n.key
  else if n.kind = 6 then decide (2 ≤ n.ps.length) && (validB n.ps && !longB n.ps)
  else if n.kind = 7 then !lowK n.old
  else if n.kind = 8 then !lowK n.old && (!lowK n.exp && !lowK n.new)
  else false
noncomputable def validN (n : Nd) : Bool := eqN n (own n) && (cellsB n && fieldsB n)

set_option maxHeartbeats 2000000 in
theorem main_any (n : Nd) (w : World) : Calls Try.prog 47 #[.agg n.cs] w fun e w' => e = .returned (.bool (mainB n)) ∧ Gr w w' := by
  obtain ⟨kind, gen, main, bm, bA, bc, bs, hash, key, val, pA, pc, ps, prev, old, exp, new, status⟩ := n
  by_cases k3 : kind = 3
  · subst k3
    rw [show mainB ⟨3, gen, main, bm, bA, bc, bs, hash, key, val, pA, pc, ps, prev, old, exp, new, status⟩ = true by simp [mainB]]
    unfold Nd.cs
    simp only
    go_enter Try.func47, Try.ntmps47
    go_wp2
    go_ret
    exact ⟨rfl, (Gr.refl w).alloc _⟩
  by_cases k5 : kind = 5
  · subst k5
    rw [show mainB ⟨5, gen, main, bm, bA, bc, bs, hash, key, val, pA, pc, ps, prev, old, exp, new, status⟩ = true by simp [mainB]]
    unfold Nd.cs
    simp only
    go_enter Try.func47, Try.ntmps47
    go_wp2
    go_ret
    exact ⟨rfl, (Gr.refl w).alloc _⟩
  by_cases k6 : kind = 6
  · subst k6
    rw [show mainB ⟨6, gen, main, bm, bA, bc, bs, hash, key, val, pA, pc, ps, prev, old, exp, new, status⟩ = true by simp [mainB]]
    unfold Nd.cs
    simp only
    go_enter Try.func47, Try.ntmps47
    go_wp2
    go_ret
    exact ⟨rfl, (Gr.refl w).alloc _⟩
  rw [show mainB ⟨kind, gen, main, bm, bA, bc, bs, hash, key, val, pA, pc, ps, prev, old, exp, new, status⟩ = false by simp [mainB, k3, k5, k6]]
  unfold Nd.cs
  simp only
  have f3 : (kind == 3) = false := beq_eq_false_iff_ne.2 k3
  have f5 : (kind == 5) = false := beq_eq_false_iff_ne.2 k5
  have f6 : (kind == 6) = false := beq_eq_false_iff_ne.2 k6
  clear k3 k5 k6
  go_enter Try.func47, Try.ntmps47
  go_wp2
  go_ret
  exact ⟨rfl, (Gr.refl w).alloc _⟩

set_option maxHeartbeats 2000000 in
theorem cells_any (n : Nd) (w : World) : Calls Try.prog 63 #[.agg n.cs] w fun e w' => e = .returned (.bool (cellsB n)) ∧ Gr w w' := by
  obtain ⟨kind, gen, main, bm, bA, bc, bs, hash, key, val, pA, pc, ps, prev, old, exp, new, status⟩ := n
  by_cases hmain : 0 ≤ main
  rotate_left
  · rw [show cellsB ⟨kind, gen, main, bm, bA, bc, bs, hash, key, val, pA, pc, ps, prev, old, exp, new, status⟩ = false by simp [cellsB, hmain]]
    have dmain : decide (main ≥ 0) = false := decide_eq_false hmain
    unfold Nd.cs
    simp only
    go_enter Try.func63, Try.ntmps63
    go_wp2
    go_ret
    exact ⟨rfl, (Gr.refl w).alloc _⟩
  by_cases hprev : 0 ≤ prev
  rotate_left
  · rw [show cellsB ⟨kind, gen, main, bm, bA, bc, bs, hash, key, val, pA, pc, ps, prev, old, exp, new, status⟩ = false by simp [cellsB, hprev]]
    have dprev : decide (prev ≥ 0) = false := decide_eq_false hprev
    unfold Nd.cs
    simp only
    go_enter Try.func63, Try.ntmps63
    go_wp2
    go_ret
    exact ⟨rfl, (Gr.refl w).alloc _⟩
  by_cases hstatus : 0 ≤ status
  rotate_left
  · rw [show cellsB ⟨kind, gen, main, bm, bA, bc, bs, hash, key, val, pA, pc, ps, prev, old, exp, new, status⟩ = false by simp [cellsB, hstatus]]
    have dstatus : decide (status ≥ 0) = false := decide_eq_false hstatus
    unfold Nd.cs
    simp only
    go_enter Try.func63, Try.ntmps63
    go_wp2
    go_ret
    exact ⟨rfl, (Gr.refl w).alloc _⟩
  rw [show cellsB ⟨kind, gen, main, bm, bA, bc, bs, hash, key, val, pA, pc, ps, prev, old, exp, new, status⟩ = true by simp [cellsB, hmain, hprev, hstatus]]
  unfold Nd.cs
  simp only
  go_enter Try.func63, Try.ntmps63
  go_wp2
  go_ret
  exact ⟨rfl, (Gr.refl w).alloc _⟩

theorem validB_dec (xs : List Pr) : validB xs = true ∨ validB xs = false := by cases validB xs <;> simp

set_option maxRecDepth 100000 in
set_option maxHeartbeats 4000000 in
theorem fields1 (n : Nd) (B : Nat) (w : World) (h : NRd w B n) (hB : B ≤ w.heap.size) (hk : n.kind = 1) :
    Calls Try.prog 64 #[.agg n.cs] w fun e w' => e = .returned (.bool (fieldsB n)) ∧ Gr w w' := by
  obtain ⟨kind, gen, main, bm, bA, bc, bs, hash, key, val, pA, pc, ps, prev, old, exp, new, status⟩ := n
  simp only at hk
  subst hk
  rw [show fieldsB ⟨1, gen, main, bm, bA, bc, bs, hash, key, val, pA, pc, ps, prev, old, exp, new, status⟩ = true by simp [fieldsB]]
  clear h
  unfold Nd.cs
  simp only
  go_enter Try.func64, Try.ntmps64
  go_wp2
  go_ret
  exact ⟨rfl, (Gr.refl w).alloc _⟩

set_option maxRecDepth 100000 in
set_option maxHeartbeats 4000000 in
theorem fields2 (n : Nd) (B : Nat) (w : World) (h : NRd w B n) (hB : B ≤ w.heap.size) (hk : n.kind = 2) :
    Calls Try.prog 64 #[.agg n.cs] w fun e w' => e = .returned (.bool (fieldsB n)) ∧ Gr w w' := by
  obtain ⟨kind, gen, main, bm, bA, bc, bs, hash, key, val, pA, pc, ps, prev, old, exp, new, status⟩ := n
  simp only at hk
  subst hk
  clear h
  rw [show fieldsB ⟨2, gen, main, bm, bA, bc, bs, hash, key, val, pA, pc, ps, prev, old, exp, new, status⟩ = decide (1 ≤ gen) by simp [fieldsB]]
  unfold Nd.cs
  simp only
  go_enter Try.func64, Try.ntmps64
  go_wp2
  go_ret
  exact ⟨rfl, (Gr.refl w).alloc _⟩

set_option maxRecDepth 100000 in
set_option maxHeartbeats 4000000 in
theorem fields3 (n : Nd) (B : Nat) (w : World) (h : NRd w B n) (hB : B ≤ w.heap.size) (hk : n.kind = 3) :
    Calls Try.prog 64 #[.agg n.cs] w fun e w' => e = .returned (.bool (fieldsB n)) ∧ Gr w w' := by
  obtain ⟨kind, gen, main, bm, bA, bc, bs, hash, key, val, pA, pc, ps, prev, old, exp, new, status⟩ := n
  simp only at hk
  subst hk
  have CC := Lib.hid (fun W => count_any bm h.bm W)
  have CH := Lib.hid (fun (W : World) (hW : Gr w W) => hasR_any bA bc bs B W (h.r.gr hB hW) (Nat.le_trans h.bl (by omega)))
  clear h hB
  have mixed := mixedOrders
  unfold Nd.cs
  simp only
  by_cases hc : (bs.length : Int) = cntI bm
  · rw [show fieldsB ⟨3, gen, main, bm, bA, bc, bs, hash, key, val, pA, pc, ps, prev, old, exp, new, status⟩ = !lowB bs by simp [fieldsB, hc]]
    have tc : ((bs.length : Int) == cntI bm) = true := beq_iff_eq.2 hc
    clear hc
    generalize hcn : cntI bm = cn at CC tc
    clear hcn
    go_enter Try.func64, Try.ntmps64
    go_wp2_with fail
    obtain ⟨W, hW⟩ : ∃ W, W = w.alloc (.cells #[.int .i64 3, .int .i64 gen, .int .i64 main, .int .u64 bm, .slice bA bs.length bc, .int .u64 hash, .string key, .int .u64 val, .slice pA ps.length pc, .int .i64 prev, .int .i64 old, .int .i64 exp, .int .i64 new, .int .i64 status] 35) := ⟨_, rfl⟩
    rw [← hW]
    have GW := Lib.hid (show Gr w W by rw [hW]; exact (Gr.refl w).alloc _)
    have c3 := cell_grown (w := W) (a := ⟨w.heap.size, 3, none⟩) (v := .int .u64 bm) (by rw [hW]; simp) (by rw [hW]; simp)
    have c4 := cell_grown (w := W) (a := ⟨w.heap.size, 4, none⟩) (v := .slice bA bs.length bc) (by rw [hW]; simp) (by rw [hW]; simp)
    clear hW
    go_quiet_grown (first | (go_at_call 78; exact Gr.called ((CC.out _).mono fun _ _ ⟨h1, h2⟩ => ⟨h1, h2 ▸ Gr.refl _⟩)) | (go_at_call 53; exact Gr.called (CH.out _ (GW.out.grow _ _))))
    go_wp2
    go_ret
    exact ⟨rfl, GW.out.grow _ _⟩
  · rw [show fieldsB ⟨3, gen, main, bm, bA, bc, bs, hash, key, val, pA, pc, ps, prev, old, exp, new, status⟩ = false by simp [fieldsB, hc]]
    have tc : ((bs.length : Int) == cntI bm) = false := beq_eq_false_iff_ne.2 hc
    clear hc
    generalize hcn : cntI bm = cn at CC tc
    clear hcn
    go_enter Try.func64, Try.ntmps64
    go_wp2_with fail
    obtain ⟨W, hW⟩ : ∃ W, W = w.alloc (.cells #[.int .i64 3, .int .i64 gen, .int .i64 main, .int .u64 bm, .slice bA bs.length bc, .int .u64 hash, .string key, .int .u64 val, .slice pA ps.length pc, .int .i64 prev, .int .i64 old, .int .i64 exp, .int .i64 new, .int .i64 status] 35) := ⟨_, rfl⟩
    rw [← hW]
    have GW := Lib.hid (show Gr w W by rw [hW]; exact (Gr.refl w).alloc _)
    have c3 := cell_grown (w := W) (a := ⟨w.heap.size, 3, none⟩) (v := .int .u64 bm) (by rw [hW]; simp) (by rw [hW]; simp)
    have c4 := cell_grown (w := W) (a := ⟨w.heap.size, 4, none⟩) (v := .slice bA bs.length bc) (by rw [hW]; simp) (by rw [hW]; simp)
    clear hW
    go_quiet_grown (first | (go_at_call 78; exact Gr.called ((CC.out _).mono fun _ _ ⟨h1, h2⟩ => ⟨h1, h2 ▸ Gr.refl _⟩)))
    go_wp2
    go_ret
    exact ⟨rfl, GW.out.grow _ _⟩

set_option maxRecDepth 100000 in
set_option maxHeartbeats 4000000 in
theorem fields4 (n : Nd) (B : Nat) (w : World) (h : NRd w B n) (hB : B ≤ w.heap.size) (hk : n.kind = 4) :
    Calls Try.prog 64 #[.agg n.cs] w fun e w' => e = .returned (.bool (fieldsB n)) ∧ Gr w w' := by
  obtain ⟨kind, gen, main, bm, bA, bc, bs, hash, key, val, pA, pc, ps, prev, old, exp, new, status⟩ := n
  simp only at hk
  subst hk
  clear h
  by_cases hl : (64 : Int) < (key.size : Int)
  · rw [show fieldsB ⟨4, gen, main, bm, bA, bc, bs, hash, key, val, pA, pc, ps, prev, old, exp, new, status⟩ = false by simp [fieldsB, longK, hl]]
    have d : decide ((key.size : Int) ≤ 64) = false := decide_eq_false (by omega)
    unfold Nd.cs
    simp only
    go_enter Try.func64, Try.ntmps64
    go_wp2
    go_ret
    exact ⟨rfl, (Gr.refl w).alloc _⟩
  · rw [show fieldsB ⟨4, gen, main, bm, bA, bc, bs, hash, key, val, pA, pc, ps, prev, old, exp, new, status⟩ = true by simp [fieldsB, longK, hl]]
    have d : decide ((key.size : Int) ≤ 64) = true := decide_eq_true (by omega)
    unfold Nd.cs
    simp only
    go_enter Try.func64, Try.ntmps64
    go_wp2
    go_ret
    exact ⟨rfl, (Gr.refl w).alloc _⟩

set_option maxRecDepth 100000 in
set_option maxHeartbeats 4000000 in
theorem fields5 (n : Nd) (B : Nat) (w : World) (h : NRd w B n) (hB : B ≤ w.heap.size) (hk : n.kind = 5) :
    Calls Try.prog 64 #[.agg n.cs] w fun e w' => e = .returned (.bool (fieldsB n)) ∧ Gr w w' := by
  obtain ⟨kind, gen, main, bm, bA, bc, bs, hash, key, val, pA, pc, ps, prev, old, exp, new, status⟩ := n
  simp only at hk
  subst hk
  clear h
  by_cases hl : (64 : Int) < (key.size : Int)
  · rw [show fieldsB ⟨5, gen, main, bm, bA, bc, bs, hash, key, val, pA, pc, ps, prev, old, exp, new, status⟩ = false by simp [fieldsB, longK, hl]]
    have d : decide ((key.size : Int) ≤ 64) = false := decide_eq_false (by omega)
    unfold Nd.cs
    simp only
    go_enter Try.func64, Try.ntmps64
    go_wp2
    go_ret
    exact ⟨rfl, (Gr.refl w).alloc _⟩
  · rw [show fieldsB ⟨5, gen, main, bm, bA, bc, bs, hash, key, val, pA, pc, ps, prev, old, exp, new, status⟩ = true by simp [fieldsB, longK, hl]]
    have d : decide ((key.size : Int) ≤ 64) = true := decide_eq_true (by omega)
    unfold Nd.cs
    simp only
    go_enter Try.func64, Try.ntmps64
    go_wp2
    go_ret
    exact ⟨rfl, (Gr.refl w).alloc _⟩

set_option maxRecDepth 100000 in
set_option maxHeartbeats 4000000 in
theorem fields6 (n : Nd) (B : Nat) (w : World) (h : NRd w B n) (hB : B ≤ w.heap.size) (hk : n.kind = 6) :
    Calls Try.prog 64 #[.agg n.cs] w fun e w' => e = .returned (.bool (fieldsB n)) ∧ Gr w w' := by
  obtain ⟨kind, gen, main, bm, bA, bc, bs, hash, key, val, pA, pc, ps, prev, old, exp, new, status⟩ := n
  simp only at hk
  subst hk
  have CV := Lib.hid (fun (W : World) (hW : Gr w W) => pvalid_any pA pc ps B W (h.p.gr hB hW) (Nat.lt_of_le_of_lt h.pl (by omega)))
  have CH := Lib.hid (fun (W : World) (hW : Gr w W) => hasP_any pA pc ps B W (h.p.gr hB hW) (Nat.le_trans hB hW.size) (Nat.le_trans h.pl (by omega)))
  clear h hB
  unfold Nd.cs
  simp only
  by_cases hc : 2 ≤ ps.length
  · have d : decide ((ps.length : Int) ≥ 2) = true := decide_eq_true (by omega)
    cases hv : validB ps with
    | true =>
      rw [show fieldsB ⟨6, gen, main, bm, bA, bc, bs, hash, key, val, pA, pc, ps, prev, old, exp, new, status⟩ = !longB ps by simp [fieldsB, hc, hv]]
      rw [hv] at CV
      clear hc hv
      go_enter Try.func64, Try.ntmps64
      go_wp2_with (first | (go_at_call 80; refine (CV.out _ ((Gr.refl w).alloc _)).mono ?_; rintro e w1 ⟨rfl, q1, rfl⟩) | (go_at_call 81; refine (CH.out _ (((Gr.refl w).alloc _).drewN _)).mono ?_; rintro e w2 ⟨rfl, hg⟩; have GG := Lib.hid hg; clear hg))
      go_ret
      exact ⟨rfl, (((Gr.refl w).alloc _).drewN _).trans GG.out⟩
    | false =>
      rw [show fieldsB ⟨6, gen, main, bm, bA, bc, bs, hash, key, val, pA, pc, ps, prev, old, exp, new, status⟩ = false by simp [fieldsB, hv]]
      rw [hv] at CV
      clear hc hv CH
      go_enter Try.func64, Try.ntmps64
      go_wp2_with (first | (go_at_call 80; refine (CV.out _ ((Gr.refl w).alloc _)).mono ?_; rintro e w1 ⟨rfl, q1, rfl⟩))
      go_ret
      exact ⟨rfl, ((Gr.refl w).alloc _).drewN _⟩
  · rw [show fieldsB ⟨6, gen, main, bm, bA, bc, bs, hash, key, val, pA, pc, ps, prev, old, exp, new, status⟩ = false by simp [fieldsB, hc]]
    have d : decide ((ps.length : Int) ≥ 2) = false := decide_eq_false (by omega)
    clear hc CV CH
    go_enter Try.func64, Try.ntmps64
    go_wp2
    go_ret
    exact ⟨rfl, (Gr.refl w).alloc _⟩

set_option maxRecDepth 100000 in
set_option maxHeartbeats 4000000 in
theorem fields7 (n : Nd) (B : Nat) (w : World) (h : NRd w B n) (hB : B ≤ w.heap.size) (hk : n.kind = 7) :
    Calls Try.prog 64 #[.agg n.cs] w fun e w' => e = .returned (.bool (fieldsB n)) ∧ Gr w w' := by
  obtain ⟨kind, gen, main, bm, bA, bc, bs, hash, key, val, pA, pc, ps, prev, old, exp, new, status⟩ := n
  simp only at hk
  subst hk
  clear h
  rw [show fieldsB ⟨7, gen, main, bm, bA, bc, bs, hash, key, val, pA, pc, ps, prev, old, exp, new, status⟩ = !lowK old by simp [fieldsB]]
  unfold Nd.cs
  simp only
  go_enter Try.func64, Try.ntmps64
  go_wp2_with (go_at_call 79; refine (noNode_any _ _).mono ?_; rintro e w1 ⟨rfl, rfl⟩)
  go_ret
  exact ⟨rfl, (Gr.refl w).alloc _⟩

set_option maxRecDepth 100000 in
set_option maxHeartbeats 4000000 in
theorem fields8 (n : Nd) (B : Nat) (w : World) (h : NRd w B n) (hB : B ≤ w.heap.size) (hk : n.kind = 8) :
    Calls Try.prog 64 #[.agg n.cs] w fun e w' => e = .returned (.bool (fieldsB n)) ∧ Gr w w' := by
  obtain ⟨kind, gen, main, bm, bA, bc, bs, hash, key, val, pA, pc, ps, prev, old, exp, new, status⟩ := n
  simp only at hk
  subst hk
  clear h
  cases he : lowK exp with
  | true =>
    rw [show fieldsB ⟨8, gen, main, bm, bA, bc, bs, hash, key, val, pA, pc, ps, prev, old, exp, new, status⟩ = false by simp [fieldsB, he]]
    unfold Nd.cs
    simp only
    go_enter Try.func64, Try.ntmps64
    go_wp2_with (go_at_call 79; refine (noNode_any _ _).mono ?_; rintro e w1 ⟨rfl, rfl⟩)
    go_ret
    exact ⟨rfl, (Gr.refl w).alloc _⟩
  | false =>
    cases hn : lowK new with
    | true =>
      rw [show fieldsB ⟨8, gen, main, bm, bA, bc, bs, hash, key, val, pA, pc, ps, prev, old, exp, new, status⟩ = false by simp [fieldsB, hn]]
      unfold Nd.cs
      simp only
      go_enter Try.func64, Try.ntmps64
      go_wp2_with (go_at_call 79; refine (noNode_any _ _).mono ?_; rintro e w1 ⟨rfl, rfl⟩)
      go_ret
      exact ⟨rfl, (Gr.refl w).alloc _⟩
    | false =>
      rw [show fieldsB ⟨8, gen, main, bm, bA, bc, bs, hash, key, val, pA, pc, ps, prev, old, exp, new, status⟩ = !lowK old by simp [fieldsB, he, hn]]
      unfold Nd.cs
      simp only
      go_enter Try.func64, Try.ntmps64
      go_wp2_with (go_at_call 79; refine (noNode_any _ _).mono ?_; rintro e w1 ⟨rfl, rfl⟩)
      go_ret
      exact ⟨rfl, (Gr.refl w).alloc _⟩

set_option maxRecDepth 100000 in
set_option maxHeartbeats 4000000 in
theorem fields0 (n : Nd) (w : World) (hk : n.kind ≠ 1 ∧ n.kind ≠ 2 ∧ n.kind ≠ 3 ∧ n.kind ≠ 4 ∧ n.kind ≠ 5 ∧ n.kind ≠ 6 ∧ n.kind ≠ 7 ∧ n.kind ≠ 8) :
    Calls Try.prog 64 #[.agg n.cs] w fun e w' => e = .returned (.bool (fieldsB n)) ∧ Gr w w' := by
  obtain ⟨kind, gen, main, bm, bA, bc, bs, hash, key, val, pA, pc, ps, prev, old, exp, new, status⟩ := n
  simp only [ne_eq] at hk
  obtain ⟨k1, k2, k3, k4, k5, k6, k7, k8⟩ := hk
  rw [show fieldsB ⟨kind, gen, main, bm, bA, bc, bs, hash, key, val, pA, pc, ps, prev, old, exp, new, status⟩ = false by simp [fieldsB, k1, k2, k3, k4, k5, k6, k7, k8]]
  have f1 : (kind == 1) = false := beq_eq_false_iff_ne.2 k1
  have f2 : (kind == 2) = false := beq_eq_false_iff_ne.2 k2
  have f3 : (kind == 3) = false := beq_eq_false_iff_ne.2 k3
  have f4 : (kind == 4) = false := beq_eq_false_iff_ne.2 k4
  have f5 : (kind == 5) = false := beq_eq_false_iff_ne.2 k5
  have f6 : (kind == 6) = false := beq_eq_false_iff_ne.2 k6
  have f7 : (kind == 7) = false := beq_eq_false_iff_ne.2 k7
  have f8 : (kind == 8) = false := beq_eq_false_iff_ne.2 k8
  clear k1 k2 k3 k4 k5 k6 k7 k8
  unfold Nd.cs
  simp only
  go_enter Try.func64, Try.ntmps64
  go_wp2
  go_ret
  exact ⟨rfl, (Gr.refl w).alloc _⟩
theorem fields_any (n : Nd) (B : Nat) (w : World) (h : NRd w B n) (hB : B ≤ w.heap.size) : Calls Try.prog 64 #[.agg n.cs] w fun e w' => e = .returned (.bool (fieldsB n)) ∧ Gr w w' := by
  by_cases k1 : n.kind = 1
  · exact fields1 n B w h hB k1
  by_cases k2 : n.kind = 2
  · exact fields2 n B w h hB k2
  by_cases k3 : n.kind = 3
  · exact fields3 n B w h hB k3
  by_cases k4 : n.kind = 4
  · exact fields4 n B w h hB k4
  by_cases k5 : n.kind = 5
  · exact fields5 n B w h hB k5
  by_cases k6 : n.kind = 6
  · exact fields6 n B w h hB k6
  by_cases k7 : n.kind = 7
  · exact fields7 n B w h hB k7
  by_cases k8 : n.kind = 8
  · exact fields8 n B w h hB k8
  exact fields0 n w ⟨k1, k2, k3, k4, k5, k6, k7, k8⟩

end Go.Proofs.Ytbknbjabkhhlfaa
