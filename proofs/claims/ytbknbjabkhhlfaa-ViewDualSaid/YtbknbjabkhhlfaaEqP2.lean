/-
  The walks of Equal of the program, part 2: nodes that differ first at one field, or at none.
-/
import Derived.Test.YtbknbjabkhhlfaaEqP0
import Derived.BigGuard
set_option linter.unusedVariables false
set_option maxRecDepth 100000
namespace Go.Proofs.Ytbknbjabkhhlfaa
open Go.Shelf Go.RowKit Go.Lib Go.Sort
set_option maxRecDepth 100000 in
set_option maxHeartbeats 8000000 in
theorem equal_bm (kind : Int) (gen : Int) (main : Int) (bm : Int) (bA : Option Addr) (bc : Nat) (bs : List Int) (hash : Int) (key : ByteArray) (val : Int) (pA : Option Addr) (pc : Nat) (ps : List Pr) (prev : Int) (old : Int) (exp : Int) (new : Int) (status : Int) (bm' : Int) (bA' : Option Addr) (bc' : Nat) (bs' : List Int) (hash' : Int) (key' : ByteArray) (val' : Int) (pA' : Option Addr) (pc' : Nat) (ps' : List Pr) (prev' : Int) (old' : Int) (exp' : Int) (new' : Int) (status' : Int) (B : Nat) (w : World) (ha : NRd w B ⟨kind, gen, main, bm, bA, bc, bs, hash, key, val, pA, pc, ps, prev, old, exp, new, status⟩) (hb : NRd w B ⟨kind, gen, main, bm', bA', bc', bs', hash', key', val', pA', pc', ps', prev', old', exp', new', status'⟩) (hB : B ≤ w.heap.size) (h : bm ≠ bm') :
    Calls Try.prog 61 #[.agg (Nd.cs ⟨kind, gen, main, bm, bA, bc, bs, hash, key, val, pA, pc, ps, prev, old, exp, new, status⟩), .agg (Nd.cs ⟨kind, gen, main, bm', bA', bc', bs', hash', key', val', pA', pc', ps', prev', old', exp', new', status'⟩)] w fun e w' => e = .returned (.bool false) ∧ Gr w w' := by
  clear ha hb hB
  unfold Nd.cs
  simp only
  have f0 : (bm == bm') = false := beq_eq_false_iff_ne.2 h
  clear h
  go_enter Try.func61, Try.ntmps61
  simp only [List.append]
  go_wp2
  go_ret
  exact ⟨rfl, ((Gr.refl w).alloc _).alloc _⟩
set_option maxRecDepth 100000 in
set_option maxHeartbeats 8000000 in
theorem equal_key (kind : Int) (gen : Int) (main : Int) (bm : Int) (bA : Option Addr) (bc : Nat) (bs : List Int) (hash : Int) (key : ByteArray) (val : Int) (pA : Option Addr) (pc : Nat) (ps : List Pr) (prev : Int) (old : Int) (exp : Int) (new : Int) (status : Int) (bA' : Option Addr) (bc' : Nat) (key' : ByteArray) (val' : Int) (pA' : Option Addr) (pc' : Nat) (ps' : List Pr) (prev' : Int) (old' : Int) (exp' : Int) (new' : Int) (status' : Int) (B : Nat) (w : World) (ha : NRd w B ⟨kind, gen, main, bm, bA, bc, bs, hash, key, val, pA, pc, ps, prev, old, exp, new, status⟩) (hb : NRd w B ⟨kind, gen, main, bm, bA', bc', bs, hash, key', val', pA', pc', ps', prev', old', exp', new', status'⟩) (hB : B ≤ w.heap.size) (h : key ≠ key') :
    Calls Try.prog 61 #[.agg (Nd.cs ⟨kind, gen, main, bm, bA, bc, bs, hash, key, val, pA, pc, ps, prev, old, exp, new, status⟩), .agg (Nd.cs ⟨kind, gen, main, bm, bA', bc', bs, hash, key', val', pA', pc', ps', prev', old', exp', new', status'⟩)] w fun e w' => e = .returned (.bool false) ∧ Gr w w' := by
  have CR := Lib.hid (fun (W : World) (hW : Gr w W) => sequalR_is (xs := bs) (ys := bs) true (decide_eq_true rfl) bA bc bA' bc' B W (ha.r.gr hB hW) (hb.r.gr hB hW) (Nat.le_trans ha.bl (by omega)) (Nat.le_trans hb.bl (by omega)))
  clear ha hb hB
  unfold Nd.cs
  simp only
  have f0 : (key.toList == key'.toList) = false := by rw [beq_eq_false_iff_ne, Lib.toList_data, Lib.toList_data]; exact fun e => h (key_ext e)
  clear h
  go_enter Try.func61, Try.ntmps61
  simp only [List.append]
  go_wp2_with (first | (go_at_call 76; refine (CR.out _ (((Gr.refl w).alloc _).alloc _)).mono ?_; rintro e w1 ⟨rfl, q1, rfl⟩))
  go_ret
  exact ⟨rfl, (((Gr.refl w).alloc _).alloc _).drewN _⟩
set_option maxRecDepth 100000 in
set_option maxHeartbeats 8000000 in
theorem equal_exp (kind : Int) (gen : Int) (main : Int) (bm : Int) (bA : Option Addr) (bc : Nat) (bs : List Int) (hash : Int) (key : ByteArray) (val : Int) (pA : Option Addr) (pc : Nat) (ps : List Pr) (prev : Int) (old : Int) (exp : Int) (new : Int) (status : Int) (bA' : Option Addr) (bc' : Nat) (pA' : Option Addr) (pc' : Nat) (exp' : Int) (new' : Int) (status' : Int) (B : Nat) (w : World) (ha : NRd w B ⟨kind, gen, main, bm, bA, bc, bs, hash, key, val, pA, pc, ps, prev, old, exp, new, status⟩) (hb : NRd w B ⟨kind, gen, main, bm, bA', bc', bs, hash, key, val, pA', pc', ps, prev, old, exp', new', status'⟩) (hB : B ≤ w.heap.size) (h : exp ≠ exp') :
    Calls Try.prog 61 #[.agg (Nd.cs ⟨kind, gen, main, bm, bA, bc, bs, hash, key, val, pA, pc, ps, prev, old, exp, new, status⟩), .agg (Nd.cs ⟨kind, gen, main, bm, bA', bc', bs, hash, key, val, pA', pc', ps, prev, old, exp', new', status'⟩)] w fun e w' => e = .returned (.bool false) ∧ Gr w w' := by
  have CR := Lib.hid (fun (W : World) (hW : Gr w W) => sequalR_is (xs := bs) (ys := bs) true (decide_eq_true rfl) bA bc bA' bc' B W (ha.r.gr hB hW) (hb.r.gr hB hW) (Nat.le_trans ha.bl (by omega)) (Nat.le_trans hb.bl (by omega)))
  have CP := Lib.hid (fun (W : World) (hW : Gr w W) => sequalP_is (xs := ps) (ys := ps) true (decide_eq_true rfl) pA pc pA' pc' B W (ha.p.gr hB hW) (hb.p.gr hB hW) (Nat.le_trans ha.pl (by omega)) (Nat.le_trans hb.pl (by omega)))
  clear ha hb hB
  unfold Nd.cs
  simp only
  have f0 : (exp == exp') = false := beq_eq_false_iff_ne.2 h
  clear h
  go_enter Try.func61, Try.ntmps61
  simp only [List.append]
  go_wp2_with (first | (go_at_call 76; refine (CR.out _ (((Gr.refl w).alloc _).alloc _)).mono ?_; rintro e w1 ⟨rfl, q1, rfl⟩) | (go_at_call 77; refine (CP.out _ ((((Gr.refl w).alloc _).alloc _).drewN _)).mono ?_; rintro e w2 ⟨rfl, q2, rfl⟩))
  go_ret
  exact ⟨rfl, (((Gr.refl w).alloc _).alloc _).drewN _⟩
set_option maxRecDepth 100000 in
set_option maxHeartbeats 8000000 in
theorem equal_bs (kind : Int) (gen : Int) (main : Int) (bm : Int) (bA : Option Addr) (bc : Nat) (bs : List Int) (hash : Int) (key : ByteArray) (val : Int) (pA : Option Addr) (pc : Nat) (ps : List Pr) (prev : Int) (old : Int) (exp : Int) (new : Int) (status : Int) (bA' : Option Addr) (bc' : Nat) (bs' : List Int) (hash' : Int) (key' : ByteArray) (val' : Int) (pA' : Option Addr) (pc' : Nat) (ps' : List Pr) (prev' : Int) (old' : Int) (exp' : Int) (new' : Int) (status' : Int) (B : Nat) (w : World) (ha : NRd w B ⟨kind, gen, main, bm, bA, bc, bs, hash, key, val, pA, pc, ps, prev, old, exp, new, status⟩) (hb : NRd w B ⟨kind, gen, main, bm, bA', bc', bs', hash', key', val', pA', pc', ps', prev', old', exp', new', status'⟩) (hB : B ≤ w.heap.size) (h : bs ≠ bs') :
    Calls Try.prog 61 #[.agg (Nd.cs ⟨kind, gen, main, bm, bA, bc, bs, hash, key, val, pA, pc, ps, prev, old, exp, new, status⟩), .agg (Nd.cs ⟨kind, gen, main, bm, bA', bc', bs', hash', key', val', pA', pc', ps', prev', old', exp', new', status'⟩)] w fun e w' => e = .returned (.bool false) ∧ Gr w w' := by
  have CR := Lib.hid (fun (W : World) (hW : Gr w W) => sequalR_is (xs := bs) (ys := bs') false (decide_eq_false h) bA bc bA' bc' B W (ha.r.gr hB hW) (hb.r.gr hB hW) (Nat.le_trans ha.bl (by omega)) (Nat.le_trans hb.bl (by omega)))
  clear ha hb hB
  unfold Nd.cs
  simp only
  clear h
  go_enter Try.func61, Try.ntmps61
  simp only [List.append]
  go_wp2_with (first | (go_at_call 76; refine (CR.out _ (((Gr.refl w).alloc _).alloc _)).mono ?_; rintro e w1 ⟨rfl, q1, rfl⟩))
  go_ret
  exact ⟨rfl, (((Gr.refl w).alloc _).alloc _).drewN _⟩
set_option maxRecDepth 100000 in
set_option maxHeartbeats 8000000 in
theorem equal_hash (kind : Int) (gen : Int) (main : Int) (bm : Int) (bA : Option Addr) (bc : Nat) (bs : List Int) (hash : Int) (key : ByteArray) (val : Int) (pA : Option Addr) (pc : Nat) (ps : List Pr) (prev : Int) (old : Int) (exp : Int) (new : Int) (status : Int) (bA' : Option Addr) (bc' : Nat) (hash' : Int) (key' : ByteArray) (val' : Int) (pA' : Option Addr) (pc' : Nat) (ps' : List Pr) (prev' : Int) (old' : Int) (exp' : Int) (new' : Int) (status' : Int) (B : Nat) (w : World) (ha : NRd w B ⟨kind, gen, main, bm, bA, bc, bs, hash, key, val, pA, pc, ps, prev, old, exp, new, status⟩) (hb : NRd w B ⟨kind, gen, main, bm, bA', bc', bs, hash', key', val', pA', pc', ps', prev', old', exp', new', status'⟩) (hB : B ≤ w.heap.size) (h : hash ≠ hash') :
    Calls Try.prog 61 #[.agg (Nd.cs ⟨kind, gen, main, bm, bA, bc, bs, hash, key, val, pA, pc, ps, prev, old, exp, new, status⟩), .agg (Nd.cs ⟨kind, gen, main, bm, bA', bc', bs, hash', key', val', pA', pc', ps', prev', old', exp', new', status'⟩)] w fun e w' => e = .returned (.bool false) ∧ Gr w w' := by
  have CR := Lib.hid (fun (W : World) (hW : Gr w W) => sequalR_is (xs := bs) (ys := bs) true (decide_eq_true rfl) bA bc bA' bc' B W (ha.r.gr hB hW) (hb.r.gr hB hW) (Nat.le_trans ha.bl (by omega)) (Nat.le_trans hb.bl (by omega)))
  clear ha hb hB
  unfold Nd.cs
  simp only
  have f0 : (hash == hash') = false := beq_eq_false_iff_ne.2 h
  clear h
  go_enter Try.func61, Try.ntmps61
  simp only [List.append]
  go_wp2_with (first | (go_at_call 76; refine (CR.out _ (((Gr.refl w).alloc _).alloc _)).mono ?_; rintro e w1 ⟨rfl, q1, rfl⟩))
  go_ret
  exact ⟨rfl, (((Gr.refl w).alloc _).alloc _).drewN _⟩
set_option maxRecDepth 100000 in
set_option maxHeartbeats 8000000 in
theorem equal_prev (kind : Int) (gen : Int) (main : Int) (bm : Int) (bA : Option Addr) (bc : Nat) (bs : List Int) (hash : Int) (key : ByteArray) (val : Int) (pA : Option Addr) (pc : Nat) (ps : List Pr) (prev : Int) (old : Int) (exp : Int) (new : Int) (status : Int) (bA' : Option Addr) (bc' : Nat) (pA' : Option Addr) (pc' : Nat) (prev' : Int) (old' : Int) (exp' : Int) (new' : Int) (status' : Int) (B : Nat) (w : World) (ha : NRd w B ⟨kind, gen, main, bm, bA, bc, bs, hash, key, val, pA, pc, ps, prev, old, exp, new, status⟩) (hb : NRd w B ⟨kind, gen, main, bm, bA', bc', bs, hash, key, val, pA', pc', ps, prev', old', exp', new', status'⟩) (hB : B ≤ w.heap.size) (h : prev ≠ prev') :
    Calls Try.prog 61 #[.agg (Nd.cs ⟨kind, gen, main, bm, bA, bc, bs, hash, key, val, pA, pc, ps, prev, old, exp, new, status⟩), .agg (Nd.cs ⟨kind, gen, main, bm, bA', bc', bs, hash, key, val, pA', pc', ps, prev', old', exp', new', status'⟩)] w fun e w' => e = .returned (.bool false) ∧ Gr w w' := by
  have CR := Lib.hid (fun (W : World) (hW : Gr w W) => sequalR_is (xs := bs) (ys := bs) true (decide_eq_true rfl) bA bc bA' bc' B W (ha.r.gr hB hW) (hb.r.gr hB hW) (Nat.le_trans ha.bl (by omega)) (Nat.le_trans hb.bl (by omega)))
  have CP := Lib.hid (fun (W : World) (hW : Gr w W) => sequalP_is (xs := ps) (ys := ps) true (decide_eq_true rfl) pA pc pA' pc' B W (ha.p.gr hB hW) (hb.p.gr hB hW) (Nat.le_trans ha.pl (by omega)) (Nat.le_trans hb.pl (by omega)))
  clear ha hb hB
  unfold Nd.cs
  simp only
  have f0 : (prev == prev') = false := beq_eq_false_iff_ne.2 h
  clear h
  go_enter Try.func61, Try.ntmps61
  simp only [List.append]
  go_wp2_with (first | (go_at_call 76; refine (CR.out _ (((Gr.refl w).alloc _).alloc _)).mono ?_; rintro e w1 ⟨rfl, q1, rfl⟩) | (go_at_call 77; refine (CP.out _ ((((Gr.refl w).alloc _).alloc _).drewN _)).mono ?_; rintro e w2 ⟨rfl, q2, rfl⟩))
  go_ret
  exact ⟨rfl, (((Gr.refl w).alloc _).alloc _).drewN _⟩
set_option maxRecDepth 100000 in
set_option maxHeartbeats 8000000 in
theorem equal_old (kind : Int) (gen : Int) (main : Int) (bm : Int) (bA : Option Addr) (bc : Nat) (bs : List Int) (hash : Int) (key : ByteArray) (val : Int) (pA : Option Addr) (pc : Nat) (ps : List Pr) (prev : Int) (old : Int) (exp : Int) (new : Int) (status : Int) (bA' : Option Addr) (bc' : Nat) (pA' : Option Addr) (pc' : Nat) (old' : Int) (exp' : Int) (new' : Int) (status' : Int) (B : Nat) (w : World) (ha : NRd w B ⟨kind, gen, main, bm, bA, bc, bs, hash, key, val, pA, pc, ps, prev, old, exp, new, status⟩) (hb : NRd w B ⟨kind, gen, main, bm, bA', bc', bs, hash, key, val, pA', pc', ps, prev, old', exp', new', status'⟩) (hB : B ≤ w.heap.size) (h : old ≠ old') :
    Calls Try.prog 61 #[.agg (Nd.cs ⟨kind, gen, main, bm, bA, bc, bs, hash, key, val, pA, pc, ps, prev, old, exp, new, status⟩), .agg (Nd.cs ⟨kind, gen, main, bm, bA', bc', bs, hash, key, val, pA', pc', ps, prev, old', exp', new', status'⟩)] w fun e w' => e = .returned (.bool false) ∧ Gr w w' := by
  have CR := Lib.hid (fun (W : World) (hW : Gr w W) => sequalR_is (xs := bs) (ys := bs) true (decide_eq_true rfl) bA bc bA' bc' B W (ha.r.gr hB hW) (hb.r.gr hB hW) (Nat.le_trans ha.bl (by omega)) (Nat.le_trans hb.bl (by omega)))
  have CP := Lib.hid (fun (W : World) (hW : Gr w W) => sequalP_is (xs := ps) (ys := ps) true (decide_eq_true rfl) pA pc pA' pc' B W (ha.p.gr hB hW) (hb.p.gr hB hW) (Nat.le_trans ha.pl (by omega)) (Nat.le_trans hb.pl (by omega)))
  clear ha hb hB
  unfold Nd.cs
  simp only
  have f0 : (old == old') = false := beq_eq_false_iff_ne.2 h
  clear h
  go_enter Try.func61, Try.ntmps61
  simp only [List.append]
  go_wp2_with (first | (go_at_call 76; refine (CR.out _ (((Gr.refl w).alloc _).alloc _)).mono ?_; rintro e w1 ⟨rfl, q1, rfl⟩) | (go_at_call 77; refine (CP.out _ ((((Gr.refl w).alloc _).alloc _).drewN _)).mono ?_; rintro e w2 ⟨rfl, q2, rfl⟩))
  go_ret
  exact ⟨rfl, (((Gr.refl w).alloc _).alloc _).drewN _⟩

end Go.Proofs.Ytbknbjabkhhlfaa
