/-
  The walks of ownFields: a node without the fields that its kind does not have.
-/
import Derived.Test.YtbknbjabkhhlfaaOwnA
import Derived.BigGuard
set_option linter.unusedVariables false
set_option maxRecDepth 100000
namespace Go.Proofs.Ytbknbjabkhhlfaa
open Go.Shelf Go.RowKit Go.Lib Go.Sort
set_option maxRecDepth 100000 in
set_option maxHeartbeats 8000000 in
theorem own1 (n : Nd) (w : World) (hk : n.kind = 1) :
    Calls Try.prog 62 #[.agg n.cs] w fun e w' => e = .returned (.agg (own n).cs) ∧ Gr w w' := by
  obtain ⟨kind, gen, main, bm, bA, bc, bs, hash, key, val, pA, pc, ps, prev, old, exp, new, status⟩ := n
  simp only at hk
  subst hk
  rw [show (own ⟨1, gen, main, bm, bA, bc, bs, hash, key, val, pA, pc, ps, prev, old, exp, new, status⟩).cs = #[.int .i64 1, .int .i64 0, .int .i64 0, .int .u64 0, .slice none 0 0, .int .u64 0, .string ⟨#[]⟩, .int .u64 0, .slice none 0 0, .int .i64 0, .int .i64 0, .int .i64 0, .int .i64 0, .int .i64 0] by simp [own, Nd.cs, Nd.zero]]
  unfold Nd.cs
  simp only
  have mixed := mixedOrders
  go_enter Try.func62, Try.ntmps62
  go_wp2
  exact bodyPost_ret (v := .agg #[.int .i64 1, .int .i64 0, .int .i64 0, .int .u64 0, .slice none 0 0, .int .u64 0, .string ⟨#[]⟩, .int .u64 0, .slice none 0 0, .int .i64 0, .int .i64 0, .int .i64 0, .int .i64 0, .int .i64 0]) (by simp [results, Try.results62, go_sem]) rfl ⟨rfl, (((Gr.refl w).alloc _).alloc _).alloc _⟩
set_option maxRecDepth 100000 in
set_option maxHeartbeats 8000000 in
theorem own2 (n : Nd) (w : World) (hk : n.kind = 2) :
    Calls Try.prog 62 #[.agg n.cs] w fun e w' => e = .returned (.agg (own n).cs) ∧ Gr w w' := by
  obtain ⟨kind, gen, main, bm, bA, bc, bs, hash, key, val, pA, pc, ps, prev, old, exp, new, status⟩ := n
  simp only at hk
  subst hk
  rw [show (own ⟨2, gen, main, bm, bA, bc, bs, hash, key, val, pA, pc, ps, prev, old, exp, new, status⟩).cs = #[.int .i64 2, .int .i64 gen, .int .i64 main, .int .u64 0, .slice none 0 0, .int .u64 0, .string ⟨#[]⟩, .int .u64 0, .slice none 0 0, .int .i64 0, .int .i64 0, .int .i64 0, .int .i64 0, .int .i64 0] by simp [own, Nd.cs, Nd.zero]]
  unfold Nd.cs
  simp only
  have mixed := mixedOrders
  go_enter Try.func62, Try.ntmps62
  go_wp2
  go_region
  go_wp2
  exact bodyPost_ret (v := .agg #[.int .i64 2, .int .i64 gen, .int .i64 main, .int .u64 0, .slice none 0 0, .int .u64 0, .string ⟨#[]⟩, .int .u64 0, .slice none 0 0, .int .i64 0, .int .i64 0, .int .i64 0, .int .i64 0, .int .i64 0]) (by simp [results, Try.results62, go_sem]) rfl ⟨rfl, ((((Gr.refl w).alloc _).alloc _).alloc _).drewN 1⟩
set_option maxRecDepth 100000 in
set_option maxHeartbeats 8000000 in
theorem own3 (n : Nd) (w : World) (hk : n.kind = 3) :
    Calls Try.prog 62 #[.agg n.cs] w fun e w' => e = .returned (.agg (own n).cs) ∧ Gr w w' := by
  obtain ⟨kind, gen, main, bm, bA, bc, bs, hash, key, val, pA, pc, ps, prev, old, exp, new, status⟩ := n
  simp only at hk
  subst hk
  rw [show (own ⟨3, gen, main, bm, bA, bc, bs, hash, key, val, pA, pc, ps, prev, old, exp, new, status⟩).cs = #[.int .i64 3, .int .i64 0, .int .i64 0, .int .u64 bm, .slice bA bs.length bc, .int .u64 0, .string ⟨#[]⟩, .int .u64 0, .slice none 0 0, .int .i64 prev, .int .i64 0, .int .i64 0, .int .i64 0, .int .i64 0] by simp [own, Nd.cs, Nd.zero]]
  unfold Nd.cs
  simp only
  have mixed := mixedOrders
  go_enter Try.func62, Try.ntmps62
  go_wp2
  go_region
  go_wp2
  exact bodyPost_ret (v := .agg #[.int .i64 3, .int .i64 0, .int .i64 0, .int .u64 bm, .slice bA bs.length bc, .int .u64 0, .string ⟨#[]⟩, .int .u64 0, .slice none 0 0, .int .i64 prev, .int .i64 0, .int .i64 0, .int .i64 0, .int .i64 0]) (by simp [results, Try.results62, go_sem]) rfl ⟨rfl, ((((Gr.refl w).alloc _).alloc _).alloc _).drewN 1⟩
set_option maxRecDepth 100000 in
set_option maxHeartbeats 8000000 in
theorem own4 (n : Nd) (w : World) (hk : n.kind = 4) :
    Calls Try.prog 62 #[.agg n.cs] w fun e w' => e = .returned (.agg (own n).cs) ∧ Gr w w' := by
  obtain ⟨kind, gen, main, bm, bA, bc, bs, hash, key, val, pA, pc, ps, prev, old, exp, new, status⟩ := n
  simp only at hk
  subst hk
  rw [show (own ⟨4, gen, main, bm, bA, bc, bs, hash, key, val, pA, pc, ps, prev, old, exp, new, status⟩).cs = #[.int .i64 4, .int .i64 0, .int .i64 0, .int .u64 0, .slice none 0 0, .int .u64 hash, .string key, .int .u64 val, .slice none 0 0, .int .i64 0, .int .i64 0, .int .i64 0, .int .i64 0, .int .i64 0] by simp [own, Nd.cs, Nd.zero]]
  unfold Nd.cs
  simp only
  have mixed := mixedOrders
  go_enter Try.func62, Try.ntmps62
  go_wp2
  go_region
  go_wp2
  exact bodyPost_ret (v := .agg #[.int .i64 4, .int .i64 0, .int .i64 0, .int .u64 0, .slice none 0 0, .int .u64 hash, .string key, .int .u64 val, .slice none 0 0, .int .i64 0, .int .i64 0, .int .i64 0, .int .i64 0, .int .i64 0]) (by simp [results, Try.results62, go_sem]) rfl ⟨rfl, ((((Gr.refl w).alloc _).alloc _).alloc _).drewN 1⟩
set_option maxRecDepth 100000 in
set_option maxHeartbeats 8000000 in
theorem own5 (n : Nd) (w : World) (hk : n.kind = 5) :
    Calls Try.prog 62 #[.agg n.cs] w fun e w' => e = .returned (.agg (own n).cs) ∧ Gr w w' := by
  obtain ⟨kind, gen, main, bm, bA, bc, bs, hash, key, val, pA, pc, ps, prev, old, exp, new, status⟩ := n
  simp only at hk
  subst hk
  rw [show (own ⟨5, gen, main, bm, bA, bc, bs, hash, key, val, pA, pc, ps, prev, old, exp, new, status⟩).cs = #[.int .i64 5, .int .i64 0, .int .i64 0, .int .u64 0, .slice none 0 0, .int .u64 hash, .string key, .int .u64 val, .slice none 0 0, .int .i64 prev, .int .i64 0, .int .i64 0, .int .i64 0, .int .i64 0] by simp [own, Nd.cs, Nd.zero]]
  unfold Nd.cs
  simp only
  have mixed := mixedOrders
  go_enter Try.func62, Try.ntmps62
  go_wp2
  go_region
  go_wp2
  exact bodyPost_ret (v := .agg #[.int .i64 5, .int .i64 0, .int .i64 0, .int .u64 0, .slice none 0 0, .int .u64 hash, .string key, .int .u64 val, .slice none 0 0, .int .i64 prev, .int .i64 0, .int .i64 0, .int .i64 0, .int .i64 0]) (by simp [results, Try.results62, go_sem]) rfl ⟨rfl, ((((Gr.refl w).alloc _).alloc _).alloc _).drewN 1⟩
set_option maxRecDepth 100000 in
set_option maxHeartbeats 8000000 in
theorem own6 (n : Nd) (w : World) (hk : n.kind = 6) :
    Calls Try.prog 62 #[.agg n.cs] w fun e w' => e = .returned (.agg (own n).cs) ∧ Gr w w' := by
  obtain ⟨kind, gen, main, bm, bA, bc, bs, hash, key, val, pA, pc, ps, prev, old, exp, new, status⟩ := n
  simp only at hk
  subst hk
  rw [show (own ⟨6, gen, main, bm, bA, bc, bs, hash, key, val, pA, pc, ps, prev, old, exp, new, status⟩).cs = #[.int .i64 6, .int .i64 0, .int .i64 0, .int .u64 0, .slice none 0 0, .int .u64 hash, .string ⟨#[]⟩, .int .u64 0, .slice pA ps.length pc, .int .i64 prev, .int .i64 0, .int .i64 0, .int .i64 0, .int .i64 0] by simp [own, Nd.cs, Nd.zero]]
  unfold Nd.cs
  simp only
  have mixed := mixedOrders
  go_enter Try.func62, Try.ntmps62
  go_wp2
  go_region
  go_wp2
  exact bodyPost_ret (v := .agg #[.int .i64 6, .int .i64 0, .int .i64 0, .int .u64 0, .slice none 0 0, .int .u64 hash, .string ⟨#[]⟩, .int .u64 0, .slice pA ps.length pc, .int .i64 prev, .int .i64 0, .int .i64 0, .int .i64 0, .int .i64 0]) (by simp [results, Try.results62, go_sem]) rfl ⟨rfl, ((((Gr.refl w).alloc _).alloc _).alloc _).drewN 1⟩
set_option maxRecDepth 100000 in
set_option maxHeartbeats 8000000 in
theorem own7 (n : Nd) (w : World) (hk : n.kind = 7) :
    Calls Try.prog 62 #[.agg n.cs] w fun e w' => e = .returned (.agg (own n).cs) ∧ Gr w w' := by
  obtain ⟨kind, gen, main, bm, bA, bc, bs, hash, key, val, pA, pc, ps, prev, old, exp, new, status⟩ := n
  simp only at hk
  subst hk
  rw [show (own ⟨7, gen, main, bm, bA, bc, bs, hash, key, val, pA, pc, ps, prev, old, exp, new, status⟩).cs = #[.int .i64 7, .int .i64 0, .int .i64 0, .int .u64 0, .slice none 0 0, .int .u64 0, .string ⟨#[]⟩, .int .u64 0, .slice none 0 0, .int .i64 0, .int .i64 old, .int .i64 0, .int .i64 0, .int .i64 0] by simp [own, Nd.cs, Nd.zero]]
  unfold Nd.cs
  simp only
  have mixed := mixedOrders
  go_enter Try.func62, Try.ntmps62
  go_wp2
  exact bodyPost_ret (v := .agg #[.int .i64 7, .int .i64 0, .int .i64 0, .int .u64 0, .slice none 0 0, .int .u64 0, .string ⟨#[]⟩, .int .u64 0, .slice none 0 0, .int .i64 0, .int .i64 old, .int .i64 0, .int .i64 0, .int .i64 0]) (by simp [results, Try.results62, go_sem]) rfl ⟨rfl, (((Gr.refl w).alloc _).alloc _).alloc _⟩
set_option maxRecDepth 100000 in
set_option maxHeartbeats 8000000 in
theorem own8 (n : Nd) (w : World) (hk : n.kind = 8) :
    Calls Try.prog 62 #[.agg n.cs] w fun e w' => e = .returned (.agg (own n).cs) ∧ Gr w w' := by
  obtain ⟨kind, gen, main, bm, bA, bc, bs, hash, key, val, pA, pc, ps, prev, old, exp, new, status⟩ := n
  simp only at hk
  subst hk
  rw [show (own ⟨8, gen, main, bm, bA, bc, bs, hash, key, val, pA, pc, ps, prev, old, exp, new, status⟩).cs = #[.int .i64 8, .int .i64 0, .int .i64 0, .int .u64 0, .slice none 0 0, .int .u64 0, .string ⟨#[]⟩, .int .u64 0, .slice none 0 0, .int .i64 0, .int .i64 old, .int .i64 exp, .int .i64 new, .int .i64 status] by simp [own, Nd.cs, Nd.zero]]
  unfold Nd.cs
  simp only
  have mixed := mixedOrders
  go_enter Try.func62, Try.ntmps62
  go_wp2
  go_region
  go_wp2
  exact bodyPost_ret (v := .agg #[.int .i64 8, .int .i64 0, .int .i64 0, .int .u64 0, .slice none 0 0, .int .u64 0, .string ⟨#[]⟩, .int .u64 0, .slice none 0 0, .int .i64 0, .int .i64 old, .int .i64 exp, .int .i64 new, .int .i64 status]) (by simp [results, Try.results62, go_sem]) rfl ⟨rfl, ((((Gr.refl w).alloc _).alloc _).alloc _).drewN 1⟩
set_option maxRecDepth 100000 in
set_option maxHeartbeats 8000000 in
theorem own0 (n : Nd) (w : World) (hk : n.kind ≠ 1 ∧ n.kind ≠ 2 ∧ n.kind ≠ 3 ∧ n.kind ≠ 4 ∧ n.kind ≠ 5 ∧ n.kind ≠ 6 ∧ n.kind ≠ 7 ∧ n.kind ≠ 8) :
    Calls Try.prog 62 #[.agg n.cs] w fun e w' => e = .returned (.agg (own n).cs) ∧ Gr w w' := by
  obtain ⟨kind, gen, main, bm, bA, bc, bs, hash, key, val, pA, pc, ps, prev, old, exp, new, status⟩ := n
  simp only [ne_eq] at hk
  obtain ⟨k1, k2, k3, k4, k5, k6, k7, k8⟩ := hk
  rw [show (own ⟨kind, gen, main, bm, bA, bc, bs, hash, key, val, pA, pc, ps, prev, old, exp, new, status⟩).cs = #[.int .i64 kind, .int .i64 0, .int .i64 0, .int .u64 0, .slice none 0 0, .int .u64 0, .string ⟨#[]⟩, .int .u64 0, .slice none 0 0, .int .i64 0, .int .i64 0, .int .i64 0, .int .i64 0, .int .i64 0] by simp [own, Nd.cs, Nd.zero, k2, k3, k4, k5, k6, k7, k8]]
  unfold Nd.cs
  simp only
  have f2 : (kind == 2) = false := beq_eq_false_iff_ne.2 k2
  have f3 : (kind == 3) = false := beq_eq_false_iff_ne.2 k3
  have f4 : (kind == 4) = false := beq_eq_false_iff_ne.2 k4
  have f5 : (kind == 5) = false := beq_eq_false_iff_ne.2 k5
  have f6 : (kind == 6) = false := beq_eq_false_iff_ne.2 k6
  have f7 : (kind == 7) = false := beq_eq_false_iff_ne.2 k7
  have f8 : (kind == 8) = false := beq_eq_false_iff_ne.2 k8
  clear k1 k2 k3 k4 k5 k6 k7 k8
  have mixed := mixedOrders
  go_enter Try.func62, Try.ntmps62
  go_wp2
  exact bodyPost_ret (v := .agg #[.int .i64 kind, .int .i64 0, .int .i64 0, .int .u64 0, .slice none 0 0, .int .u64 0, .string ⟨#[]⟩, .int .u64 0, .slice none 0 0, .int .i64 0, .int .i64 0, .int .i64 0, .int .i64 0, .int .i64 0]) (by simp [results, Try.results62, go_sem]) rfl ⟨rfl, (((Gr.refl w).alloc _).alloc _).alloc _⟩
theorem own_any (n : Nd) (w : World) : Calls Try.prog 62 #[.agg n.cs] w fun e w' => e = .returned (.agg (own n).cs) ∧ Gr w w' := by
  by_cases k1 : n.kind = 1
  · exact own1 n w k1
  by_cases k2 : n.kind = 2
  · exact own2 n w k2
  by_cases k3 : n.kind = 3
  · exact own3 n w k3
  by_cases k4 : n.kind = 4
  · exact own4 n w k4
  by_cases k5 : n.kind = 5
  · exact own5 n w k5
  by_cases k6 : n.kind = 6
  · exact own6 n w k6
  by_cases k7 : n.kind = 7
  · exact own7 n w k7
  by_cases k8 : n.kind = 8
  · exact own8 n w k8
  exact own0 n w ⟨k1, k2, k3, k4, k5, k6, k7, k8⟩

end Go.Proofs.Ytbknbjabkhhlfaa
