/-
  The walks of Only: a node without the fields that its kind does not have.
-/
import Derived.Test.YtcmnmimkjkpimaaLOwnA
import Derived.BigGuard
set_option linter.unusedVariables false
set_option maxRecDepth 100000
namespace Go.Proofs.Ytcmnmimkjkpimaa
open Go.Shelf Go.RowKit Go.Lib Go.Sort
set_option maxRecDepth 100000 in
set_option maxHeartbeats 8000000 in
theorem only1 (n : Nd) (w : World) (hk : n.kind = 1) :
    Calls Try.prog 60 #[.agg n.cs] w fun e w' => e = .returned (.agg (own n).cs) ∧ Gr w w' := by
  obtain ⟨kind, gen, main, bm, bA, bc, bs, hash, key, val, pA, pc, ps, prev, old, exp, new, status⟩ := n
  simp only at hk
  subst hk
  rw [show (own ⟨1, gen, main, bm, bA, bc, bs, hash, key, val, pA, pc, ps, prev, old, exp, new, status⟩).cs = #[.int .i64 1, .int .i64 0, .int .i64 0, .int .u64 0, .slice none 0 0, .int .u64 0, .string ⟨#[]⟩, .int .u64 0, .slice none 0 0, .int .i64 0, .int .i64 0, .int .i64 0, .int .i64 0, .int .i64 0] by simp [own, Nd.cs, Nd.zero]]
  unfold Nd.cs
  simp only
  have mixed := mixedOrders
  go_enter Try.func60, Try.ntmps60
  go_wp2
  exact bodyPost_ret (v := .agg #[.int .i64 1, .int .i64 0, .int .i64 0, .int .u64 0, .slice none 0 0, .int .u64 0, .string ⟨#[]⟩, .int .u64 0, .slice none 0 0, .int .i64 0, .int .i64 0, .int .i64 0, .int .i64 0, .int .i64 0]) (by simp [results, Try.results60, go_sem]) rfl ⟨rfl, ((Gr.refl w).alloc _).alloc _⟩
set_option maxRecDepth 100000 in
set_option maxHeartbeats 8000000 in
theorem only2 (n : Nd) (w : World) (hk : n.kind = 2) :
    Calls Try.prog 60 #[.agg n.cs] w fun e w' => e = .returned (.agg (own n).cs) ∧ Gr w w' := by
  obtain ⟨kind, gen, main, bm, bA, bc, bs, hash, key, val, pA, pc, ps, prev, old, exp, new, status⟩ := n
  simp only at hk
  subst hk
  rw [show (own ⟨2, gen, main, bm, bA, bc, bs, hash, key, val, pA, pc, ps, prev, old, exp, new, status⟩).cs = #[.int .i64 2, .int .i64 gen, .int .i64 main, .int .u64 0, .slice none 0 0, .int .u64 0, .string ⟨#[]⟩, .int .u64 0, .slice none 0 0, .int .i64 0, .int .i64 0, .int .i64 0, .int .i64 0, .int .i64 0] by simp [own, Nd.cs, Nd.zero]]
  unfold Nd.cs
  simp only
  have mixed := mixedOrders
  go_enter Try.func60, Try.ntmps60
  go_wp2
  exact bodyPost_ret (v := .agg #[.int .i64 2, .int .i64 gen, .int .i64 main, .int .u64 0, .slice none 0 0, .int .u64 0, .string ⟨#[]⟩, .int .u64 0, .slice none 0 0, .int .i64 0, .int .i64 0, .int .i64 0, .int .i64 0, .int .i64 0]) (by simp [results, Try.results60, go_sem]) rfl ⟨rfl, ((Gr.refl w).alloc _).alloc _⟩
set_option maxRecDepth 100000 in
set_option maxHeartbeats 8000000 in
theorem only3 (n : Nd) (w : World) (hk : n.kind = 3) :
    Calls Try.prog 60 #[.agg n.cs] w fun e w' => e = .returned (.agg (own n).cs) ∧ Gr w w' := by
  obtain ⟨kind, gen, main, bm, bA, bc, bs, hash, key, val, pA, pc, ps, prev, old, exp, new, status⟩ := n
  simp only at hk
  subst hk
  rw [show (own ⟨3, gen, main, bm, bA, bc, bs, hash, key, val, pA, pc, ps, prev, old, exp, new, status⟩).cs = #[.int .i64 3, .int .i64 0, .int .i64 0, .int .u64 bm, .slice bA bs.length bc, .int .u64 0, .string ⟨#[]⟩, .int .u64 0, .slice none 0 0, .int .i64 prev, .int .i64 0, .int .i64 0, .int .i64 0, .int .i64 0] by simp [own, Nd.cs, Nd.zero]]
  unfold Nd.cs
  simp only
  have mixed := mixedOrders
  go_enter Try.func60, Try.ntmps60
  go_wp2
  exact bodyPost_ret (v := .agg #[.int .i64 3, .int .i64 0, .int .i64 0, .int .u64 bm, .slice bA bs.length bc, .int .u64 0, .string ⟨#[]⟩, .int .u64 0, .slice none 0 0, .int .i64 prev, .int .i64 0, .int .i64 0, .int .i64 0, .int .i64 0]) (by simp [results, Try.results60, go_sem]) rfl ⟨rfl, ((Gr.refl w).alloc _).alloc _⟩
set_option maxRecDepth 100000 in
set_option maxHeartbeats 8000000 in
theorem only4 (n : Nd) (w : World) (hk : n.kind = 4) :
    Calls Try.prog 60 #[.agg n.cs] w fun e w' => e = .returned (.agg (own n).cs) ∧ Gr w w' := by
  obtain ⟨kind, gen, main, bm, bA, bc, bs, hash, key, val, pA, pc, ps, prev, old, exp, new, status⟩ := n
  simp only at hk
  subst hk
  rw [show (own ⟨4, gen, main, bm, bA, bc, bs, hash, key, val, pA, pc, ps, prev, old, exp, new, status⟩).cs = #[.int .i64 4, .int .i64 0, .int .i64 0, .int .u64 0, .slice none 0 0, .int .u64 hash, .string key, .int .u64 val, .slice none 0 0, .int .i64 0, .int .i64 0, .int .i64 0, .int .i64 0, .int .i64 0] by simp [own, Nd.cs, Nd.zero]]
  unfold Nd.cs
  simp only
  have mixed := mixedOrders
  go_enter Try.func60, Try.ntmps60
  go_wp2
  exact bodyPost_ret (v := .agg #[.int .i64 4, .int .i64 0, .int .i64 0, .int .u64 0, .slice none 0 0, .int .u64 hash, .string key, .int .u64 val, .slice none 0 0, .int .i64 0, .int .i64 0, .int .i64 0, .int .i64 0, .int .i64 0]) (by simp [results, Try.results60, go_sem]) rfl ⟨rfl, ((Gr.refl w).alloc _).alloc _⟩
set_option maxRecDepth 100000 in
set_option maxHeartbeats 8000000 in
theorem only5 (n : Nd) (w : World) (hk : n.kind = 5) :
    Calls Try.prog 60 #[.agg n.cs] w fun e w' => e = .returned (.agg (own n).cs) ∧ Gr w w' := by
  obtain ⟨kind, gen, main, bm, bA, bc, bs, hash, key, val, pA, pc, ps, prev, old, exp, new, status⟩ := n
  simp only at hk
  subst hk
  rw [show (own ⟨5, gen, main, bm, bA, bc, bs, hash, key, val, pA, pc, ps, prev, old, exp, new, status⟩).cs = #[.int .i64 5, .int .i64 0, .int .i64 0, .int .u64 0, .slice none 0 0, .int .u64 hash, .string key, .int .u64 val, .slice none 0 0, .int .i64 prev, .int .i64 0, .int .i64 0, .int .i64 0, .int .i64 0] by simp [own, Nd.cs, Nd.zero]]
  unfold Nd.cs
  simp only
  have mixed := mixedOrders
  go_enter Try.func60, Try.ntmps60
  go_wp2
  exact bodyPost_ret (v := .agg #[.int .i64 5, .int .i64 0, .int .i64 0, .int .u64 0, .slice none 0 0, .int .u64 hash, .string key, .int .u64 val, .slice none 0 0, .int .i64 prev, .int .i64 0, .int .i64 0, .int .i64 0, .int .i64 0]) (by simp [results, Try.results60, go_sem]) rfl ⟨rfl, ((Gr.refl w).alloc _).alloc _⟩
set_option maxRecDepth 100000 in
set_option maxHeartbeats 8000000 in
theorem only6 (n : Nd) (w : World) (hk : n.kind = 6) :
    Calls Try.prog 60 #[.agg n.cs] w fun e w' => e = .returned (.agg (own n).cs) ∧ Gr w w' := by
  obtain ⟨kind, gen, main, bm, bA, bc, bs, hash, key, val, pA, pc, ps, prev, old, exp, new, status⟩ := n
  simp only at hk
  subst hk
  rw [show (own ⟨6, gen, main, bm, bA, bc, bs, hash, key, val, pA, pc, ps, prev, old, exp, new, status⟩).cs = #[.int .i64 6, .int .i64 0, .int .i64 0, .int .u64 0, .slice none 0 0, .int .u64 hash, .string ⟨#[]⟩, .int .u64 0, .slice pA ps.length pc, .int .i64 prev, .int .i64 0, .int .i64 0, .int .i64 0, .int .i64 0] by simp [own, Nd.cs, Nd.zero]]
  unfold Nd.cs
  simp only
  have mixed := mixedOrders
  go_enter Try.func60, Try.ntmps60
  go_wp2
  exact bodyPost_ret (v := .agg #[.int .i64 6, .int .i64 0, .int .i64 0, .int .u64 0, .slice none 0 0, .int .u64 hash, .string ⟨#[]⟩, .int .u64 0, .slice pA ps.length pc, .int .i64 prev, .int .i64 0, .int .i64 0, .int .i64 0, .int .i64 0]) (by simp [results, Try.results60, go_sem]) rfl ⟨rfl, ((Gr.refl w).alloc _).alloc _⟩
set_option maxRecDepth 100000 in
set_option maxHeartbeats 8000000 in
theorem only7 (n : Nd) (w : World) (hk : n.kind = 7) :
    Calls Try.prog 60 #[.agg n.cs] w fun e w' => e = .returned (.agg (own n).cs) ∧ Gr w w' := by
  obtain ⟨kind, gen, main, bm, bA, bc, bs, hash, key, val, pA, pc, ps, prev, old, exp, new, status⟩ := n
  simp only at hk
  subst hk
  rw [show (own ⟨7, gen, main, bm, bA, bc, bs, hash, key, val, pA, pc, ps, prev, old, exp, new, status⟩).cs = #[.int .i64 7, .int .i64 0, .int .i64 0, .int .u64 0, .slice none 0 0, .int .u64 0, .string ⟨#[]⟩, .int .u64 0, .slice none 0 0, .int .i64 0, .int .i64 old, .int .i64 0, .int .i64 0, .int .i64 0] by simp [own, Nd.cs, Nd.zero]]
  unfold Nd.cs
  simp only
  have mixed := mixedOrders
  go_enter Try.func60, Try.ntmps60
  go_wp2
  exact bodyPost_ret (v := .agg #[.int .i64 7, .int .i64 0, .int .i64 0, .int .u64 0, .slice none 0 0, .int .u64 0, .string ⟨#[]⟩, .int .u64 0, .slice none 0 0, .int .i64 0, .int .i64 old, .int .i64 0, .int .i64 0, .int .i64 0]) (by simp [results, Try.results60, go_sem]) rfl ⟨rfl, ((Gr.refl w).alloc _).alloc _⟩
set_option maxRecDepth 100000 in
set_option maxHeartbeats 8000000 in
theorem only8 (n : Nd) (w : World) (hk : n.kind = 8) :
    Calls Try.prog 60 #[.agg n.cs] w fun e w' => e = .returned (.agg (own n).cs) ∧ Gr w w' := by
  obtain ⟨kind, gen, main, bm, bA, bc, bs, hash, key, val, pA, pc, ps, prev, old, exp, new, status⟩ := n
  simp only at hk
  subst hk
  rw [show (own ⟨8, gen, main, bm, bA, bc, bs, hash, key, val, pA, pc, ps, prev, old, exp, new, status⟩).cs = #[.int .i64 8, .int .i64 0, .int .i64 0, .int .u64 0, .slice none 0 0, .int .u64 0, .string ⟨#[]⟩, .int .u64 0, .slice none 0 0, .int .i64 0, .int .i64 old, .int .i64 exp, .int .i64 new, .int .i64 status] by simp [own, Nd.cs, Nd.zero]]
  unfold Nd.cs
  simp only
  have mixed := mixedOrders
  go_enter Try.func60, Try.ntmps60
  go_wp2
  exact bodyPost_ret (v := .agg #[.int .i64 8, .int .i64 0, .int .i64 0, .int .u64 0, .slice none 0 0, .int .u64 0, .string ⟨#[]⟩, .int .u64 0, .slice none 0 0, .int .i64 0, .int .i64 old, .int .i64 exp, .int .i64 new, .int .i64 status]) (by simp [results, Try.results60, go_sem]) rfl ⟨rfl, ((Gr.refl w).alloc _).alloc _⟩
theorem only_any (n : Nd) (w : World) (h : 1 ≤ n.kind) (h' : n.kind ≤ 8) : Calls Try.prog 60 #[.agg n.cs] w fun e w' => e = .returned (.agg (own n).cs) ∧ Gr w w' := by
  by_cases k1 : n.kind = 1
  · exact only1 n w k1
  by_cases k2 : n.kind = 2
  · exact only2 n w k2
  by_cases k3 : n.kind = 3
  · exact only3 n w k3
  by_cases k4 : n.kind = 4
  · exact only4 n w k4
  by_cases k5 : n.kind = 5
  · exact only5 n w k5
  by_cases k6 : n.kind = 6
  · exact only6 n w k6
  by_cases k7 : n.kind = 7
  · exact only7 n w k7
  by_cases k8 : n.kind = 8
  · exact only8 n w k8
  omega

end Go.Proofs.Ytcmnmimkjkpimaa
