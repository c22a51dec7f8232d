/-
  The walk of the statement's changed: a node of which one field was changed.
-/
import Derived.Test.YtojcdnjnhejlmaaWalksU
set_option linter.unusedVariables false
namespace Go.Proofs.Ytojcdnjnhejlmaa
open Go.Shelf Go.RowKit Go.Lib Go.Sort

theorem Own.rdX' {w : World} {base : Nat} {A : Option Addr} {n c : Nat} {xs : List Pr} (hn : n = xs.length) (h : Own w base (.slice A n c) xs) : RdX w base w.heap.size A (flat xs) := by subst hn; exact h.rdX
theorem OwnR.rdX' {w : World} {base : Nat} {A : Option Addr} {n c : Nat} {xs : List Int} (hn : n = xs.length) (h : OwnR w base (.slice A n c) xs) : RdX w base w.heap.size A (flatR xs) := by subst hn; exact h.rdX
theorem one_rdP (w : World) (x : Pr) : Rd (w.alloc (.cells #[.string x.1, .int .u64 x.2] 41)) (w.heap.size + 1) (some ⟨w.heap.size, 0, none⟩) [x] := fun _ =>
  ⟨_, rfl, Nat.lt_succ_self _, fun j u hj => by
    have := cell_of_row (w.alloc (.cells #[.string x.1, .int .u64 x.2] 41)) w.heap.size j #[.string x.1, .int .u64 x.2] 41 (0, 0) (heap_alloc_new w _)
    rw [Addr.add_lit, Nat.zero_add]
    exact this.trans (by simpa [flat, enc] using hj)⟩
/-- Some node whose lists read. -/
def SomeNode (w : World) (e : Ending) (w' : World) : Prop := ∃ m : Nd, e = .returned (.agg m.cs) ∧ NRd w' w'.heap.size m ∧ Below w.heap.size w w'

set_option maxRecDepth 100000 in
set_option maxHeartbeats 8000000 in
theorem changed0 (n : Nd) (f v : Int) (w : World) (h : GoodN w n) (hm : ∀ W, Calls Try.prog 32 #[.int .i64 f, .int .i64 13] W fun e w' => e = .returned (.int .i64 (0 : Nat)) ∧ W = w') :
    Calls Try.prog 10 #[.agg n.cs, .int .i64 f, .int .i64 v] w (SomeNode w) := by
  obtain ⟨kind, gen, main, bm, bA, bc, bs, hash, key, val, pA, pc, ps, prev, old, exp, new, status⟩ := n
  have HM := Lib.hid hm
  have H := Lib.hid h
  clear h hm
  have mixed := mixedOrders
  unfold Nd.cs
  simp only
  go_enter Try.func10, Try.ntmps10
  go_wp2_with (go_at_call 32; refine (HM.out _).mono ?_; rintro e w' ⟨rfl, rfl⟩)
  have hb : Below w.heap.size w ((w.alloc (.cells #[.int .i64 v, .int .i64 gen, .int .i64 main, .int .u64 bm, .slice bA bs.length bc, .int .u64 hash, .string key, .int .u64 val, .slice pA ps.length pc, .int .i64 prev, .int .i64 old, .int .i64 exp, .int .i64 new, .int .i64 status] 28)).alloc (.cells #[.int .i64 v, .int .i64 gen, .int .i64 main, .int .u64 bm, .slice bA bs.length bc, .int .u64 hash, .string key, .int .u64 val, .slice pA ps.length pc, .int .i64 prev, .int .i64 old, .int .i64 exp, .int .i64 new, .int .i64 status] 28)) := ((Below.refl _ _).alloc (Nat.le_refl _) _).alloc (by simp) _
  exact bodyPost_ret (v := .agg #[.int .i64 v, .int .i64 gen, .int .i64 main, .int .u64 bm, .slice bA bs.length bc, .int .u64 hash, .string key, .int .u64 val, .slice pA ps.length pc, .int .i64 prev, .int .i64 old, .int .i64 exp, .int .i64 new, .int .i64 status]) (by simp [results, Try.results10, go_sem]) rfl ⟨⟨v, gen, main, bm, bA, bc, bs, hash, key, val, pA, pc, ps, prev, old, exp, new, status⟩, rfl, ⟨H.out.rd.r.up hb, H.out.rd.p.up hb, H.out.rd.bm, H.out.rd.bl, H.out.rd.pl⟩, hb⟩

set_option maxRecDepth 100000 in
set_option maxHeartbeats 8000000 in
theorem changed1 (n : Nd) (f v : Int) (w : World) (h : GoodN w n) (hm : ∀ W, Calls Try.prog 32 #[.int .i64 f, .int .i64 13] W fun e w' => e = .returned (.int .i64 (1 : Nat)) ∧ W = w') :
    Calls Try.prog 10 #[.agg n.cs, .int .i64 f, .int .i64 v] w (SomeNode w) := by
  obtain ⟨kind, gen, main, bm, bA, bc, bs, hash, key, val, pA, pc, ps, prev, old, exp, new, status⟩ := n
  have HM := Lib.hid hm
  have H := Lib.hid h
  clear h hm
  have mixed := mixedOrders
  unfold Nd.cs
  simp only
  go_enter Try.func10, Try.ntmps10
  go_wp2_with (go_at_call 32; refine (HM.out _).mono ?_; rintro e w' ⟨rfl, rfl⟩)
  have hb : Below w.heap.size w ((w.alloc (.cells #[.int .i64 kind, .int .i64 v, .int .i64 main, .int .u64 bm, .slice bA bs.length bc, .int .u64 hash, .string key, .int .u64 val, .slice pA ps.length pc, .int .i64 prev, .int .i64 old, .int .i64 exp, .int .i64 new, .int .i64 status] 28)).alloc (.cells #[.int .i64 kind, .int .i64 v, .int .i64 main, .int .u64 bm, .slice bA bs.length bc, .int .u64 hash, .string key, .int .u64 val, .slice pA ps.length pc, .int .i64 prev, .int .i64 old, .int .i64 exp, .int .i64 new, .int .i64 status] 28)) := ((Below.refl _ _).alloc (Nat.le_refl _) _).alloc (by simp) _
  exact bodyPost_ret (v := .agg #[.int .i64 kind, .int .i64 v, .int .i64 main, .int .u64 bm, .slice bA bs.length bc, .int .u64 hash, .string key, .int .u64 val, .slice pA ps.length pc, .int .i64 prev, .int .i64 old, .int .i64 exp, .int .i64 new, .int .i64 status]) (by simp [results, Try.results10, go_sem]) rfl ⟨⟨kind, v, main, bm, bA, bc, bs, hash, key, val, pA, pc, ps, prev, old, exp, new, status⟩, rfl, ⟨H.out.rd.r.up hb, H.out.rd.p.up hb, H.out.rd.bm, H.out.rd.bl, H.out.rd.pl⟩, hb⟩

set_option maxRecDepth 100000 in
set_option maxHeartbeats 8000000 in
theorem changed2 (n : Nd) (f v : Int) (w : World) (h : GoodN w n) (hm : ∀ W, Calls Try.prog 32 #[.int .i64 f, .int .i64 13] W fun e w' => e = .returned (.int .i64 (2 : Nat)) ∧ W = w') :
    Calls Try.prog 10 #[.agg n.cs, .int .i64 f, .int .i64 v] w (SomeNode w) := by
  obtain ⟨kind, gen, main, bm, bA, bc, bs, hash, key, val, pA, pc, ps, prev, old, exp, new, status⟩ := n
  have HM := Lib.hid hm
  have H := Lib.hid h
  clear h hm
  have mixed := mixedOrders
  unfold Nd.cs
  simp only
  go_enter Try.func10, Try.ntmps10
  go_wp2_with (go_at_call 32; refine (HM.out _).mono ?_; rintro e w' ⟨rfl, rfl⟩)
  have hb : Below w.heap.size w ((w.alloc (.cells #[.int .i64 kind, .int .i64 gen, .int .i64 v, .int .u64 bm, .slice bA bs.length bc, .int .u64 hash, .string key, .int .u64 val, .slice pA ps.length pc, .int .i64 prev, .int .i64 old, .int .i64 exp, .int .i64 new, .int .i64 status] 28)).alloc (.cells #[.int .i64 kind, .int .i64 gen, .int .i64 v, .int .u64 bm, .slice bA bs.length bc, .int .u64 hash, .string key, .int .u64 val, .slice pA ps.length pc, .int .i64 prev, .int .i64 old, .int .i64 exp, .int .i64 new, .int .i64 status] 28)) := ((Below.refl _ _).alloc (Nat.le_refl _) _).alloc (by simp) _
  exact bodyPost_ret (v := .agg #[.int .i64 kind, .int .i64 gen, .int .i64 v, .int .u64 bm, .slice bA bs.length bc, .int .u64 hash, .string key, .int .u64 val, .slice pA ps.length pc, .int .i64 prev, .int .i64 old, .int .i64 exp, .int .i64 new, .int .i64 status]) (by simp [results, Try.results10, go_sem]) rfl ⟨⟨kind, gen, v, bm, bA, bc, bs, hash, key, val, pA, pc, ps, prev, old, exp, new, status⟩, rfl, ⟨H.out.rd.r.up hb, H.out.rd.p.up hb, H.out.rd.bm, H.out.rd.bl, H.out.rd.pl⟩, hb⟩

set_option maxRecDepth 100000 in
set_option maxHeartbeats 8000000 in
theorem changed5 (n : Nd) (f v : Int) (w : World) (h : GoodN w n) (hm : ∀ W, Calls Try.prog 32 #[.int .i64 f, .int .i64 13] W fun e w' => e = .returned (.int .i64 (5 : Nat)) ∧ W = w') :
    Calls Try.prog 10 #[.agg n.cs, .int .i64 f, .int .i64 v] w (SomeNode w) := by
  obtain ⟨kind, gen, main, bm, bA, bc, bs, hash, key, val, pA, pc, ps, prev, old, exp, new, status⟩ := n
  have HM := Lib.hid hm
  have H := Lib.hid h
  clear h hm
  have mixed := mixedOrders
  unfold Nd.cs
  simp only
  go_enter Try.func10, Try.ntmps10
  go_wp2_with (go_at_call 32; refine (HM.out _).mono ?_; rintro e w' ⟨rfl, rfl⟩)
  have hb : Below w.heap.size w ((w.alloc (.cells #[.int .i64 kind, .int .i64 gen, .int .i64 main, .int .u64 bm, .slice bA bs.length bc, .int .u64 (IntKind.u64.wrap v), .string key, .int .u64 val, .slice pA ps.length pc, .int .i64 prev, .int .i64 old, .int .i64 exp, .int .i64 new, .int .i64 status] 28)).alloc (.cells #[.int .i64 kind, .int .i64 gen, .int .i64 main, .int .u64 bm, .slice bA bs.length bc, .int .u64 (IntKind.u64.wrap v), .string key, .int .u64 val, .slice pA ps.length pc, .int .i64 prev, .int .i64 old, .int .i64 exp, .int .i64 new, .int .i64 status] 28)) := ((Below.refl _ _).alloc (Nat.le_refl _) _).alloc (by simp) _
  exact bodyPost_ret (v := .agg #[.int .i64 kind, .int .i64 gen, .int .i64 main, .int .u64 bm, .slice bA bs.length bc, .int .u64 (IntKind.u64.wrap v), .string key, .int .u64 val, .slice pA ps.length pc, .int .i64 prev, .int .i64 old, .int .i64 exp, .int .i64 new, .int .i64 status]) (by simp [results, Try.results10, go_sem]) rfl ⟨⟨kind, gen, main, bm, bA, bc, bs, IntKind.u64.wrap v, key, val, pA, pc, ps, prev, old, exp, new, status⟩, rfl, ⟨H.out.rd.r.up hb, H.out.rd.p.up hb, H.out.rd.bm, H.out.rd.bl, H.out.rd.pl⟩, hb⟩

set_option maxRecDepth 100000 in
set_option maxHeartbeats 8000000 in
theorem changed7 (n : Nd) (f v : Int) (w : World) (h : GoodN w n) (hm : ∀ W, Calls Try.prog 32 #[.int .i64 f, .int .i64 13] W fun e w' => e = .returned (.int .i64 (7 : Nat)) ∧ W = w') :
    Calls Try.prog 10 #[.agg n.cs, .int .i64 f, .int .i64 v] w (SomeNode w) := by
  obtain ⟨kind, gen, main, bm, bA, bc, bs, hash, key, val, pA, pc, ps, prev, old, exp, new, status⟩ := n
  have HM := Lib.hid hm
  have H := Lib.hid h
  clear h hm
  have mixed := mixedOrders
  unfold Nd.cs
  simp only
  go_enter Try.func10, Try.ntmps10
  go_wp2_with (go_at_call 32; refine (HM.out _).mono ?_; rintro e w' ⟨rfl, rfl⟩)
  have hb : Below w.heap.size w ((w.alloc (.cells #[.int .i64 kind, .int .i64 gen, .int .i64 main, .int .u64 bm, .slice bA bs.length bc, .int .u64 hash, .string key, .int .u64 (IntKind.u64.wrap v), .slice pA ps.length pc, .int .i64 prev, .int .i64 old, .int .i64 exp, .int .i64 new, .int .i64 status] 28)).alloc (.cells #[.int .i64 kind, .int .i64 gen, .int .i64 main, .int .u64 bm, .slice bA bs.length bc, .int .u64 hash, .string key, .int .u64 (IntKind.u64.wrap v), .slice pA ps.length pc, .int .i64 prev, .int .i64 old, .int .i64 exp, .int .i64 new, .int .i64 status] 28)) := ((Below.refl _ _).alloc (Nat.le_refl _) _).alloc (by simp) _
  exact bodyPost_ret (v := .agg #[.int .i64 kind, .int .i64 gen, .int .i64 main, .int .u64 bm, .slice bA bs.length bc, .int .u64 hash, .string key, .int .u64 (IntKind.u64.wrap v), .slice pA ps.length pc, .int .i64 prev, .int .i64 old, .int .i64 exp, .int .i64 new, .int .i64 status]) (by simp [results, Try.results10, go_sem]) rfl ⟨⟨kind, gen, main, bm, bA, bc, bs, hash, key, IntKind.u64.wrap v, pA, pc, ps, prev, old, exp, new, status⟩, rfl, ⟨H.out.rd.r.up hb, H.out.rd.p.up hb, H.out.rd.bm, H.out.rd.bl, H.out.rd.pl⟩, hb⟩

set_option maxRecDepth 100000 in
set_option maxHeartbeats 8000000 in
theorem changed9 (n : Nd) (f v : Int) (w : World) (h : GoodN w n) (hm : ∀ W, Calls Try.prog 32 #[.int .i64 f, .int .i64 13] W fun e w' => e = .returned (.int .i64 (9 : Nat)) ∧ W = w') :
    Calls Try.prog 10 #[.agg n.cs, .int .i64 f, .int .i64 v] w (SomeNode w) := by
  obtain ⟨kind, gen, main, bm, bA, bc, bs, hash, key, val, pA, pc, ps, prev, old, exp, new, status⟩ := n
  have HM := Lib.hid hm
  have H := Lib.hid h
  clear h hm
  have mixed := mixedOrders
  unfold Nd.cs
  simp only
  go_enter Try.func10, Try.ntmps10
  go_wp2_with (go_at_call 32; refine (HM.out _).mono ?_; rintro e w' ⟨rfl, rfl⟩)
  have hb : Below w.heap.size w ((w.alloc (.cells #[.int .i64 kind, .int .i64 gen, .int .i64 main, .int .u64 bm, .slice bA bs.length bc, .int .u64 hash, .string key, .int .u64 val, .slice pA ps.length pc, .int .i64 v, .int .i64 old, .int .i64 exp, .int .i64 new, .int .i64 status] 28)).alloc (.cells #[.int .i64 kind, .int .i64 gen, .int .i64 main, .int .u64 bm, .slice bA bs.length bc, .int .u64 hash, .string key, .int .u64 val, .slice pA ps.length pc, .int .i64 v, .int .i64 old, .int .i64 exp, .int .i64 new, .int .i64 status] 28)) := ((Below.refl _ _).alloc (Nat.le_refl _) _).alloc (by simp) _
  exact bodyPost_ret (v := .agg #[.int .i64 kind, .int .i64 gen, .int .i64 main, .int .u64 bm, .slice bA bs.length bc, .int .u64 hash, .string key, .int .u64 val, .slice pA ps.length pc, .int .i64 v, .int .i64 old, .int .i64 exp, .int .i64 new, .int .i64 status]) (by simp [results, Try.results10, go_sem]) rfl ⟨⟨kind, gen, main, bm, bA, bc, bs, hash, key, val, pA, pc, ps, v, old, exp, new, status⟩, rfl, ⟨H.out.rd.r.up hb, H.out.rd.p.up hb, H.out.rd.bm, H.out.rd.bl, H.out.rd.pl⟩, hb⟩

set_option maxRecDepth 100000 in
set_option maxHeartbeats 8000000 in
theorem changed10 (n : Nd) (f v : Int) (w : World) (h : GoodN w n) (hm : ∀ W, Calls Try.prog 32 #[.int .i64 f, .int .i64 13] W fun e w' => e = .returned (.int .i64 (10 : Nat)) ∧ W = w') :
    Calls Try.prog 10 #[.agg n.cs, .int .i64 f, .int .i64 v] w (SomeNode w) := by
  obtain ⟨kind, gen, main, bm, bA, bc, bs, hash, key, val, pA, pc, ps, prev, old, exp, new, status⟩ := n
  have HM := Lib.hid hm
  have H := Lib.hid h
  clear h hm
  have mixed := mixedOrders
  unfold Nd.cs
  simp only
  go_enter Try.func10, Try.ntmps10
  go_wp2_with (go_at_call 32; refine (HM.out _).mono ?_; rintro e w' ⟨rfl, rfl⟩)
  have hb : Below w.heap.size w ((w.alloc (.cells #[.int .i64 kind, .int .i64 gen, .int .i64 main, .int .u64 bm, .slice bA bs.length bc, .int .u64 hash, .string key, .int .u64 val, .slice pA ps.length pc, .int .i64 prev, .int .i64 v, .int .i64 exp, .int .i64 new, .int .i64 status] 28)).alloc (.cells #[.int .i64 kind, .int .i64 gen, .int .i64 main, .int .u64 bm, .slice bA bs.length bc, .int .u64 hash, .string key, .int .u64 val, .slice pA ps.length pc, .int .i64 prev, .int .i64 v, .int .i64 exp, .int .i64 new, .int .i64 status] 28)) := ((Below.refl _ _).alloc (Nat.le_refl _) _).alloc (by simp) _
  exact bodyPost_ret (v := .agg #[.int .i64 kind, .int .i64 gen, .int .i64 main, .int .u64 bm, .slice bA bs.length bc, .int .u64 hash, .string key, .int .u64 val, .slice pA ps.length pc, .int .i64 prev, .int .i64 v, .int .i64 exp, .int .i64 new, .int .i64 status]) (by simp [results, Try.results10, go_sem]) rfl ⟨⟨kind, gen, main, bm, bA, bc, bs, hash, key, val, pA, pc, ps, prev, v, exp, new, status⟩, rfl, ⟨H.out.rd.r.up hb, H.out.rd.p.up hb, H.out.rd.bm, H.out.rd.bl, H.out.rd.pl⟩, hb⟩

set_option maxRecDepth 100000 in
set_option maxHeartbeats 8000000 in
theorem changed11 (n : Nd) (f v : Int) (w : World) (h : GoodN w n) (hm : ∀ W, Calls Try.prog 32 #[.int .i64 f, .int .i64 13] W fun e w' => e = .returned (.int .i64 (11 : Nat)) ∧ W = w') :
    Calls Try.prog 10 #[.agg n.cs, .int .i64 f, .int .i64 v] w (SomeNode w) := by
  obtain ⟨kind, gen, main, bm, bA, bc, bs, hash, key, val, pA, pc, ps, prev, old, exp, new, status⟩ := n
  have HM := Lib.hid hm
  have H := Lib.hid h
  clear h hm
  have mixed := mixedOrders
  unfold Nd.cs
  simp only
  go_enter Try.func10, Try.ntmps10
  go_wp2_with (go_at_call 32; refine (HM.out _).mono ?_; rintro e w' ⟨rfl, rfl⟩)
  have hb : Below w.heap.size w ((w.alloc (.cells #[.int .i64 kind, .int .i64 gen, .int .i64 main, .int .u64 bm, .slice bA bs.length bc, .int .u64 hash, .string key, .int .u64 val, .slice pA ps.length pc, .int .i64 prev, .int .i64 old, .int .i64 v, .int .i64 new, .int .i64 status] 28)).alloc (.cells #[.int .i64 kind, .int .i64 gen, .int .i64 main, .int .u64 bm, .slice bA bs.length bc, .int .u64 hash, .string key, .int .u64 val, .slice pA ps.length pc, .int .i64 prev, .int .i64 old, .int .i64 v, .int .i64 new, .int .i64 status] 28)) := ((Below.refl _ _).alloc (Nat.le_refl _) _).alloc (by simp) _
  exact bodyPost_ret (v := .agg #[.int .i64 kind, .int .i64 gen, .int .i64 main, .int .u64 bm, .slice bA bs.length bc, .int .u64 hash, .string key, .int .u64 val, .slice pA ps.length pc, .int .i64 prev, .int .i64 old, .int .i64 v, .int .i64 new, .int .i64 status]) (by simp [results, Try.results10, go_sem]) rfl ⟨⟨kind, gen, main, bm, bA, bc, bs, hash, key, val, pA, pc, ps, prev, old, v, new, status⟩, rfl, ⟨H.out.rd.r.up hb, H.out.rd.p.up hb, H.out.rd.bm, H.out.rd.bl, H.out.rd.pl⟩, hb⟩

set_option maxRecDepth 100000 in
set_option maxHeartbeats 8000000 in
theorem changed12 (n : Nd) (f v : Int) (w : World) (h : GoodN w n) (hm : ∀ W, Calls Try.prog 32 #[.int .i64 f, .int .i64 13] W fun e w' => e = .returned (.int .i64 (12 : Nat)) ∧ W = w') :
    Calls Try.prog 10 #[.agg n.cs, .int .i64 f, .int .i64 v] w (SomeNode w) := by
  obtain ⟨kind, gen, main, bm, bA, bc, bs, hash, key, val, pA, pc, ps, prev, old, exp, new, status⟩ := n
  have HM := Lib.hid hm
  have H := Lib.hid h
  clear h hm
  have mixed := mixedOrders
  unfold Nd.cs
  simp only
  go_enter Try.func10, Try.ntmps10
  go_wp2_with (go_at_call 32; refine (HM.out _).mono ?_; rintro e w' ⟨rfl, rfl⟩)
  have hb : Below w.heap.size w ((w.alloc (.cells #[.int .i64 kind, .int .i64 gen, .int .i64 main, .int .u64 bm, .slice bA bs.length bc, .int .u64 hash, .string key, .int .u64 val, .slice pA ps.length pc, .int .i64 prev, .int .i64 old, .int .i64 exp, .int .i64 new, .int .i64 v] 28)).alloc (.cells #[.int .i64 kind, .int .i64 gen, .int .i64 main, .int .u64 bm, .slice bA bs.length bc, .int .u64 hash, .string key, .int .u64 val, .slice pA ps.length pc, .int .i64 prev, .int .i64 old, .int .i64 exp, .int .i64 new, .int .i64 v] 28)) := ((Below.refl _ _).alloc (Nat.le_refl _) _).alloc (by simp) _
  exact bodyPost_ret (v := .agg #[.int .i64 kind, .int .i64 gen, .int .i64 main, .int .u64 bm, .slice bA bs.length bc, .int .u64 hash, .string key, .int .u64 val, .slice pA ps.length pc, .int .i64 prev, .int .i64 old, .int .i64 exp, .int .i64 new, .int .i64 v]) (by simp [results, Try.results10, go_sem]) rfl ⟨⟨kind, gen, main, bm, bA, bc, bs, hash, key, val, pA, pc, ps, prev, old, exp, new, v⟩, rfl, ⟨H.out.rd.r.up hb, H.out.rd.p.up hb, H.out.rd.bm, H.out.rd.bl, H.out.rd.pl⟩, hb⟩

set_option maxRecDepth 100000 in
set_option maxHeartbeats 8000000 in
theorem changed6 (n : Nd) (f v : Int) (w : World) (h : GoodN w n) (hm : ∀ W, Calls Try.prog 32 #[.int .i64 f, .int .i64 13] W fun e w' => e = .returned (.int .i64 (6 : Nat)) ∧ W = w') :
    Calls Try.prog 10 #[.agg n.cs, .int .i64 f, .int .i64 v] w (SomeNode w) := by
  obtain ⟨kind, gen, main, bm, bA, bc, bs, hash, key, val, pA, pc, ps, prev, old, exp, new, status⟩ := n
  have HM := Lib.hid hm
  have H := Lib.hid h
  clear h hm
  have mixed := mixedOrders
  unfold Nd.cs
  simp only
  have hkl : key.size ≤ 100 := H.out.key
  go_enter Try.func10, Try.ntmps10
  go_wp2_with (go_at_call 32; refine (HM.out _).mono ?_; rintro e w' ⟨rfl, rfl⟩)
  have hb : Below w.heap.size w ((w.alloc (.cells #[.int .i64 kind, .int .i64 gen, .int .i64 main, .int .u64 bm, .slice bA bs.length bc, .int .u64 hash, .string (key ++ ⟨#[120]⟩), .int .u64 val, .slice pA ps.length pc, .int .i64 prev, .int .i64 old, .int .i64 exp, .int .i64 new, .int .i64 status] 28)).alloc (.cells #[.int .i64 kind, .int .i64 gen, .int .i64 main, .int .u64 bm, .slice bA bs.length bc, .int .u64 hash, .string (key ++ ⟨#[120]⟩), .int .u64 val, .slice pA ps.length pc, .int .i64 prev, .int .i64 old, .int .i64 exp, .int .i64 new, .int .i64 status] 28)) := ((Below.refl _ _).alloc (Nat.le_refl _) _).alloc (by simp) _
  exact bodyPost_ret (v := .agg #[.int .i64 kind, .int .i64 gen, .int .i64 main, .int .u64 bm, .slice bA bs.length bc, .int .u64 hash, .string (key ++ ⟨#[120]⟩), .int .u64 val, .slice pA ps.length pc, .int .i64 prev, .int .i64 old, .int .i64 exp, .int .i64 new, .int .i64 status]) (by simp [results, Try.results10, go_sem]) rfl ⟨⟨kind, gen, main, bm, bA, bc, bs, hash, key ++ ⟨#[120]⟩, val, pA, pc, ps, prev, old, exp, new, status⟩, rfl, ⟨H.out.rd.r.up hb, H.out.rd.p.up hb, H.out.rd.bm, H.out.rd.bl, H.out.rd.pl⟩, hb⟩

set_option maxRecDepth 100000 in
set_option maxHeartbeats 8000000 in
theorem changed3 (n : Nd) (f v : Int) (w : World) (h : GoodN w n) (hm : ∀ W, Calls Try.prog 32 #[.int .i64 f, .int .i64 13] W fun e w' => e = .returned (.int .i64 (3 : Nat)) ∧ W = w') :
    Calls Try.prog 10 #[.agg n.cs, .int .i64 f, .int .i64 v] w (SomeNode w) := by
  obtain ⟨kind, gen, main, bm, bA, bc, bs, hash, key, val, pA, pc, ps, prev, old, exp, new, status⟩ := n
  have HM := Lib.hid hm
  have H := Lib.hid h
  clear h hm
  have mixed := mixedOrders
  unfold Nd.cs
  simp only
  obtain ⟨r, hr, hm64⟩ := mod_any v 64 (by omega) (by omega)
  have HQ := Lib.hid hm64
  clear hm64
  have hu : U64 (bits .xor .u64 bm (IntKind.u64.wrap (2 ^ min r 64))) := xor_wrap_u64 H.out.rd.bm _
  have HU := Lib.hid hu
  clear hu
  go_enter Try.func10, Try.ntmps10
  go_wp2_with (go_at_call 32; refine (HM.out _).mono ?_; rintro e w' ⟨rfl, rfl⟩)
  go_region_with (first | (go_at_call 32; refine (HQ.out _).mono ?_; rintro e w' ⟨rfl, rfl⟩))
  all_goals
    go_wp2
    have hb : Below w.heap.size w ((w.alloc (.cells #[.int .i64 kind, .int .i64 gen, .int .i64 main, .int .u64 (bits .xor .u64 bm (IntKind.u64.wrap (2 ^ min r 64))), .slice bA bs.length bc, .int .u64 hash, .string key, .int .u64 val, .slice pA ps.length pc, .int .i64 prev, .int .i64 old, .int .i64 exp, .int .i64 new, .int .i64 status] 28)).alloc (.cells #[.int .i64 kind, .int .i64 gen, .int .i64 main, .int .u64 (bits .xor .u64 bm (IntKind.u64.wrap (2 ^ min r 64))), .slice bA bs.length bc, .int .u64 hash, .string key, .int .u64 val, .slice pA ps.length pc, .int .i64 prev, .int .i64 old, .int .i64 exp, .int .i64 new, .int .i64 status] 28)) := ((Below.refl _ _).alloc (Nat.le_refl _) _).alloc (by simp) _
    have hb2 : Below w.heap.size w ((w.alloc (.cells #[.int .i64 kind, .int .i64 gen, .int .i64 main, .int .u64 (bits .xor .u64 bm (IntKind.u64.wrap (2 ^ min r 64))), .slice bA bs.length bc, .int .u64 hash, .string key, .int .u64 val, .slice pA ps.length pc, .int .i64 prev, .int .i64 old, .int .i64 exp, .int .i64 new, .int .i64 status] 28)).alloc (.cells #[.int .i64 kind, .int .i64 gen, .int .i64 main, .int .u64 (bits .xor .u64 bm (IntKind.u64.wrap (2 ^ min r 64))), .slice bA bs.length bc, .int .u64 hash, .string key, .int .u64 val, .slice pA ps.length pc, .int .i64 prev, .int .i64 old, .int .i64 exp, .int .i64 new, .int .i64 status] 28)).drew := below_drew hb 1
    exact bodyPost_ret (v := .agg #[.int .i64 kind, .int .i64 gen, .int .i64 main, .int .u64 (bits .xor .u64 bm (IntKind.u64.wrap (2 ^ min r 64))), .slice bA bs.length bc, .int .u64 hash, .string key, .int .u64 val, .slice pA ps.length pc, .int .i64 prev, .int .i64 old, .int .i64 exp, .int .i64 new, .int .i64 status]) (by simp [results, Try.results10, go_sem]) rfl ⟨⟨kind, gen, main, bits .xor .u64 bm (IntKind.u64.wrap (2 ^ min r 64)), bA, bc, bs, hash, key, val, pA, pc, ps, prev, old, exp, new, status⟩, rfl, ⟨H.out.rd.r.up hb2, H.out.rd.p.up hb2, HU.out, H.out.rd.bl, H.out.rd.pl⟩, hb2⟩

set_option maxRecDepth 100000 in
set_option maxHeartbeats 8000000 in
theorem changed4 (n : Nd) (f v : Int) (w : World) (h : GoodN w n) (hm : ∀ W, Calls Try.prog 32 #[.int .i64 f, .int .i64 13] W fun e w' => e = .returned (.int .i64 (4 : Nat)) ∧ W = w') :
    Calls Try.prog 10 #[.agg n.cs, .int .i64 f, .int .i64 v] w (SomeNode w) := by
  obtain ⟨kind, gen, main, bm, bA, bc, bs, hash, key, val, pA, pc, ps, prev, old, exp, new, status⟩ := n
  have HM := Lib.hid hm
  have H := Lib.hid h
  clear h hm
  have mixed := mixedOrders
  unfold Nd.cs
  simp only
  have hbl : bs.length ≤ 100 := H.out.bl
  have hpl : ps.length ≤ 100 := H.out.pl
  have HA := Lib.hid (show bA = none → bc = 0 from H.out.ba)
  have HP := Lib.hid (show pA = none → pc = 0 from H.out.pa)
  obtain ⟨W, hW⟩ : ∃ W, W = (w.alloc (.cells #[.int .i64 kind, .int .i64 gen, .int .i64 main, .int .u64 bm, .slice bA bs.length bc, .int .u64 hash, .string key, .int .u64 val, .slice pA ps.length pc, .int .i64 prev, .int .i64 old, .int .i64 exp, .int .i64 new, .int .i64 status] 28)).alloc (.cells #[.int .i64 0, .int .i64 0, .int .i64 0, .int .u64 0, .slice none 0 0, .int .u64 0, .string ⟨#[]⟩, .int .u64 0, .slice none 0 0, .int .i64 0, .int .i64 0, .int .i64 0, .int .i64 0, .int .i64 0] 28) := ⟨_, rfl⟩
  have hg0 : W.heap[w.heap.size]? = some (.cells #[.int .i64 kind, .int .i64 gen, .int .i64 main, .int .u64 bm, .slice bA bs.length bc, .int .u64 hash, .string key, .int .u64 val, .slice pA ps.length pc, .int .i64 prev, .int .i64 old, .int .i64 exp, .int .i64 new, .int .i64 status] 28 (0, 0)) := by rw [hW]; exact (Below.heap_alloc _ _ _ (by simp)).trans (heap_alloc_new w _)
  have hg1 : W.heap[w.heap.size + 1]? = some (.cells #[.int .i64 0, .int .i64 0, .int .i64 0, .int .u64 0, .slice none 0 0, .int .u64 0, .string ⟨#[]⟩, .int .u64 0, .slice none 0 0, .int .i64 0, .int .i64 0, .int .i64 0, .int .i64 0, .int .i64 0] 28 (0, 0)) := by
    rw [hW]
    have := heap_alloc_new (w.alloc (.cells #[.int .i64 kind, .int .i64 gen, .int .i64 main, .int .u64 bm, .slice bA bs.length bc, .int .u64 hash, .string key, .int .u64 val, .slice pA ps.length pc, .int .i64 prev, .int .i64 old, .int .i64 exp, .int .i64 new, .int .i64 status] 28)) (.cells #[.int .i64 0, .int .i64 0, .int .i64 0, .int .u64 0, .slice none 0 0, .int .u64 0, .string ⟨#[]⟩, .int .u64 0, .slice none 0 0, .int .i64 0, .int .i64 0, .int .i64 0, .int .i64 0, .int .i64 0] 28)
    simpa using this
  have hbW : Below w.heap.size w W := by rw [hW]; exact ((Below.refl _ _).alloc (Nat.le_refl _) _).alloc (by simp) _
  have hsW : W.heap.size = w.heap.size + 2 := by rw [hW]; simp
  have Hg0 := Lib.hid hg0
  have Hg1 := Lib.hid hg1
  have HbW := Lib.hid hbW
  have HsW := Lib.hid hsW
  have HW := Lib.hid hW.symm
  have hs0 : w.heap.size < W.heap.size := by omega
  have hs0' : ¬ w.heap.size = W.heap.size := by omega
  have a4 := node_cellA hg0 (i := 4) (v := .slice bA bs.length bc) rfl
  clear hW hg0 hg1 hbW hsW
  go_enter Try.func10, Try.ntmps10
  go_wp2_with fail
  rw [HW.out]
  refine (HM.out W).mono ?_
  rintro e w' ⟨rfl, rfl⟩
  go_upto_region 28 with (first
    | (at_builtin
       refine wpList_append_refs (w0 := W) rfl (.tmp 33) (.tmp 35) rfl W.heap.size (.slice (some ⟨W.heap.size, 0, none⟩) 0 0) [] rfl (ownR_empty W) bA bs.length bc w.heap.size bs rfl rfl ((H.out.rd.r.below HbW.out).alloc (by omega) _) HA.out (by simp; omega) ((Below.refl _ W).alloc (Nat.le_refl _) _) (by simp) ?_
       intro va wa HOa HBa
       have hsa : W.heap.size ≤ wa.heap.size := HBa.size)
    | (at_builtin
       refine wpList_append_refs (w0 := W) rfl (.tmp 36) (.tmp 38) rfl W.heap.size va ([] ++ bs) rfl (HOa.out.alloc _) _ 1 1 _ [v] rfl rfl (one_rdR wa v) (fun e => by cases e) (by simp; omega) (HBa.alloc hsa _) (by simp; omega) ?_
       intro vb wb HOb HBb
       obtain ⟨A', c', rfl, _, hA', hc'⟩ := HOb.out.open2
       have c4b := (HBb.cell (p := ⟨w.heap.size, 4, none⟩) hs0).trans a4
       have f4b := (HBb.frozen (p := ⟨w.heap.size, 4, none⟩) hs0).trans (node_frozen Hg0.out 4)
       clear hA' hc'))
  obtain ⟨W4, hW4⟩ : ∃ W4, W4 = wb.setCell ⟨w.heap.size, 4, none⟩ (.slice A' (bs.length + 1) c') := ⟨_, rfl⟩
  rw [← hW4]
  have HgR := Lib.hid (show W4.heap[w.heap.size]? = some (.cells #[.int .i64 kind, .int .i64 gen, .int .i64 main, .int .u64 bm, .slice A' (bs.length + 1) c', .int .u64 hash, .string key, .int .u64 val, .slice pA ps.length pc, .int .i64 prev, .int .i64 old, .int .i64 exp, .int .i64 new, .int .i64 status] 28 (0, 0)) by rw [hW4]; exact set_field ((HBb.block w.heap.size (by omega)).trans Hg0.out) 4 _)
  have hb4 : Below w.heap.size w W4 := by rw [hW4]; exact (HbW.out.trans (HBb.mono (by omega))).setCell (Nat.le_refl _) _
  have HgZ := Lib.hid (show W4.heap[w.heap.size + 1]? = some (.cells #[.int .i64 0, .int .i64 0, .int .i64 0, .int .u64 0, .slice none 0 0, .int .u64 0, .string ⟨#[]⟩, .int .u64 0, .slice none 0 0, .int .i64 0, .int .i64 0, .int .i64 0, .int .i64 0, .int .i64 0] 28 (0, 0)) by rw [hW4]; exact (Below.heap_setCell wb ⟨w.heap.size, 4, none⟩ _ _ (by simp)).trans ((HBb.block (w.heap.size + 1) (by rw [HsW.out]; omega)).trans Hg1.out))
  have HO := Lib.hid (show OwnR W4 W.heap.size (.slice A' (bs.length + 1) c') (bs ++ [v]) by rw [hW4]; have := HOb.out.keepFrom (w' := wb.setCell ⟨w.heap.size, 4, none⟩ (.slice A' (bs.length + 1) c')) fun k hk _ => Below.heap_setCell wb ⟨w.heap.size, 4, none⟩ _ k (by simp; omega); simpa using this)
  have HB4 := Lib.hid hb4
  clear hW4 hb4 a4 HBb f4b c4b
  have b0 := node_cellA HgR.out (i := 0) (v := .int .i64 kind) rfl
  have b1 := node_cellA HgR.out (i := 1) (v := .int .i64 gen) rfl
  have b2 := node_cellA HgR.out (i := 2) (v := .int .i64 main) rfl
  have b3 := node_cellA HgR.out (i := 3) (v := .int .u64 bm) rfl
  have b4 := node_cellA HgR.out (i := 4) (v := .slice A' (bs.length + 1) c') rfl
  have b5 := node_cellA HgR.out (i := 5) (v := .int .u64 hash) rfl
  have b6 := node_cellA HgR.out (i := 6) (v := .string key) rfl
  have b7 := node_cellA HgR.out (i := 7) (v := .int .u64 val) rfl
  have b8 := node_cellA HgR.out (i := 8) (v := .slice pA ps.length pc) rfl
  have b9 := node_cellA HgR.out (i := 9) (v := .int .i64 prev) rfl
  have b10 := node_cellA HgR.out (i := 10) (v := .int .i64 old) rfl
  have b11 := node_cellA HgR.out (i := 11) (v := .int .i64 exp) rfl
  have b12 := node_cellA HgR.out (i := 12) (v := .int .i64 new) rfl
  have b13 := node_cellA HgR.out (i := 13) (v := .int .i64 status) rfl
  go_wp2_with ((refine wpList_store_row rfl 28 (.tmp 6) (.tmp 83) rfl (w.heap.size + 1) #[.int .i64 kind, .int .i64 gen, .int .i64 main, .int .u64 bm, .slice A' (bs.length + 1) c', .int .u64 hash, .string key, .int .u64 val, .slice pA ps.length pc, .int .i64 prev, .int .i64 old, .int .i64 exp, .int .i64 new, .int .i64 status] rfl rfl 28 _ HgZ.out nodeSize rfl (by simp [Value.oneCell']) ?_))
  obtain ⟨V, hV⟩ : ∃ V, V = W4.setRow (w.heap.size + 1) #[.int .i64 kind, .int .i64 gen, .int .i64 main, .int .u64 bm, .slice A' (bs.length + 1) c', .int .u64 hash, .string key, .int .u64 val, .slice pA ps.length pc, .int .i64 prev, .int .i64 old, .int .i64 exp, .int .i64 new, .int .i64 status] := ⟨_, rfl⟩
  have hg := setRow_heap W4 (w.heap.size + 1) _ #[.int .i64 kind, .int .i64 gen, .int .i64 main, .int .u64 bm, .slice A' (bs.length + 1) c', .int .u64 hash, .string key, .int .u64 val, .slice pA ps.length pc, .int .i64 prev, .int .i64 old, .int .i64 exp, .int .i64 new, .int .i64 status] 28 (0, 0) HgZ.out
  rw [← hV] at hg ⊢
  have HB := Lib.hid (show Below w.heap.size w V by rw [hV]; exact below_setRow HB4.out (Nat.le_succ _) _)
  have HX := Lib.hid (show RdX V W.heap.size V.heap.size A' (flatR (bs ++ [v])) by rw [hV, setRow_size]; exact RdX.keep (OwnR.rdX' (by simp) HO.out) fun k hk _ => setRow_other _ _ _ _ (by rw [HsW.out] at hk; omega))
  clear hV
  have d0 := node_cellA hg (i := 0) (v := .int .i64 kind) rfl
  have d1 := node_cellA hg (i := 1) (v := .int .i64 gen) rfl
  have d2 := node_cellA hg (i := 2) (v := .int .i64 main) rfl
  have d3 := node_cellA hg (i := 3) (v := .int .u64 bm) rfl
  have d4 := node_cellA hg (i := 4) (v := .slice A' (bs.length + 1) c') rfl
  have d5 := node_cellA hg (i := 5) (v := .int .u64 hash) rfl
  have d6 := node_cellA hg (i := 6) (v := .string key) rfl
  have d7 := node_cellA hg (i := 7) (v := .int .u64 val) rfl
  have d8 := node_cellA hg (i := 8) (v := .slice pA ps.length pc) rfl
  have d9 := node_cellA hg (i := 9) (v := .int .i64 prev) rfl
  have d10 := node_cellA hg (i := 10) (v := .int .i64 old) rfl
  have d11 := node_cellA hg (i := 11) (v := .int .i64 exp) rfl
  have d12 := node_cellA hg (i := 12) (v := .int .i64 new) rfl
  have d13 := node_cellA hg (i := 13) (v := .int .i64 status) rfl
  clear hg
  refine bodyPost_ret (v := .agg #[.int .i64 kind, .int .i64 gen, .int .i64 main, .int .u64 bm, .slice A' (bs.length + 1) c', .int .u64 hash, .string key, .int .u64 val, .slice pA ps.length pc, .int .i64 prev, .int .i64 old, .int .i64 exp, .int .i64 new, .int .i64 status]) (by simp [results, Try.results10, go_sem, d0, d1, d2, d3, d4, d5, d6, d7, d8, d9, d10, d11, d12, d13]) rfl ⟨⟨kind, gen, main, bm, A', c', bs ++ [v], hash, key, val, pA, pc, ps, prev, old, exp, new, status⟩, by simp [Nd.cs], ?_, HB.out⟩
  exact ⟨HX.out.rdR, H.out.rd.p.up HB.out, H.out.rd.bm, by show (bs ++ [v]).length ≤ 1000; simp; omega, H.out.rd.pl⟩

set_option maxRecDepth 100000 in
set_option maxHeartbeats 8000000 in
theorem changed8 (n : Nd) (f v : Int) (w : World) (h : GoodN w n) (hm : ∀ W, Calls Try.prog 32 #[.int .i64 f, .int .i64 13] W fun e w' => e = .returned (.int .i64 (8 : Nat)) ∧ W = w') :
    Calls Try.prog 10 #[.agg n.cs, .int .i64 f, .int .i64 v] w (SomeNode w) := by
  obtain ⟨kind, gen, main, bm, bA, bc, bs, hash, key, val, pA, pc, ps, prev, old, exp, new, status⟩ := n
  have HM := Lib.hid hm
  have H := Lib.hid h
  clear h hm
  have mixed := mixedOrders
  unfold Nd.cs
  simp only
  have hbl : bs.length ≤ 100 := H.out.bl
  have hpl : ps.length ≤ 100 := H.out.pl
  have HA := Lib.hid (show bA = none → bc = 0 from H.out.ba)
  have HP := Lib.hid (show pA = none → pc = 0 from H.out.pa)
  obtain ⟨W, hW⟩ : ∃ W, W = (w.alloc (.cells #[.int .i64 kind, .int .i64 gen, .int .i64 main, .int .u64 bm, .slice bA bs.length bc, .int .u64 hash, .string key, .int .u64 val, .slice pA ps.length pc, .int .i64 prev, .int .i64 old, .int .i64 exp, .int .i64 new, .int .i64 status] 28)).alloc (.cells #[.int .i64 0, .int .i64 0, .int .i64 0, .int .u64 0, .slice none 0 0, .int .u64 0, .string ⟨#[]⟩, .int .u64 0, .slice none 0 0, .int .i64 0, .int .i64 0, .int .i64 0, .int .i64 0, .int .i64 0] 28) := ⟨_, rfl⟩
  have hg0 : W.heap[w.heap.size]? = some (.cells #[.int .i64 kind, .int .i64 gen, .int .i64 main, .int .u64 bm, .slice bA bs.length bc, .int .u64 hash, .string key, .int .u64 val, .slice pA ps.length pc, .int .i64 prev, .int .i64 old, .int .i64 exp, .int .i64 new, .int .i64 status] 28 (0, 0)) := by rw [hW]; exact (Below.heap_alloc _ _ _ (by simp)).trans (heap_alloc_new w _)
  have hg1 : W.heap[w.heap.size + 1]? = some (.cells #[.int .i64 0, .int .i64 0, .int .i64 0, .int .u64 0, .slice none 0 0, .int .u64 0, .string ⟨#[]⟩, .int .u64 0, .slice none 0 0, .int .i64 0, .int .i64 0, .int .i64 0, .int .i64 0, .int .i64 0] 28 (0, 0)) := by
    rw [hW]
    have := heap_alloc_new (w.alloc (.cells #[.int .i64 kind, .int .i64 gen, .int .i64 main, .int .u64 bm, .slice bA bs.length bc, .int .u64 hash, .string key, .int .u64 val, .slice pA ps.length pc, .int .i64 prev, .int .i64 old, .int .i64 exp, .int .i64 new, .int .i64 status] 28)) (.cells #[.int .i64 0, .int .i64 0, .int .i64 0, .int .u64 0, .slice none 0 0, .int .u64 0, .string ⟨#[]⟩, .int .u64 0, .slice none 0 0, .int .i64 0, .int .i64 0, .int .i64 0, .int .i64 0, .int .i64 0] 28)
    simpa using this
  have hbW : Below w.heap.size w W := by rw [hW]; exact ((Below.refl _ _).alloc (Nat.le_refl _) _).alloc (by simp) _
  have hsW : W.heap.size = w.heap.size + 2 := by rw [hW]; simp
  have Hg0 := Lib.hid hg0
  have Hg1 := Lib.hid hg1
  have HbW := Lib.hid hbW
  have HsW := Lib.hid hsW
  have HW := Lib.hid hW.symm
  have hs0 : w.heap.size < W.heap.size := by omega
  have hs0' : ¬ w.heap.size = W.heap.size := by omega
  have a4 := node_cellA hg0 (i := 8) (v := .slice pA ps.length pc) rfl
  clear hW hg0 hg1 hbW hsW
  go_enter Try.func10, Try.ntmps10
  go_wp2_with fail
  rw [HW.out]
  refine (HM.out W).mono ?_
  rintro e w' ⟨rfl, rfl⟩
  go_upto_region 28 with (first
    | (at_builtin
       refine wpList_append_list (w0 := W) rfl (.tmp 59) (.tmp 61) rfl W.heap.size (.slice (some ⟨W.heap.size, 0, none⟩) 0 0) [] rfl (own_empty W) pA ps.length pc w.heap.size ps rfl rfl ((H.out.rd.p.below HbW.out).alloc (by omega) _) HP.out (by simp; omega) ((Below.refl _ W).alloc (Nat.le_refl _) _) (by simp) ?_
       intro va wa HOa HBa
       have hsa : W.heap.size ≤ wa.heap.size := HBa.size)
    | (at_builtin
       refine wpList_append_list (w0 := W) rfl (.tmp 62) (.tmp 64) rfl W.heap.size va ([] ++ ps) rfl (HOa.out.alloc _) _ 1 1 _ [((⟨#[97]⟩ : ByteArray), (0 : Int))] rfl rfl (one_rdP wa (⟨#[97]⟩, 0)) (fun e => by cases e) (by simp; omega) (HBa.alloc hsa _) (by simp; omega) ?_
       intro vb wb HOb HBb
       obtain ⟨A', c', rfl, _, hA', hc'⟩ := HOb.out.open2
       have c4b := (HBb.cell (p := ⟨w.heap.size, 8, none⟩) hs0).trans a4
       have f4b := (HBb.frozen (p := ⟨w.heap.size, 8, none⟩) hs0).trans (node_frozen Hg0.out 8)
       clear hA' hc'))
  obtain ⟨W4, hW4⟩ : ∃ W4, W4 = wb.setCell ⟨w.heap.size, 8, none⟩ (.slice A' (ps.length + 1) c') := ⟨_, rfl⟩
  rw [← hW4]
  have HgR := Lib.hid (show W4.heap[w.heap.size]? = some (.cells #[.int .i64 kind, .int .i64 gen, .int .i64 main, .int .u64 bm, .slice bA bs.length bc, .int .u64 hash, .string key, .int .u64 val, .slice A' (ps.length + 1) c', .int .i64 prev, .int .i64 old, .int .i64 exp, .int .i64 new, .int .i64 status] 28 (0, 0)) by rw [hW4]; exact set_field ((HBb.block w.heap.size (by omega)).trans Hg0.out) 8 _)
  have hb4 : Below w.heap.size w W4 := by rw [hW4]; exact (HbW.out.trans (HBb.mono (by omega))).setCell (Nat.le_refl _) _
  have HgZ := Lib.hid (show W4.heap[w.heap.size + 1]? = some (.cells #[.int .i64 0, .int .i64 0, .int .i64 0, .int .u64 0, .slice none 0 0, .int .u64 0, .string ⟨#[]⟩, .int .u64 0, .slice none 0 0, .int .i64 0, .int .i64 0, .int .i64 0, .int .i64 0, .int .i64 0] 28 (0, 0)) by rw [hW4]; exact (Below.heap_setCell wb ⟨w.heap.size, 8, none⟩ _ _ (by simp)).trans ((HBb.block (w.heap.size + 1) (by rw [HsW.out]; omega)).trans Hg1.out))
  have HO := Lib.hid (show Own W4 W.heap.size (.slice A' (ps.length + 1) c') (ps ++ [((⟨#[97]⟩ : ByteArray), (0 : Int))]) by rw [hW4]; have := HOb.out.keepFrom (w' := wb.setCell ⟨w.heap.size, 8, none⟩ (.slice A' (ps.length + 1) c')) fun k hk _ => Below.heap_setCell wb ⟨w.heap.size, 8, none⟩ _ k (by simp; omega); simpa using this)
  have HB4 := Lib.hid hb4
  clear hW4 hb4 a4 HBb f4b c4b
  have b0 := node_cellA HgR.out (i := 0) (v := .int .i64 kind) rfl
  have b1 := node_cellA HgR.out (i := 1) (v := .int .i64 gen) rfl
  have b2 := node_cellA HgR.out (i := 2) (v := .int .i64 main) rfl
  have b3 := node_cellA HgR.out (i := 3) (v := .int .u64 bm) rfl
  have b4 := node_cellA HgR.out (i := 4) (v := .slice bA bs.length bc) rfl
  have b5 := node_cellA HgR.out (i := 5) (v := .int .u64 hash) rfl
  have b6 := node_cellA HgR.out (i := 6) (v := .string key) rfl
  have b7 := node_cellA HgR.out (i := 7) (v := .int .u64 val) rfl
  have b8 := node_cellA HgR.out (i := 8) (v := .slice A' (ps.length + 1) c') rfl
  have b9 := node_cellA HgR.out (i := 9) (v := .int .i64 prev) rfl
  have b10 := node_cellA HgR.out (i := 10) (v := .int .i64 old) rfl
  have b11 := node_cellA HgR.out (i := 11) (v := .int .i64 exp) rfl
  have b12 := node_cellA HgR.out (i := 12) (v := .int .i64 new) rfl
  have b13 := node_cellA HgR.out (i := 13) (v := .int .i64 status) rfl
  go_wp2_with ((refine wpList_store_row rfl 28 (.tmp 6) (.tmp 83) rfl (w.heap.size + 1) #[.int .i64 kind, .int .i64 gen, .int .i64 main, .int .u64 bm, .slice bA bs.length bc, .int .u64 hash, .string key, .int .u64 val, .slice A' (ps.length + 1) c', .int .i64 prev, .int .i64 old, .int .i64 exp, .int .i64 new, .int .i64 status] rfl rfl 28 _ HgZ.out nodeSize rfl (by simp [Value.oneCell']) ?_))
  obtain ⟨V, hV⟩ : ∃ V, V = W4.setRow (w.heap.size + 1) #[.int .i64 kind, .int .i64 gen, .int .i64 main, .int .u64 bm, .slice bA bs.length bc, .int .u64 hash, .string key, .int .u64 val, .slice A' (ps.length + 1) c', .int .i64 prev, .int .i64 old, .int .i64 exp, .int .i64 new, .int .i64 status] := ⟨_, rfl⟩
  have hg := setRow_heap W4 (w.heap.size + 1) _ #[.int .i64 kind, .int .i64 gen, .int .i64 main, .int .u64 bm, .slice bA bs.length bc, .int .u64 hash, .string key, .int .u64 val, .slice A' (ps.length + 1) c', .int .i64 prev, .int .i64 old, .int .i64 exp, .int .i64 new, .int .i64 status] 28 (0, 0) HgZ.out
  rw [← hV] at hg ⊢
  have HB := Lib.hid (show Below w.heap.size w V by rw [hV]; exact below_setRow HB4.out (Nat.le_succ _) _)
  have HX := Lib.hid (show RdX V W.heap.size V.heap.size A' (flat (ps ++ [((⟨#[97]⟩ : ByteArray), (0 : Int))])) by rw [hV, setRow_size]; exact RdX.keep (Own.rdX' (by simp) HO.out) fun k hk _ => setRow_other _ _ _ _ (by rw [HsW.out] at hk; omega))
  clear hV
  have d0 := node_cellA hg (i := 0) (v := .int .i64 kind) rfl
  have d1 := node_cellA hg (i := 1) (v := .int .i64 gen) rfl
  have d2 := node_cellA hg (i := 2) (v := .int .i64 main) rfl
  have d3 := node_cellA hg (i := 3) (v := .int .u64 bm) rfl
  have d4 := node_cellA hg (i := 4) (v := .slice bA bs.length bc) rfl
  have d5 := node_cellA hg (i := 5) (v := .int .u64 hash) rfl
  have d6 := node_cellA hg (i := 6) (v := .string key) rfl
  have d7 := node_cellA hg (i := 7) (v := .int .u64 val) rfl
  have d8 := node_cellA hg (i := 8) (v := .slice A' (ps.length + 1) c') rfl
  have d9 := node_cellA hg (i := 9) (v := .int .i64 prev) rfl
  have d10 := node_cellA hg (i := 10) (v := .int .i64 old) rfl
  have d11 := node_cellA hg (i := 11) (v := .int .i64 exp) rfl
  have d12 := node_cellA hg (i := 12) (v := .int .i64 new) rfl
  have d13 := node_cellA hg (i := 13) (v := .int .i64 status) rfl
  clear hg
  refine bodyPost_ret (v := .agg #[.int .i64 kind, .int .i64 gen, .int .i64 main, .int .u64 bm, .slice bA bs.length bc, .int .u64 hash, .string key, .int .u64 val, .slice A' (ps.length + 1) c', .int .i64 prev, .int .i64 old, .int .i64 exp, .int .i64 new, .int .i64 status]) (by simp [results, Try.results10, go_sem, d0, d1, d2, d3, d4, d5, d6, d7, d8, d9, d10, d11, d12, d13]) rfl ⟨⟨kind, gen, main, bm, bA, bc, bs, hash, key, val, A', c', ps ++ [((⟨#[97]⟩ : ByteArray), (0 : Int))], prev, old, exp, new, status⟩, by simp [Nd.cs], ?_, HB.out⟩
  exact ⟨H.out.rd.r.up HB.out, HX.out.rd, H.out.rd.bm, H.out.rd.bl, by show (ps ++ [((⟨#[97]⟩ : ByteArray), (0 : Int))]).length ≤ 1000; simp; omega⟩

theorem changed_any (n : Nd) (f v : Int) (w : World) (h : GoodN w n) : Calls Try.prog 10 #[.agg n.cs, .int .i64 f, .int .i64 v] w (SomeNode w) := by
  obtain ⟨r, hr, hm⟩ := mod_any f 13 (by omega) (by omega)
  match r, hr, hm with
  | 0, _, hm => exact changed0 n f v w h hm
  | 1, _, hm => exact changed1 n f v w h hm
  | 2, _, hm => exact changed2 n f v w h hm
  | 3, _, hm => exact changed3 n f v w h hm
  | 4, _, hm => exact changed4 n f v w h hm
  | 5, _, hm => exact changed5 n f v w h hm
  | 6, _, hm => exact changed6 n f v w h hm
  | 7, _, hm => exact changed7 n f v w h hm
  | 8, _, hm => exact changed8 n f v w h hm
  | 9, _, hm => exact changed9 n f v w h hm
  | 10, _, hm => exact changed10 n f v w h hm
  | 11, _, hm => exact changed11 n f v w h hm
  | 12, _, hm => exact changed12 n f v w h hm

end Go.Proofs.Ytojcdnjnhejlmaa
