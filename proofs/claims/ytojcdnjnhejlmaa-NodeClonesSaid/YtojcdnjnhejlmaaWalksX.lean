/-
  The walk of awake; what Valid says of the constructors' nodes.
-/
import Derived.Test.YtojcdnjnhejlmaaWalksH
import Derived.Test.YtojcdnjnhejlmaaWalksJ
set_option linter.unusedVariables false
namespace Go.Proofs.Ytojcdnjnhejlmaa
open Go.Shelf Go.RowKit Go.Lib Go.Sort

theorem c5 : cntI 5 = 2 := by decide +kernel
theorem c0 : cntI 0 = 0 := by decide +kernel
theorem u5 : U64 5 := by unfold U64; omega
theorem valid_two (A : Option Addr) (c : Nat) : validN { Nd.zero with kind := 3, bm := 5, bA := A, bc := c, bs := [1, 2] } = true := by
  simp [validN, eqN, own, cellsB, fieldsB, lowB, lowK, Nd.zero, c5]
theorem valid_one (A : Option Addr) (c : Nat) : validN { Nd.zero with kind := 3, bm := 5, bA := A, bc := c, bs := [1] } = false := by
  simp [validN, eqN, own, cellsB, fieldsB, lowB, lowK, Nd.zero, c5]
theorem valid_single_list (h : Int) (A : Option Addr) (c : Nat) (x : Pr) : validN { Nd.zero with kind := 6, hash := h, pA := A, pc := c, ps := [x] } = false := by
  simp [validN, eqN, own, cellsB, fieldsB, Nd.zero]
theorem valid_inner (g : Int) : validN { Nd.zero with kind := 2, gen := g } = decide (1 ≤ g) := by
  simp [validN, eqN, own, cellsB, fieldsB, Nd.zero]
theorem valid_empty : validN { Nd.zero with kind := 3 } = true := by
  simp [validN, eqN, own, cellsB, fieldsB, lowB, Nd.zero, c0]
theorem valid_single (h : Int) (k : ByteArray) (v : Int) : validN { Nd.zero with kind := 4, hash := h, key := k, val := v } = !longK k := by
  simp [validN, eqN, own, cellsB, fieldsB, Nd.zero]
theorem valid_tomb (h : Int) (k : ByteArray) (v : Int) : validN { Nd.zero with kind := 5, hash := h, key := k, val := v } = !longK k := by
  simp [validN, eqN, own, cellsB, fieldsB, Nd.zero]
theorem valid_failed (o : Int) : validN { Nd.zero with kind := 7, old := o } = !lowK o := by
  simp [validN, eqN, own, cellsB, fieldsB, Nd.zero]
theorem valid_desc (o x y : Int) : validN { Nd.zero with kind := 8, old := o, exp := x, new := y } = (!lowK o && (!lowK x && !lowK y)) := by
  simp [validN, eqN, own, cellsB, fieldsB, Nd.zero]
theorem valid_zero : validN Nd.zero = false := by
  simp [validN, eqN, own, cellsB, fieldsB, Nd.zero]
theorem valid_list (h : Int) (A : Option Addr) (c : Nat) (xs : List Pr) (h2 : 2 ≤ xs.length) (hv : validB xs = true) (hl : longB xs = false) : validN { Nd.zero with kind := 6, hash := h, pA := A, pc := c, ps := xs } = true := by
  simp [validN, eqN, own, cellsB, fieldsB, Nd.zero, h2, hv, hl]

/-- The contract of Valid at a node of which it is known. -/
theorem valid_at (n : Nd) (r : Bool) (hr : validN n = r) (w : World) (h : NRd w w.heap.size n) : Calls Try.prog 11 #[.agg n.cs] w fun e w' => e = .returned (.bool r) ∧ Below w.heap.size w w' := by
  subst hr
  exact (valid_any n w.heap.size w h (Nat.le_refl _)).mono fun _ _ ⟨he, hg⟩ => ⟨he, hg.b⟩
theorem nrd_plain {w : World} {B : Nat} {n : Nd} (h1 : n.bs = []) (h2 : n.ps = []) (h3 : n.bm = 0) : NRd w B n := by
  refine ⟨?_, ?_, ?_, ?_, ?_⟩
  · rw [h1]; exact RdR.nil
  · rw [h2]; exact Rd.nil
  · rw [h3]; exact u64_zero
  · rw [h1]; exact Nat.zero_le _
  · rw [h2]; exact Nat.zero_le _
theorem lit_rdR (w : World) (xs : List Int) : RdR (w.alloc (.cells (flatR xs).toArray 26)) (w.alloc (.cells (flatR xs).toArray 26)).heap.size (some ⟨w.heap.size, 0, none⟩) xs := fun _ =>
  ⟨_, rfl, by simp, fun j u hj => by
    have := cell_of_row (w.alloc (.cells (flatR xs).toArray 26)) w.heap.size j (flatR xs).toArray 26 (0, 0) (heap_alloc_new w _)
    rw [Addr.add_lit, Nat.zero_add]
    exact this.trans (by simpa using hj)⟩
theorem lit_rdP (w : World) (xs : List Pr) : Rd (w.alloc (.cells (flat xs).toArray 41)) (w.alloc (.cells (flat xs).toArray 41)).heap.size (some ⟨w.heap.size, 0, none⟩) xs := fun _ =>
  ⟨_, rfl, by simp, fun j u hj => by
    have := cell_of_row (w.alloc (.cells (flat xs).toArray 41)) w.heap.size j (flat xs).toArray 41 (0, 0) (heap_alloc_new w _)
    rw [Addr.add_lit, Nat.zero_add]
    exact this.trans (by simpa using hj)⟩
def kA : ByteArray := ⟨#[97]⟩

set_option maxHeartbeats 2000000 in
theorem awake_any (w : World) : Calls Try.prog 7 #[] w fun e w' => e = .returned (.bool true) ∧ Below w.heap.size w w' := by
  go_enter Try.func7, Try.ntmps7
  go_wp2_with fail
  refine (valid_at { Nd.zero with kind := 3, bm := 5, bA := some ⟨w.heap.size, 0, none⟩, bc := 2, bs := [1, 2] } true (valid_two _ _) (w.alloc (.cells (flatR [1, 2]).toArray 26)) ⟨lit_rdR w _, Rd.nil, u5, by simp, Nat.zero_le _⟩).mono ?_
  rintro e w1 ⟨rfl, hb⟩
  have HB := Lib.hid (((Below.refl w.heap.size w).alloc (Nat.le_refl _) (.cells (flatR [1, 2]).toArray 26)).trans (hb.mono (by simp)))
  clear hb
  go_wp2_with fail
  refine (valid_at { Nd.zero with kind := 3, bm := 5, bA := some ⟨w1.heap.size, 0, none⟩, bc := 1, bs := [1] } false (valid_one _ _) (w1.alloc (.cells (flatR [1]).toArray 26)) ⟨lit_rdR w1 _, Rd.nil, u5, by simp, Nat.zero_le _⟩).mono ?_
  rintro e w2 ⟨rfl, hb⟩
  have HB := Lib.hid (HB.out.trans ((((Below.refl w1.heap.size w1).alloc (Nat.le_refl _) (.cells (flatR [1]).toArray 26)).trans (hb.mono (by simp))).mono HB.out.size))
  clear hb
  go_wp2_with fail
  refine (list_any 0 (some ⟨w2.heap.size, 0, none⟩) 1 [(kA, 0)] (w2.alloc (.cells (flat [(kA, 0)]).toArray 41)) (lit_rdP w2 _) (fun e => by cases e) (by simp)).mono ?_
  rintro e w3 ⟨A, c, rfl, ho, hb⟩
  have hR := (Own.rdX ho).rd
  have HR := Lib.hid hR
  have HB := Lib.hid (HB.out.trans ((((Below.refl w2.heap.size w2).alloc (Nat.le_refl _) (.cells (flat [(kA, 0)]).toArray 41)).trans (hb.mono (by simp))).mono HB.out.size))
  clear hb hR ho
  go_wp2_with fail
  refine (valid_at { Nd.zero with kind := 6, hash := 0, pA := A, pc := c, ps := [(kA, 0)] } false (valid_single_list _ _ _ _) w3 ⟨RdR.nil, HR.out, u64_zero, Nat.zero_le _, by simp⟩).mono ?_
  rintro e w4 ⟨rfl, hb⟩
  have HB := Lib.hid (HB.out.trans (hb.mono HB.out.size))
  clear hb HR
  go_wp2_with fail
  refine (inner_any 1 w4).mono ?_
  rintro e w5 ⟨rfl, hg⟩
  have HB := Lib.hid (HB.out.trans (hg.b.mono HB.out.size))
  clear hg
  go_wp2_with fail
  refine (valid_at { Nd.zero with kind := 2, gen := 1 } true (valid_inner 1) w5 (nrd_plain rfl rfl rfl)).mono ?_
  rintro e w6 ⟨rfl, hb⟩
  have HB := Lib.hid (HB.out.trans (hb.mono HB.out.size))
  clear hb
  go_wp2
  go_ret
  exact ⟨rfl, HB.out⟩

end Go.Proofs.Ytojcdnjnhejlmaa
