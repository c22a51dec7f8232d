/-
  Layer 7: the tape, with what is known of the numbers' place.
-/
import Derived.Test.YtpopoihggomfiaaTbV
set_option linter.unusedVariables false
set_option maxRecDepth 100000
namespace Go.Proofs.Ytpopoihggomfiaa
open Go.Shelf Go.RowKit Go.Lib Go.Sort

def NextPost2 (T n : Nat) (w : World) (e : Ending) (w' : World) : Prop := ∃ r : Nat, r < n ∧ e = .returned (.int .i64 r) ∧ Tape T w' ∧ w.grownBy w' (some T) ∧ w'.cell? ⟨T, 0, none⟩ = w.cell? ⟨T, 0, none⟩
set_option maxHeartbeats 2000000 in
theorem next2_any (T n : Nat) (w : World) (h : Tape T w) (h1 : 1 ≤ n) (h2 : n ≤ 2000000) :
    Calls Try.prog 22 #[.pointer (some ⟨T, 0, none⟩), .int .i64 n] w (NextPost2 T n w) := by
  have mixed := mixedOrders
  obtain ⟨A, len, cap, i, c0, c1, hi, hl, hz⟩ := h.ex
  have HT := Lib.hid h
  have hfr := h.free
  unfold maxLen at hl
  have C0 := Lib.hid c0
  have C1 := Lib.hid c1
  by_cases hlt : i < len
  · have hd : decide ((i : Int) ≥ (len : Int)) = false := decide_eq_false (by omega)
    have hltz : (i : Int) < (len : Int) := by omega
    obtain ⟨ad, z, rfl, hb, hc⟩ := hz i hlt
    have hT2 := h.step c0 c1 hlt
    have HT2 := Lib.hid hT2
    have Hc := Lib.hid hc
    clear hz h hT2 hc
    go_enter Try.func22, Try.ntmps22
    go_wp2_with fail
    go_quiet (fail)
    go_wp2_with fail
    obtain ⟨wq, hwq⟩ : ∃ wq, wq = (w.drewN nq).setCell ⟨T, 1, none⟩ (.int .i64 ((i : Int) + 1)) := ⟨_, rfl⟩
    rw [← hwq]
    have HTq : Hid (Tape T wq) := by rw [hwq]; exact HT2.out.kept (fun _ _ => rfl) (Nat.le_refl _)
    have HGq : Hid (w.grownBy wq (some T)) := by
      rw [hwq]
      exact ⟨rfl, rfl, rfl, by simp, fun k hk hne => Below.heap_setCell (w.drewN nq) ⟨T, 1, none⟩ _ k (fun e => hne (by rw [e]))⟩
    have d0 : wq.cell? ⟨T, 0, none⟩ = some (.slice (some ad) len cap) := by
      rw [hwq, World.cell?_setCell_other _ _ _ _ (fun e => by injection e; omega)]; exact C0.out
    have D0 := Lib.hid d0
    have d1 : wq.cell? ⟨T, 1, none⟩ = some (.int .i64 ((i : Int) + 1)) := by
      rw [hwq, World.cell?_setCell_same' _ _ _ (by show (w.cell? _).isSome = true; rw [C1.out]; rfl)]
    have d2 : wq.cell? (ad.add i) = some (.int .i64 z) := by
      rw [hwq, World.cell?_setCell_other _ _ _ _ (fun e => by have := congrArg Addr.block e; rw [block_add] at this; simp at this; omega)]; exact Hc.out
    have j1 : IntKind.i64.wrap (i : Int) = (i : Int) := by rw [IntKind.wrap_i64]; omega
    obtain ⟨r, hr, hm⟩ := mod_any z n h1 h2
    clear hwq c0 c1
    go_quiet ((go_at_call 44; exact (hm _).mono fun _ _ hh => ⟨hh.1, _, hh.2.symm⟩))
    go_wp2
    go_ret
    exact ⟨r, hr, rfl, HTq.out.kept (fun _ _ => rfl) (Nat.le_refl _), ⟨HGq.out.os, HGq.out.tape, HGq.out.output, HGq.out.size, HGq.out.block⟩, D0.out.trans C0.out.symm⟩
  · have hd : decide ((i : Int) ≥ (len : Int)) = true := decide_eq_true (by omega)
    have hltz : ¬ (i : Int) < (len : Int) := by omega
    clear hz h
    go_enter Try.func22, Try.ntmps22
    go_wp2_with fail
    go_quiet (fail)
    go_wp2
    go_ret
    exact ⟨0, by omega, rfl, HT.out.kept (fun _ _ => rfl) (Nat.le_refl _), ⟨rfl, rfl, rfl, Nat.le_refl _, fun _ _ _ => rfl⟩, rfl⟩


theorem new2_any (a : Option Addr) (len cap : Nat) (w : World) (hl : len ≤ maxLen) (hz : ∀ j, j < len → ∃ ad z, a = some ad ∧ w.cell? (ad.add j) = some (.int .i64 z)) :
    Calls Try.prog 7 #[.slice a len cap] w fun e w' => e = .returned (.pointer (some ⟨w.heap.size, 0, none⟩)) ∧ Tape w.heap.size w' ∧ Below w.heap.size w w' ∧ w'.cell? ⟨w.heap.size, 0, none⟩ = some (.slice a len cap) := by
  have HT : Hid (Tape w.heap.size (w.alloc (.cells #[.slice a len cap, .int .i64 0] 57))) := by
    refine ⟨⟨a, len, cap, 0, by simp, by simp, Nat.zero_le _, hl, fun j hj => ?_⟩, by simp, by simp⟩
    obtain ⟨ad, z, e, hc⟩ := hz j hj
    have hb := block_of_cell' hc
    rw [block_add] at hb
    exact ⟨ad, z, e, hb, by rw [World.cell?_alloc_lt _ _ _ (by rw [block_add]; exact hb)]; exact hc⟩
  clear hz
  go_enter Try.func7, Try.ntmps7
  go_wp2
  go_ret
  exact ⟨rfl, HT.out, (Below.refl _ w).alloc (Nat.le_refl _) _, by simp⟩


/-- The numbers' blocks and the tape's are as they were. -/
theorem Tape.off {T lo : Nat} {w w' : World} {a : Option Addr} {len cap : Nat} (h : Tape T w) (h0 : w.cell? ⟨T, 0, none⟩ = some (.slice a len cap)) (ha : ∀ j, j < len → ∃ ad, a = some ad ∧ ad.block < lo) (hT : w'.heap[T]? = w.heap[T]?) (hk : ∀ k, k < lo → w'.heap[k]? = w.heap[k]?) (hs : w.heap.size ≤ w'.heap.size) : Tape T w' := by
  obtain ⟨A, l, c, i, c0, c1, hi, hl, hz⟩ := h.ex
  have e := c0.symm.trans h0
  injection e with e
  injection e with e1 e2 e3
  subst e1 e2 e3
  refine ⟨⟨A, l, c, i, (World.cell?_of_block hT).trans c0, (World.cell?_of_block hT).trans c1, hi, hl, fun j hj => ?_⟩, by rw [World.frozen?_of_block hT]; exact h.free, Nat.lt_of_lt_of_le h.lt hs⟩
  obtain ⟨ad, z, e, hb, hc⟩ := hz j hj
  obtain ⟨ad', e', hb'⟩ := ha j hj
  rw [e] at e'; injection e' with e'; subst e'
  exact ⟨ad, z, e, hb, (World.cell?_of_block (hk _ (by rw [block_add]; exact hb'))).trans hc⟩
theorem ints_lt {w : World} {a : Option Addr} {len : Nat} (h : IsInts w a len) : ∀ j, j < len → ∃ ad, a = some ad ∧ ad.block < w.heap.size := fun j hj => by
  obtain ⟨ad, z, e, hc⟩ := h.2 j hj
  have := block_of_cell' hc
  rw [block_add] at this
  exact ⟨ad, e, this⟩
end Go.Proofs.Ytpopoihggomfiaa
