/-
  The walks of the tape of arbitrary numbers.
-/
import Derived.Test.YtbknbjabkhhlfaaDuA
set_option linter.unusedVariables false
set_option maxRecDepth 100000
namespace Go.Proofs.Ytbknbjabkhhlfaa
open Go.Shelf Go.RowKit Go.Lib Go.Sort

set_option maxHeartbeats 1000000 in
theorem mod_any (z : Int) (n : Nat) (h1 : 1 ≤ n) (h2 : n ≤ 2000000) :
    ∃ r : Nat, r < n ∧ ∀ w, Calls Try.prog 33 #[.int .i64 z, .int .i64 n] w fun e w' => e = .returned (.int .i64 r) ∧ w = w' := by
  have hU : 0 ≤ IntKind.u64.wrap z := by rw [IntKind.wrap_u64]; omega
  obtain ⟨U, hUd⟩ : ∃ U, U = IntKind.u64.wrap z := ⟨_, rfl⟩
  rw [← hUd] at hU
  have e1 : U.tmod (n : Int) = U % (n : Int) := Int.tmod_eq_emod_of_nonneg hU
  have e2 := Int.emod_nonneg U (show (n : Int) ≠ 0 by omega)
  have e3 := Int.emod_lt_of_pos U (show (0 : Int) < (n : Int) by omega)
  obtain ⟨r, hr⟩ : ∃ r : Nat, (r : Int) = U % (n : Int) := ⟨(U % (n : Int)).toNat, by omega⟩
  have hrn : r < n := by omega
  refine ⟨r, hrn, fun w => ?_⟩
  have E1 := Lib.hid e1
  have HR := Lib.hid hr
  have HU := Lib.hid hUd
  clear e1 hr hUd e2 e3
  go_enter Try.func33, Try.ntmps33
  go_wp2
  go_ret
  refine ⟨ret_int ?_, rfl⟩
  rw [← HU.out, E1.out, ← HR.out]
  unfold wrap64
  omega

theorem block_of_cell' {w : World} {a : Addr} {v : Value} (h : w.cell? a = some v) : a.block < w.heap.size := by
  rcases Nat.lt_or_ge a.block w.heap.size with h1 | h1
  · exact h1
  · unfold World.cell? at h
    rw [Array.getElem?_eq_none h1] at h
    cases h

/-- A tape at block T: what is left of it may be read. -/
structure Tape (T : Nat) (w : World) : Prop where
  ex : ∃ (A : Option Addr) (len cap i : Nat), w.cell? ⟨T, 0, none⟩ = some (.slice A len cap) ∧ w.cell? ⟨T, 1, none⟩ = some (.int .i64 i) ∧ i ≤ len ∧ len ≤ maxLen ∧
    (∀ j, j < len → ∃ ad z, A = some ad ∧ ad.block < T ∧ w.cell? (ad.add j) = some (.int .i64 z))
  free : w.frozen? ⟨T, 1, none⟩ = false
  lt : T < w.heap.size


theorem Tape.kept {T : Nat} {w w' : World} (h : Tape T w) (hk : ∀ k, k ≤ T → w'.heap[k]? = w.heap[k]?) (hs : w.heap.size ≤ w'.heap.size) : Tape T w' := by
  obtain ⟨A, len, cap, i, h0, h1, h2, h3, h4⟩ := h.ex
  refine ⟨⟨A, len, cap, i, (World.cell?_of_block (hk T (Nat.le_refl _))).trans h0, (World.cell?_of_block (hk T (Nat.le_refl _))).trans h1, h2, h3, fun j hj => ?_⟩, ?_, Nat.lt_of_lt_of_le h.lt hs⟩
  · obtain ⟨ad, z, e, hb, hc⟩ := h4 j hj
    exact ⟨ad, z, e, hb, (World.cell?_of_block (hk _ (by rw [block_add]; omega))).trans hc⟩
  · rw [World.frozen?_of_block (hk T (Nat.le_refl _))]; exact h.free
theorem Tape.below {T : Nat} {w w' : World} (h : Tape T w) {B : Nat} (hb : Below B w w') (hB : T < B) : Tape T w' := h.kept (fun k hk => hb.block k (by omega)) hb.size

theorem Tape.step {T : Nat} {w : World} (h : Tape T w) {len cap i : Nat} {A : Option Addr} (h0 : w.cell? ⟨T, 0, none⟩ = some (.slice A len cap)) (h1 : w.cell? ⟨T, 1, none⟩ = some (.int .i64 i)) (hi : i < len) : Tape T (w.setCell ⟨T, 1, none⟩ (.int .i64 ((i : Int) + 1))) := by
  obtain ⟨A', len', cap', i', g0, g1, g2, g3, g4⟩ := h.ex
  rw [g0] at h0
  injection h0 with h0
  injection h0 with e1 e2 e3
  subst e1 e2 e3
  refine ⟨⟨A', len', cap', i + 1, ?_, ?_, by omega, g3, fun j hj => ?_⟩, ?_, by simpa using h.lt⟩
  · rw [World.cell?_setCell_other _ _ _ _ (fun e => by injection e; omega)]; exact g0
  · rw [World.cell?_setCell_same' _ _ _ (by rw [h1]; rfl)]; rfl
  · obtain ⟨ad, z, e, hb, hc⟩ := g4 j hj
    exact ⟨ad, z, e, hb, by rw [World.cell?_setCell_other _ _ _ _ (fun e => by have := congrArg Addr.block e; rw [block_add] at this; simp at this; omega)]; exact hc⟩
  · rw [World.frozen?_setCell]; exact h.free

def NextPost (T n : Nat) (w : World) (e : Ending) (w' : World) : Prop := ∃ r : Nat, r < n ∧ e = .returned (.int .i64 r) ∧ Tape T w' ∧ w.grownBy w' (some T)

set_option maxHeartbeats 2000000 in
theorem next_any (T n : Nat) (w : World) (h : Tape T w) (h1 : 1 ≤ n) (h2 : n ≤ 2000000) :
    Calls Try.prog 19 #[.pointer (some ⟨T, 0, none⟩), .int .i64 n] w (NextPost T n w) := by
  have mixed := mixedOrders
  obtain ⟨A, len, cap, i, c0, c1, hi, hl, hz⟩ := h.ex
  have HT := Lib.hid h
  have hfr := h.free
  unfold maxLen at hl
  have C0 := Lib.hid c0
  have C1 := Lib.hid c1
  by_cases hlt : i < len
  · have hd : decide ((i : Int) ≥ (len : Int)) = false := decide_eq_false (by omega)
    have hltz : (i : Int) < (len : Int) := by omega
    obtain ⟨ad, z, rfl, hb, hc⟩ := hz i hlt
    have hT2 := h.step c0 c1 hlt
    have HT2 := Lib.hid hT2
    have Hc := Lib.hid hc
    clear hz h hT2 hc
    go_enter Try.func19, Try.ntmps19
    go_wp2_with fail
    go_quiet (fail)
    go_wp2_with fail
    obtain ⟨wq, hwq⟩ : ∃ wq, wq = (w.drewN nq).setCell ⟨T, 1, none⟩ (.int .i64 ((i : Int) + 1)) := ⟨_, rfl⟩
    rw [← hwq]
    have HTq : Hid (Tape T wq) := by rw [hwq]; exact HT2.out.kept (fun _ _ => rfl) (Nat.le_refl _)
    have HGq : Hid (w.grownBy wq (some T)) := by
      rw [hwq]
      exact ⟨rfl, rfl, rfl, by simp, fun k hk hne => Below.heap_setCell (w.drewN nq) ⟨T, 1, none⟩ _ k (fun e => hne (by rw [e]))⟩
    have d0 : wq.cell? ⟨T, 0, none⟩ = some (.slice (some ad) len cap) := by
      rw [hwq, World.cell?_setCell_other _ _ _ _ (fun e => by injection e; omega)]; exact C0.out
    have d1 : wq.cell? ⟨T, 1, none⟩ = some (.int .i64 ((i : Int) + 1)) := by
      rw [hwq, World.cell?_setCell_same' _ _ _ (by show (w.cell? _).isSome = true; rw [C1.out]; rfl)]
    have d2 : wq.cell? (ad.add i) = some (.int .i64 z) := by
      rw [hwq, World.cell?_setCell_other _ _ _ _ (fun e => by have := congrArg Addr.block e; rw [block_add] at this; simp at this; omega)]; exact Hc.out
    have j1 : IntKind.i64.wrap (i : Int) = (i : Int) := by rw [IntKind.wrap_i64]; omega
    obtain ⟨r, hr, hm⟩ := mod_any z n h1 h2
    clear hwq c0 c1
    go_quiet ((go_at_call 33; exact (hm _).mono fun _ _ hh => ⟨hh.1, _, hh.2.symm⟩))
    go_wp2
    go_ret
    exact ⟨r, hr, rfl, HTq.out.kept (fun _ _ => rfl) (Nat.le_refl _), ⟨HGq.out.os, HGq.out.tape, HGq.out.output, HGq.out.size, HGq.out.block⟩⟩
  · have hd : decide ((i : Int) ≥ (len : Int)) = true := decide_eq_true (by omega)
    have hltz : ¬ (i : Int) < (len : Int) := by omega
    clear hz h
    go_enter Try.func19, Try.ntmps19
    go_wp2_with fail
    go_quiet (fail)
    go_wp2
    go_ret
    exact ⟨0, by omega, rfl, HT.out.kept (fun _ _ => rfl) (Nat.le_refl _), ⟨rfl, rfl, rfl, Nat.le_refl _, fun _ _ _ => rfl⟩⟩


theorem grown_trans_ {a b c : World} {T : Nat} (h : a.grownBy b (some T)) (k : b.grownBy c (some T)) : a.grownBy c (some T) :=
  ⟨k.os.trans h.os, k.tape.trans h.tape, k.output.trans h.output, Nat.le_trans h.size k.size, fun i hi hne => (k.block i (Nat.lt_of_lt_of_le hi h.size) hne).trans (h.block i hi hne)⟩
theorem grown_alloc {a b : World} {T : Nat} (h : a.grownBy b (some T)) (o : Obj) : a.grownBy (b.alloc o) (some T) :=
  ⟨h.os, h.tape, h.output, Nat.le_trans h.size (by simp), fun i hi hne => (Below.heap_alloc b o i (Nat.lt_of_lt_of_le hi h.size)).trans (h.block i hi hne)⟩

def KeyPost (T : Nat) (w : World) (e : Ending) (w' : World) : Prop := ∃ s : ByteArray, s.size ≤ 3 ∧ e = .returned (.string s) ∧ Tape T w' ∧ w.grownBy w' (some T)

set_option maxHeartbeats 2000000 in
theorem key_any (T : Nat) (w : World) (h : Tape T w) : Calls Try.prog 5 #[.pointer (some ⟨T, 0, none⟩)] w (KeyPost T w) := by
  have hT := h.lt
  have HT := Lib.hid h
  clear h
  go_enter Try.func5, Try.ntmps5
  go_wp2_with fail
  obtain ⟨cs, hcs⟩ : ∃ cs : Array Value, cs = #[.string ⟨#[97]⟩, .string ⟨#[98]⟩, .string ⟨#[99]⟩, .string ⟨#[100]⟩, .string ⟨#[97, 98]⟩, .string ⟨#[]⟩, .string ⟨#[98, 48]⟩, .string ⟨#[107, 101, 121]⟩] := ⟨_, rfl⟩
  rw [← hcs]
  refine (next_any T 8 (w.alloc (.cells cs 9)) (HT.out.below ((Below.refl w.heap.size w).alloc (Nat.le_refl _) _) hT) (by omega) (by omega)).mono ?_
  rintro e w2 ⟨r, hr, rfl, hT2, hg⟩
  have HT2 := Lib.hid hT2
  have HG := Lib.hid (⟨hg.os, hg.tape, hg.output, Nat.le_trans (by simp) hg.size, fun i hi hne => (hg.block i (by simp; omega) hne).trans (Below.heap_alloc w _ i hi)⟩ : w.grownBy w2 (some T))
  obtain ⟨s, hs, hs3⟩ : ∃ s : ByteArray, w2.cell? ⟨w.heap.size, r, none⟩ = some (.string s) ∧ s.size ≤ 3 := by
    have hblk : w2.heap[w.heap.size]? = some (.cells cs 9 (0, 0)) := (hg.block w.heap.size (by simp) (fun e => by injection e with e; omega)).trans (heap_alloc_new w _)
    rw [cell_of_row w2 w.heap.size r cs 9 (0, 0) hblk, hcs]
    match r, hr with
    | 0, _ => exact ⟨_, rfl, by decide⟩
    | 1, _ => exact ⟨_, rfl, by decide⟩
    | 2, _ => exact ⟨_, rfl, by decide⟩
    | 3, _ => exact ⟨_, rfl, by decide⟩
    | 4, _ => exact ⟨_, rfl, by decide⟩
    | 5, _ => exact ⟨_, rfl, by decide⟩
    | 6, _ => exact ⟨_, rfl, by decide⟩
    | 7, _ => exact ⟨_, rfl, by decide⟩
  have HS3 := Lib.hid hs3
  clear hs3
  have hrz : (r : Int) < 8 := by omega
  clear hg hT2 hcs
  go_wp2
  go_ret
  exact ⟨s, HS3.out, rfl, HT2.out, HG.out⟩

theorem grown_below {a b c : World} {T : Nat} (h : a.grownBy b (some T)) (k : Below a.heap.size b c) : a.grownBy c (some T) :=
  ⟨k.os.trans h.os, k.tape.trans h.tape, k.output.trans h.output, Nat.le_trans h.size k.size, fun i hi hne => (k.block i hi).trans (h.block i hi hne)⟩

/-- The numbers that came in. -/
theorem new_any (a : Option Addr) (len cap : Nat) (w : World) (hl : len ≤ maxLen) (hz : ∀ j, j < len → ∃ ad z, a = some ad ∧ w.cell? (ad.add j) = some (.int .i64 z)) :
    Calls Try.prog 4 #[.slice a len cap] w fun e w' => e = .returned (.pointer (some ⟨w.heap.size, 0, none⟩)) ∧ Tape w.heap.size w' ∧ Below w.heap.size w w' := by
  have HT : Hid (Tape w.heap.size (w.alloc (.cells #[.slice a len cap, .int .i64 0] 63))) := by
    refine ⟨⟨a, len, cap, 0, by simp, by simp, Nat.zero_le _, hl, fun j hj => ?_⟩, by simp, by simp⟩
    obtain ⟨ad, z, e, hc⟩ := hz j hj
    have hb := block_of_cell' hc
    rw [block_add] at hb
    exact ⟨ad, z, e, hb, by rw [World.cell?_alloc_lt _ _ _ (by rw [block_add]; exact hb)]; exact hc⟩
  clear hz
  go_enter Try.func4, Try.ntmps4
  go_wp2
  go_ret
  exact ⟨rfl, HT.out, (Below.refl _ w).alloc (Nat.le_refl _) _⟩

theorem below_of_grown {w w' : World} {T B : Nat} (h : w.grownBy w' (some T)) (hB : B ≤ T) (hs : B ≤ w.heap.size) : Below B w w' :=
  ⟨h.os, h.tape, h.output, h.size, fun k hk => h.block k (by omega) (fun e => by injection e with e; omega)⟩

end Go.Proofs.Ytbknbjabkhhlfaa
/-
  The walk of the tape's node: a C-node's two loops.
-/
set_option linter.unusedVariables false
set_option maxRecDepth 100000
namespace Go.Proofs.Ytbknbjabkhhlfaa
open Go.Shelf Go.RowKit Go.Lib Go.Sort

def cZ : Array Value := #[.int .i64 0, .int .i64 0, .int .i64 0, .int .u64 0, .slice none 0 0, .int .u64 0, .string ⟨#[]⟩, .int .u64 0, .slice none 0 0, .int .i64 0, .int .i64 0, .int .i64 0, .int .i64 0, .int .i64 0]
def cC (bm : Int) (A : Option Addr) (l c : Nat) : Array Value := #[.int .i64 3, .int .i64 0, .int .i64 0, .int .u64 bm, .slice A l c, .int .u64 0, .string ⟨#[]⟩, .int .u64 0, .slice none 0 0, .int .i64 0, .int .i64 0, .int .i64 0, .int .i64 0, .int .i64 0]
structure CI (T s b : Nat) (w : World) (bm : Int) (A : Option Addr) (c : Nat) (ys : List Int) (wr : World) : Prop where
  tape : Tape T wr
  grown : w.grownBy wr (some T)
  sblk : wr.heap[s]? = some (.cells cZ 35 (0, 0))
  bblk : wr.heap[b]? = some (.cells (cC bm A ys.length c) 35 (0, 0))
  own : OwnR wr (b + 1) (.slice A ys.length c) ys
  u : U64 bm
  tb : T < s ∧ s < b ∧ w.heap.size ≤ s
section
variable {T s b : Nat} {w : World} {bm : Int} {A : Option Addr} {c : Nat} {ys : List Int} {wr : World}
theorem CI.drewN (h : CI T s b w bm A c ys wr) (n : Nat) : CI T s b w bm A c ys (wr.drewN n) :=
  ⟨h.tape.kept (fun _ _ => rfl) (Nat.le_refl _), ⟨h.grown.os, h.grown.tape, h.grown.output, h.grown.size, h.grown.block⟩, h.sblk, h.bblk, h.own.drewN n, h.u, h.tb⟩
theorem CI.lt (h : CI T s b w bm A c ys wr) : b < wr.heap.size := (Array.getElem?_eq_some_iff.1 h.bblk).1
theorem CI.call (h : CI T s b w bm A c ys wr) {w5 : World} (hT : Tape T w5) (hg : wr.grownBy w5 (some T)) : CI T s b w bm A c ys w5 := by
  have tb := h.tb
  have hl := h.lt
  exact ⟨hT, grown_trans_ h.grown hg, (hg.block s (by omega) (fun e => by injection e; omega)).trans h.sblk, (hg.block b (by omega) (fun e => by injection e; omega)).trans h.bblk,
    h.own.keepFrom fun k hk hk2 => hg.block k hk2 (fun e => by injection e; omega), h.u, tb⟩
theorem CI.setBm (h : CI T s b w bm A c ys wr) {x : Int} (hx : U64 x) : CI T s b w x A c ys (wr.setCell ⟨b, 3, none⟩ (.int .u64 x)) := by
  have tb := h.tb
  refine ⟨h.tape.kept (fun k hk => Below.heap_setCell wr ⟨b, 3, none⟩ _ k (by simp; omega)) (by simp), ?_, (Below.heap_setCell wr ⟨b, 3, none⟩ _ s (by simp; omega)).trans h.sblk, set_field h.bblk 3 _, h.own.keepFrom fun k hk _ => Below.heap_setCell wr ⟨b, 3, none⟩ _ k (by simp; omega), hx, tb⟩
  exact ⟨h.grown.os, h.grown.tape, h.grown.output, by simpa using h.grown.size, fun k hk hne => (Below.heap_setCell wr ⟨b, 3, none⟩ _ k (by simp; omega)).trans (h.grown.block k hk hne)⟩
theorem CI.setBr (h : CI T s b w bm A c ys wr) {A' : Option Addr} {c' : Nat} {zs : List Int} {wa : World} (ho : OwnR wa (b + 1) (.slice A' zs.length c') zs) (hb : Below (b + 1) wr wa) : CI T s b w bm A' c' zs (wa.setCell ⟨b, 4, none⟩ (.slice A' zs.length c')) := by
  have tb := h.tb
  refine ⟨h.tape.kept (fun k hk => (Below.heap_setCell wa ⟨b, 4, none⟩ _ k (by simp; omega)).trans (hb.block k (by omega))) (by simpa using hb.size), ?_, ((Below.heap_setCell wa ⟨b, 4, none⟩ _ s (by simp; omega)).trans (hb.block s (by omega))).trans h.sblk,
    set_field ((hb.block b (by omega)).trans h.bblk) 4 _, ho.keepFrom fun k hk _ => Below.heap_setCell wa ⟨b, 4, none⟩ _ k (by simp; omega), h.u, tb⟩
  exact ⟨hb.os.trans h.grown.os, hb.tape.trans h.grown.tape, hb.output.trans h.grown.output, by simpa using Nat.le_trans h.grown.size hb.size, fun k hk hne => ((Below.heap_setCell wa ⟨b, 4, none⟩ _ k (by simp; omega)).trans (hb.block k (by omega))).trans (h.grown.block k hk hne)⟩
theorem CI.cell (h : CI T s b w bm A c ys wr) {i : Nat} {v : Value} (hv : (cC bm A ys.length c)[i]? = some v) : wr.cell? ⟨b, i, none⟩ = some v := node_cellA h.bblk hv
theorem CI.froz (h : CI T s b w bm A c ys wr) (i : Nat) : wr.frozen? ⟨b, i, none⟩ = false := node_frozen h.bblk i
end

end Go.Proofs.Ytbknbjabkhhlfaa
