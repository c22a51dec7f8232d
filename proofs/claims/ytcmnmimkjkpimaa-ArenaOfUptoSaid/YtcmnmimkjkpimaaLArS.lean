/-
  What the laws' calls give.
-/
import Derived.Test.YtcmnmimkjkpimaaLArR
import Derived.Test.YtcmnmimkjkpimaaLArQ
import Derived.Test.YtcmnmimkjkpimaaLArK
import Derived.Test.YtcmnmimkjkpimaaLArG
set_option linter.unusedVariables false
set_option maxRecDepth 100000
namespace Go.Proofs.Ytcmnmimkjkpimaa
open Go.Shelf Go.RowKit Go.Lib Go.Sort

/-- The numbers that came in, and the arena of the tape. -/
def TapeP (w : World) (e : Ending) (w' : World) : Prop := e = .returned (.pointer (some ⟨w.heap.size, 0, none⟩)) ∧ Tape w.heap.size w' ∧ Below w.heap.size w w'
theorem new_c (a : Option Addr) (len cap : Nat) (w : World) (hl : len ≤ maxLen) (hz : ∀ j, j < len → ∃ ad z, a = some ad ∧ w.cell? (ad.add j) = some (.int .i64 z)) : Calls Try.prog 8 #[.slice a len cap] w (TapeP w) := new_any a len cap w hl hz
/-- The block of the reference's arena. -/
def MB (q : Nat) (s : Sd) (w : World) : Prop := w.heap[q]? = some (.cells #[.slice s.nA s.ns.length s.nc, .slice s.cA s.cs.length s.cc, .int .i64 s.gen, .int .i64 0] 37 (0, 0))
def MemC (B0 : Nat) (w : World) (e : Ending) (w' : World) : Prop := ∃ q s, e = .returned (.pointer (some ⟨q, 0, none⟩)) ∧ MB q s w' ∧ q < w'.heap.size ∧ SRd w' w'.heap.size s ∧ properB s = true ∧ s.ns.length ≤ 9 ∧ s.cs.length ≤ 9 ∧ Below B0 w w'
theorem mem_c (T : Nat) (w : World) (h : Tape T w) : Calls Try.prog 9 #[.pointer (some ⟨T, 0, none⟩)] w (MemC T w) :=
  (mem_any T w h).mono fun e w' ⟨q, s, he, hob, hgs, h1, h2, hg⟩ => ⟨q, s, he, hob.blk, hob.lt, hob.srd, hgs.proper, h1, h2, below_of_grown hg (Nat.le_refl _) (Nat.le_of_lt h.lt)⟩
theorem MB.up {q : Nat} {s : Sd} {w w' : World} {B : Nat} (h : MB q s w) (hq : q < B) (hb : Below B w w') : MB q s w' := (hb.block q hq).trans h
theorem MB.at0 {q : Nat} {s : Sd} {w : World} (h : MB q s w) : w.cell? ⟨q, 0, none⟩ = some (.slice s.nA s.ns.length s.nc) := block_cell h rfl
theorem MB.at1 {q : Nat} {s : Sd} {w : World} (h : MB q s w) : w.cell? ⟨q, 1, none⟩ = some (.slice s.cA s.cs.length s.cc) := block_cell h rfl
theorem MB.at2 {q : Nat} {s : Sd} {w : World} (h : MB q s w) : w.cell? ⟨q, 2, none⟩ = some (.int .i64 s.gen) := block_cell h rfl
theorem MB.all {q : Nat} {s : Sd} {w : World} (h : MB q s w) : w.cell? ⟨q, 0, none⟩ = some (.slice s.nA s.ns.length s.nc) ∧ w.cell? ⟨q, 1, none⟩ = some (.slice s.cA s.cs.length s.cc) ∧ w.cell? ⟨q, 2, none⟩ = some (.int .i64 s.gen) := ⟨h.at0, h.at1, h.at2⟩
/-- The arena that Of makes. -/
def OfC (B : Nat) (s : Sd) (w : World) (e : Ending) (w' : World) : Prop := ∃ q t, e = .returned (.tuple #[.pointer (some ⟨q, 0, none⟩), .int .i64 0]) ∧ Ob w' B 77 q t 0 ∧ SameL s.ns t.ns ∧ t.cs = s.cs ∧ t.gen = s.gen ∧ Below B w w'
theorem of_c (s : Sd) (w : World) (h : SRd w w.heap.size s) (hp : properB s = true) : Calls Try.prog 10 #[.agg #[.slice s.nA s.ns.length s.nc, .slice s.cA s.cs.length s.cc, .int .i64 s.gen]] w (OfC w.heap.size s w) :=
  (of_ok s w.heap.size w h (Nat.le_refl _) hp).mono fun e w' ⟨q, t, he, hs, hc, hg, hob, hb⟩ => ⟨q, t, he, hob, hs, hc, hg, hb⟩

section
variable {B q : Nat} {t : Sd} {w : World}
theorem awake_c (h : Ob w B 77 q t 0) (hB : B ≤ w.heap.size) : Calls Try.prog 19 #[] w fun e w' => e = .returned (.bool true) ∧ Ob w' B 77 q t 0 ∧ Below B w w' :=
  (awake_any w).mono fun e w' ⟨he, hb⟩ => ⟨he, h.up hb, hb.mono hB⟩
theorem load_no {k : Int} {c : Int} (h : Ob w B 77 q t k) (hk : 0 ≤ k ∧ k ≤ 2000000) (hc : hasC t c = false) : Calls Try.prog 15 #[.pointer (some ⟨q, 0, none⟩), .int .i64 c] w fun e w' => e = .returned (.int .i64 0) ∧ Ob w' B 77 q t (k + 1) ∧ Below B w w' :=
  (load_any B q t k c w h hk).mono fun e w' ⟨he, hob, hf⟩ => ⟨by rw [he]; simp [cellV, hc], hob, ob_below h (hf.mono fun k _ e => .inl e)⟩
theorem cas_no {k : Int} {c old new : Int} (h : Ob w B 77 q t k) (hk : 0 ≤ k ∧ k ≤ 2000000) (hc : hasC t c = false) : Calls Try.prog 14 #[.pointer (some ⟨q, 0, none⟩), .int .i64 c, .int .i64 old, .int .i64 new] w fun e w' => e = .returned (.bool false) ∧ Ob w' B 77 q t (k + 1) ∧ Below B w w' :=
  (cas_any B q t k c old new w h hk).mono fun e w' ⟨he, hob, hf⟩ => by
    have hb : casB t c old = false := by simp [casB, hc]
    rw [casS, hb] at hob
    exact ⟨by rw [he, hb], hob, ob_below h hf⟩
def ZeroP (B : Nat) (q : Nat) (t : Sd) (k : Int) (w : World) (e : Ending) (w' : World) : Prop := ∃ y : Nd, e = .returned (.agg y.cs) ∧ eqN y Nd.zero = true ∧ NRd w' w'.heap.size y ∧ Ob w' B 77 q t k ∧ Below B w w'
theorem node_no {k : Int} {r : Int} (h : Ob w B 77 q t k) (hB : B ≤ w.heap.size) (hr : ¬ (1 ≤ r ∧ r ≤ (t.ns.length : Int))) : Calls Try.prog 27 #[.pointer (some ⟨q, 0, none⟩), .int .i64 r] w (ZeroP B q t k w) :=
  (node_get B q t k r w h).mono fun e w' ⟨y, he, hs, hf, hb⟩ => by
    rw [nodeV, if_neg hr] at hs
    refine ⟨y, he, ?_, hf.nrd.1, h.up hb, hb.mono hB⟩
    obtain ⟨A, c, P, d, rfl⟩ := hs
    simp [eqN]
theorem equal_c {k : Int} {y : Nd} (h : Ob w B 77 q t k) (hB : B ≤ w.heap.size) (hy : NRd w w.heap.size y) (he : eqN y Nd.zero = true) : Calls Try.prog 29 #[.agg y.cs, .agg #[.int .i64 0, .int .i64 0, .int .i64 0, .int .u64 0, .slice none 0 0, .int .u64 0, .string ⟨#[]⟩, .int .u64 0, .slice none 0 0, .int .i64 0, .int .i64 0, .int .i64 0, .int .i64 0, .int .i64 0]] w fun e w' => e = .returned (.bool true) ∧ Ob w' B 77 q t k ∧ Below B w w' :=
  (requal_any y Nd.zero w.heap.size w hy ⟨RdR.nil, Rd.nil, u64_zero, Nat.zero_le _, Nat.zero_le _⟩ (Nat.le_refl _)).mono fun e w' ⟨h1, hg⟩ => ⟨by rw [h1, he], h.up hg.b, hg.b.mono hB⟩
def StC (B : Nat) (s : Sd) (w : World) (e : Ending) (w' : World) : Prop := ∃ u : Sd, e = .returned (.agg u.vals) ∧ SameS u s ∧ SRd w' w'.heap.size u ∧ Below B w w'
theorem state_c {k : Int} {s : Sd} (h : Ob w B 77 q t k) (hB : B ≤ w.heap.size) (hl : SameL s.ns t.ns) (hc : t.cs = s.cs) (hg : t.gen = s.gen) : Calls Try.prog 23 #[.pointer (some ⟨q, 0, none⟩)] w (StC B s w) :=
  (state_any B q t k w h).mono fun e w' ⟨u, he, hu, huc, hug, hr, hb⟩ => by
    refine ⟨u, he, ⟨hu.1.symm.trans hl.1.symm, hug.trans hg, huc.trans hc, fun i x y hx hy => ?_⟩, hr, hb.mono hB⟩
    have hi : i < t.ns.length := by rw [hu.1]; exact (List.getElem?_eq_some_iff.1 hx).1
    have hz := List.getElem?_eq_getElem hi
    obtain ⟨A, c, P, d, e1⟩ := hu.2 i _ x hz hx
    obtain ⟨A', c', P', d', e2⟩ := hl.2 i y _ hy hz
    rw [e1, e2]
    simp [eqN]
theorem same_c {s u : Sd} (hs : SRd w w.heap.size s) (hu : SRd w w.heap.size u) (h : SameS u s) (hB : B ≤ w.heap.size) : Calls Try.prog 22 #[.agg u.vals, .agg #[.slice s.nA s.ns.length s.nc, .slice s.cA s.cs.length s.cc, .int .i64 s.gen]] w fun e w' => e = .returned (.bool true) ∧ Below B w w' :=
  (same_ok u s w hu hs h).mono fun e w' ⟨he, hg⟩ => ⟨he, hg.b.mono hB⟩
end

end Go.Proofs.Ytcmnmimkjkpimaa
