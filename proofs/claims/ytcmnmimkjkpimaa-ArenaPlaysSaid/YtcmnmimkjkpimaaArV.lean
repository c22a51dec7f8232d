/-
  The walk of the law's same.
-/
import Derived.Test.YtcmnmimkjkpimaaArU
import Derived.Deep.RegionHeld3
set_option linter.unusedVariables false
set_option maxRecDepth 100000
namespace Go.Proofs.Ytcmnmimkjkpimaa
open Go.Shelf Go.RowKit Go.Lib Go.Sort
attribute [local go_sem ↓] exec_load28 exec_store44

/-- The block of the reference's arena, with its accesses. -/
def MB4 (q : Nat) (s : Sd) (acc : Int) (w : World) : Prop := w.heap[q]? = some (.cells #[.slice s.nA s.ns.length s.nc, .slice s.cA s.cs.length s.cc, .int .i64 s.gen, .int .i64 acc] 37 (0, 0))
theorem MB4.up {q : Nat} {s : Sd} {acc : Int} {w w' : World} {B : Nat} (h : MB4 q s acc w) (hq : q < B) (hb : Below B w w') : MB4 q s acc w' := (hb.block q hq).trans h
theorem MB4.all {q : Nat} {s : Sd} {acc : Int} {w : World} (h : MB4 q s acc w) : w.cell? ⟨q, 0, none⟩ = some (.slice s.nA s.ns.length s.nc) ∧ w.cell? ⟨q, 1, none⟩ = some (.slice s.cA s.cs.length s.cc) ∧ w.cell? ⟨q, 2, none⟩ = some (.int .i64 s.gen) ∧ w.cell? ⟨q, 3, none⟩ = some (.int .i64 acc) := ⟨block_cell h rfl, block_cell h rfl, block_cell h rfl, block_cell h rfl⟩
theorem state_d {B q : Nat} {k : Int} {s t : Sd} {w : World} (h : Ob w B 77 q t k) (hl : SameL s.ns t.ns) (hc : t.cs = s.cs) (hg : t.gen = s.gen) : Calls Try.prog 23 #[.pointer (some ⟨q, 0, none⟩)] w (StC w.heap.size s w) :=
  (state_any B q t k w h).mono fun e w' ⟨u, he, hu, huc, hug, hr, hb⟩ => by
    refine ⟨u, he, ⟨hu.1.symm.trans hl.1.symm, hug.trans hg, huc.trans hc, fun i x y hx hy => ?_⟩, hr, hb⟩
    have hi : i < t.ns.length := by rw [hu.1]; exact (List.getElem?_eq_some_iff.1 hx).1
    have hz := List.getElem?_eq_getElem hi
    obtain ⟨A, c, P, d, e1⟩ := hu.2 i _ x hz hx
    obtain ⟨A', c', P', d', e2⟩ := hl.2 i y _ hy hz
    rw [e1, e2]
    simp [eqN]
set_option maxHeartbeats 8000000 in
theorem lsame_any (B1 B2 qa qm : Nat) (s t : Sd) (acc : Int) (w : World) (ha : Ob w B1 77 qa s acc) (hm : Ob w B2 37 qm t acc) (hB : B1 ≤ w.heap.size) (hl : SameL t.ns s.ns) (hc : s.cs = t.cs) (hg : s.gen = t.gen) :
    Calls Try.prog 18 #[.pointer (some ⟨qa, 0, none⟩), .pointer (some ⟨qm, 0, none⟩)] w fun e w' => e = .returned (.bool true) ∧ Below w.heap.size w w' := by
  have CN0 := counts_any B1 qa s acc w ha
  rw [← hl.1, hc] at CN0
  have CN := Lib.hid CN0
  have A0 := Lib.hid ha
  have R0 := Lib.hid hm.srd
  have M0 := Lib.hid (show MB4 qm t acc w from hm.blk)
  have QM := Lib.hid hm.lt
  have REL := Lib.hid (⟨hl, hc, hg⟩ : _ ∧ _ ∧ _)
  have HB := Lib.hid hB
  clear CN0 ha hm hl hc hg hB
  go_enter Try.func18, Try.ntmps18
  go_upto_region 2 with (go_at_call 42; refine CN.out.mono ?_; rintro e w1 ⟨rfl, hgr⟩; have G1 := Lib.hid hgr; clear hgr)
  have A1 := Lib.hid (A0.out.up G1.out.b)
  have R1 := Lib.hid (R0.out.below G1.out.b)
  have M1 := Lib.hid (M0.out.up QM.out G1.out.b)
  have ST := Lib.hid (state_d (w := w1.drew) (s := t) (A1.out.up (Below.refl _ w1).drew) REL.out.1 REL.out.2.1 REL.out.2.2)
  go_region_held3 (fun w' => w'.cell? ⟨qm, 0, none⟩ = some (.slice t.nA t.ns.length t.nc) ∧ w'.cell? ⟨qm, 1, none⟩ = some (.slice t.cA t.cs.length t.cc) ∧ w'.cell? ⟨qm, 2, none⟩ = some (.int .i64 t.gen) ∧ w'.cell? ⟨qm, 3, none⟩ = some (.int .i64 acc))
    (exact MB4.all (by first | exact N2.out | exact N1.out | exact M1.out))
    (first
      | (go_at_call 23; refine ST.out.mono ?_; rintro e v7 ⟨u, rfl, hus, hur, hb⟩; have D7 := Lib.hid (Below.mono (⟨hb.os, hb.tape, hb.output, hb.size, hb.block⟩ : Below w1.heap.size w1 v7) G1.out.size); have N1 := Lib.hid (M1.out.up QM.out D7.out); have SM := Lib.hid (same_c ((R1.out.below D7.out).more (Nat.le_trans G1.out.size D7.out.size)) hur hus (Nat.le_trans G1.out.size D7.out.size)); clear hus hur hb)
      | (go_at_call 22; refine SM.out.mono ?_; rintro e v8 ⟨rfl, hb⟩; have D8 := Lib.hid (D7.out.trans hb); have N2 := Lib.hid (M1.out.up QM.out D8.out); clear hb))
  all_goals
    go_wp2
    go_ret
    exact ⟨rfl, G1.out.b.trans D8.out⟩

end Go.Proofs.Ytcmnmimkjkpimaa
