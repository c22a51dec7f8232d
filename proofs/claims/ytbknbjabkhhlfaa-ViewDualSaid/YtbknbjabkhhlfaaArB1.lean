/-
  The walks of New and of awake.
-/
import Derived.Test.YtbknbjabkhhlfaaArN
import Derived.Test.YtbknbjabkhhlfaaArO
import Derived.Test.YtbknbjabkhhlfaaArJ
import Derived.Test.YtbknbjabkhhlfaaArI
import Derived.Test.YtbknbjabkhhlfaaArE
import Derived.Test.YtbknbjabkhhlfaaArF
import Derived.Test.YtbknbjabkhhlfaaArQ
import Derived.Deep.RegionHeld3
set_option linter.unusedVariables false
set_option maxRecDepth 100000
namespace Go.Proofs.Ytbknbjabkhhlfaa
open Go.Shelf Go.RowKit Go.Lib Go.Sort
attribute [local go_sem ↓] exec_load28 exec_store44 exec_build2'

theorem run_storeNode_mark (X : World) :
    Sem.run Try.prog (storeNode (.pointer (some ⟨X.heap.size, 0, none⟩)) (.agg #[.int .i64 1, .int .i64 0, .int .i64 0, .int .u64 0, .slice none 0 0, .int .u64 0, .string ⟨#[]⟩, .int .u64 0, .slice none 0 0, .int .i64 0, .int .i64 0, .int .i64 0, .int .i64 0, .int .i64 0])) (X.alloc (.cells #[.int .i64 0, .int .i64 0, .int .i64 0, .int .u64 0, .slice none 0 0, .int .u64 0, .string ⟨#[]⟩, .int .u64 0, .slice none 0 0, .int .i64 0, .int .i64 0, .int .i64 0, .int .i64 0, .int .i64 0] 35)) = .ok () (X.alloc (.cells markN.cs 35)) := run_storeNode_new X markN
theorem run_loadNode_new (X : World) (n : Nd) : Sem.run Try.prog (loadNode (.pointer (some ⟨X.heap.size, 0, none⟩))) (X.alloc (.cells n.cs 35)) = .ok (.agg n.cs) (X.alloc (.cells n.cs 35)) := run_loadNode (heap_alloc_new X _)
theorem run_build2mm (w : World) : Sem.run Try.prog (buildVals [.agg markN.cs, .agg markN.cs]) w = .ok (.slice (some ⟨w.heap.size, 0, none⟩) 2 2) (w.alloc (.cells (rowOf [markN.cs, markN.cs]) 35)) := run_build2 markN.cs markN.cs (by simp [cs_size14]) w
theorem run_field2 (a b c d e f g h i j k l m n : Value) (w : World) : (Instr.field 35 (.agg #[a, b, c, d, e, f, g, h, i, j, k, l, m, n]) 2).run Try.prog w = .ok c w := by kernel_rfl
attribute [local go_sem] run_field2 run_storeNode_mark run_loadNode_new run_build2mm
theorem ob_below {w w' : World} {base : Nat} {T : TypeId} {q : Nat} {s : Sd} {acc : Int} (h : Ob w base T q s acc) (hf : Fr (Mu q s) w w') : Below base w w' := hf.below (Nat.le_trans h.hq (Nat.le_of_lt h.lt)) fun k hk => (h.mu_lt hk).1
end Go.Proofs.Ytbknbjabkhhlfaa
/-
  The walks of State, Same.
-/
set_option linter.unusedVariables false
set_option maxRecDepth 100000
namespace Go.Proofs.Ytbknbjabkhhlfaa
open Go.Shelf Go.RowKit Go.Lib Go.Sort
attribute [local go_sem ↓] exec_load28 exec_store44

def StateP (s : Sd) (w : World) (e : Ending) (w' : World) : Prop :=
  ∃ t : Sd, e = .returned (.agg t.vals) ∧ SameL s.ns t.ns ∧ t.cs = s.cs ∧ t.gen = s.gen ∧ SRd w' w'.heap.size t ∧ Below w.heap.size w w'
theorem Copy.srd {w : World} {base : Nat} {t : Sd} (h : Copy w base t) : SRd w w.heap.size t := by
  obtain ⟨A, c, e, hr, ha, _⟩ := h.nod.open2
  injection e with e1 e2 e3
  obtain ⟨A', c', e', hr', ha', _⟩ := h.cel.open2
  injection e' with e1' e2' e3'
  subst e1 e1'
  exact ⟨hr, hr', (fun hn => by rw [e3']; exact ha' hn), fun n hn => ⟨(h.l n hn).1.rd, (h.l n hn).1.ba, (h.l n hn).1.pa⟩, h.nl, h.cl⟩
theorem Copy.keepLow {w w' : World} {base lo : Nat} {t : Sd} (h : Copy w base t) (hlo : lo < base) (hk : ∀ k, k ≠ lo → k < w.heap.size → w'.heap[k]? = w.heap[k]?) (hs : w.heap.size ≤ w'.heap.size) (hos : w'.os = w.os) (hta : w'.tape = w.tape) (hou : w'.output = w.output) : Copy w' base t := by
  have hf : Fr (fun k => k = lo) w w' := ⟨hos, hta, hou, hs, fun k hk1 hk2 => hk k hk2 hk1⟩
  refine ⟨h.nod.keepFrom fun k hk1 hk2 => hk k (by have := (h.nod.lt_ hk1).1; omega) hk2, h.cel.keepAt fun k hk1 hk2 => hk k (by have := (h.cel.lt_ hk1).1; omega) hk2, fun n hn => ?_, h.nl, h.cl⟩
  obtain ⟨h1, h2, h3⟩ := h.l n hn
  refine ⟨⟨⟨h1.rd.r.fr hf fun ad e hm => ?_, h1.rd.p.fr hf fun ad e hm => ?_, h1.rd.bm, h1.rd.bl, h1.rd.pl⟩, h1.ba, h1.pa, h1.ab, h1.ap, fun ad e => Nat.lt_of_lt_of_le (h1.lb ad e) hs, fun ad e => Nat.lt_of_lt_of_le (h1.lp ad e) hs⟩, h2, h3⟩
  · have := h2 ad e; have hm' : ad.block = lo := hm; omega
  · have := h3 ad e; have hm' : ad.block = lo := hm; omega
set_option maxHeartbeats 4000000 in
theorem state_any (base q : Nat) (s : Sd) (acc : Int) (w : World) (h : Ob w base 69 q s acc) : Calls Try.prog 13 #[.pointer (some ⟨q, 0, none⟩)] w (StateP s w) := by
  obtain ⟨W, hW⟩ : ∃ W, W = w.alloc (.cells #[.slice none 0 0, .slice none 0 0, .int .i64 0] 38) := ⟨_, rfl⟩
  have hbox : W.heap[w.heap.size]? = some (.cells #[.slice none 0 0, .slice none 0 0, .int .i64 0] 38 (0, 0)) := by rw [hW]; exact heap_alloc_new w _
  have GW := Lib.hid (show Below w.heap.size w W by rw [hW]; exact (Below.refl _ w).alloc (Nat.le_refl _) _)
  have HL := Lib.hid (show w.heap.size < W.heap.size by rw [hW]; simp)
  have HO := Lib.hid (h.up GW.out)
  have HBX := Lib.hid hbox
  have HW := Lib.hid hW.symm
  have c0 := block_cell HO.out.blk (i := 0) (v := .slice s.nA s.ns.length s.nc) rfl
  have c1 := block_cell HO.out.blk (i := 1) (v := .slice s.cA s.cs.length s.cc) rfl
  have c2 := block_cell HO.out.blk (i := 2) (v := .int .i64 s.gen) rfl
  have CU := Lib.hid (copied_any s W.heap.size W HO.out.srd (Nat.le_refl _))
  unfold Sd.vals at CU
  clear h hbox hW
  go_enter Try.func13, Try.ntmps13
  go_upto_region 1 with (fail)
  rw [HW.out]
  go_wp2_with (go_at_call 22
               refine CU.out.mono ?_
               rintro e w5 ⟨t, rfl, hs, hc, hgn, hcp, hb5⟩
               have K := Lib.hid (⟨hs, hc, hgn, hcp, hb5⟩ : _ ∧ _ ∧ _ ∧ _ ∧ _)
               have Q5 := Lib.hid ((hb5.block _ HL.out).trans HBX.out)
               have e0 := block_cell Q5.out (i := 0) (v := .slice none 0 0) rfl
               have e1 := block_cell Q5.out (i := 1) (v := .slice none 0 0) rfl
               have e2 := block_cell Q5.out (i := 2) (v := .int .i64 0) rfl
               have f0 := block_frozen Q5.out 0
               have f1 := block_frozen Q5.out 1
               have f2 := block_frozen Q5.out 2
               unfold Sd.vals
               clear hs hc hgn hcp hb5)
  obtain ⟨Z, hZ⟩ : ∃ Z, Z = (((w5.setCell ⟨w.heap.size, 0, none⟩ (.slice t.nA t.ns.length t.nc)).setCell ⟨w.heap.size, 1, none⟩ (.slice t.cA t.cs.length t.cc)).setCell ⟨w.heap.size, 2, none⟩ (.int .i64 t.gen)) := ⟨_, rfl⟩
  rw [← hZ]
  have hz : Z.heap[w.heap.size]? = some (.cells #[.slice t.nA t.ns.length t.nc, .slice t.cA t.cs.length t.cc, .int .i64 t.gen] 38 (0, 0)) := by rw [hZ]; exact set_block (set_block (set_block Q5.out 0 _) 1 _) 2 _
  have KZ := Lib.hid (show ∀ k, k ≠ w.heap.size → k < w5.heap.size → Z.heap[k]? = w5.heap[k]? by
    rw [hZ]
    intro k hk _
    exact ((Below.heap_setCell _ ⟨w.heap.size, 2, none⟩ _ k hk).trans (Below.heap_setCell _ ⟨w.heap.size, 1, none⟩ _ k hk)).trans (Below.heap_setCell _ ⟨w.heap.size, 0, none⟩ _ k hk))
  have BZ := Lib.hid (show Below w.heap.size w Z by
    rw [hZ]
    have := GW.out.trans (K.out.2.2.2.2.mono (Nat.le_of_lt HL.out))
    exact ((this.setCell (Nat.le_refl _) _).setCell (Nat.le_refl _) _).setCell (Nat.le_refl _) _)
  have TZ := Lib.hid (show w5.heap.size ≤ Z.heap.size ∧ Z.os = w5.os ∧ Z.tape = w5.tape ∧ Z.output = w5.output by rw [hZ]; exact ⟨by simp, rfl, rfl, rfl⟩)
  clear hZ e0 e1 e2 f0 f1 f2
  have d0 := block_cell hz (i := 0) (v := .slice t.nA t.ns.length t.nc) rfl
  have d1 := block_cell hz (i := 1) (v := .slice t.cA t.cs.length t.cc) rfl
  have d2 := block_cell hz (i := 2) (v := .int .i64 t.gen) rfl
  clear hz
  refine bodyPost_ret (v := .agg t.vals) (by simp [results, Try.results13, go_sem, d0, d1, d2, Sd.vals]) rfl ⟨t, rfl, K.out.1, K.out.2.1, K.out.2.2.1, ?_, BZ.out⟩
  exact (K.out.2.2.2.1.keepLow HL.out KZ.out TZ.out.1 TZ.out.2.1 TZ.out.2.2.1 TZ.out.2.2.2).srd

/-! ### Same -/
/-- What Same asks. -/
structure SameS (a b : Sd) : Prop where
  len : a.ns.length = b.ns.length
  gen : a.gen = b.gen
  cs : a.cs = b.cs
  ns : ∀ (i : Nat) (x y : Nd), a.ns[i]? = some x → b.ns[i]? = some y → eqN x y = true
theorem box_grown {w : World} {b : Nat} {s : Sd} (h : Box w b s) (m : Nat) (os : Array Obj) : Box (grow (w.drewN m) os) b s := heap_grown h m os
theorem sameL_same {a b : Sd} (h : SameL a.ns b.ns) (hg : b.gen = a.gen) (hc : b.cs = a.cs) : SameS b a :=
  ⟨h.1.symm, hg, hc, fun i x y hx hy => by
    obtain ⟨A, c, P, d, e⟩ := h.2 i y x hy hx
    subst e
    simp [eqN]⟩

end Go.Proofs.Ytbknbjabkhhlfaa
/-
  The walks of Of, NewCell, access, Load, CAS, Node, State.
-/
set_option linter.unusedVariables false
set_option maxRecDepth 100000
namespace Go.Proofs.Ytbknbjabkhhlfaa
open Go.Shelf Go.RowKit Go.Lib Go.Sort
attribute [local go_sem ↓] exec_load28 exec_store44
attribute [local go_sem] run_storeNode_new

theorem Copy.ob {w : World} {base : Nat} {t : Sd} (h : Copy w base t) (hb : base ≤ w.heap.size) (acc : Int) :
    Ob (w.alloc (.cells #[.slice t.nA t.ns.length t.nc, .slice t.cA t.cs.length t.cc, .int .i64 t.gen, .int .i64 acc] 69)) base 69 w.heap.size t acc := by
  have hk : ∀ (o : Obj) (k : Nat), k < w.heap.size → (w.alloc o).heap[k]? = w.heap[k]? := fun o k hk => Below.heap_alloc w o k hk
  refine ⟨heap_alloc_new w _, hb, h.nod.keepFrom fun k _ hk2 => hk _ k hk2, h.cel.keepAt fun k _ hk2 => hk _ k hk2, fun n hn => ?_, h.nl, h.cl⟩
  refine (h.l n hn).1.fr (M' := Mu w.heap.size t) ((Fr.refl _ w).alloc _) fun k hm => ?_
  rcases hm with hm | hm | hm
  · exact .inr (by omega)
  · exact .inl (.inl hm)
  · exact .inl (.inr hm)
def AOfPost (s : Sd) (w : World) (e : Ending) (w' : World) : Prop :=
  ∃ (q : Nat) (t : Sd), e = .returned (.tuple #[.pointer (some ⟨q, 0, none⟩), .int .i64 0]) ∧ SameL s.ns t.ns ∧ t.cs = s.cs ∧ t.gen = s.gen ∧ Ob w' w.heap.size 69 q t 0 ∧ Below w.heap.size w w'
set_option maxHeartbeats 4000000 in
theorem of_ok (s : Sd) (B : Nat) (w : World) (h : SRd w B s) (hB : B ≤ w.heap.size) (hp : properB s = true) : Calls Try.prog 8 #[.agg s.vals] w (AOfPost s w) := by
  obtain ⟨W, hW⟩ : ∃ W, W = w.alloc (.cells s.vals 38) := ⟨_, rfl⟩
  have GW := Lib.hid (show Below w.heap.size w W by rw [hW]; exact (Below.refl _ w).alloc (Nat.le_refl _) _)
  have HSB := Lib.hid (show Box W w.heap.size s by rw [hW]; exact heap_alloc_new w _)
  have HL := Lib.hid (show w.heap.size < W.heap.size by rw [hW]; simp)
  have HW := Lib.hid hW.symm
  have H := Lib.hid (h.below (GW.out.mono hB))
  have HB := Lib.hid (Nat.le_trans hB GW.out.size)
  have C1 := Lib.hid (proper_any s B W H.out HB.out)
  rw [hp] at C1
  have C2 := Lib.hid (fun (V : World) (hV : Below W.heap.size W V) => copied_any s B V (H.out.below (hV.mono HB.out)) (Nat.le_trans HB.out hV.size))
  unfold Sd.vals at C1 C2
  clear h hB hW hp
  go_enter Try.func8, Try.ntmps8
  go_upto_region 1 with (fail)
  rw [HW.out]
  have q0 := HSB.out.at0
  have q1 := HSB.out.at1
  have q2 := HSB.out.at2
  go_wp2_with (first
    | (go_at_call 21
       refine C1.out.mono ?_
       rintro e V1 ⟨rfl, hg⟩
       have Y1 := Lib.hid hg
       have B1 := Lib.hid (show Box V1 w.heap.size s from (hg.block _ HL.out).trans HSB.out)
       have p0 := B1.out.at0
       have p1 := B1.out.at1
       have p2 := B1.out.at2
       clear hg)
    | (go_at_call 22
       refine (C2.out _ Y1.out).mono ?_
       rintro e V2 ⟨t, rfl, hs, hc, hgn, hcp, hb⟩
       have K2 := Lib.hid (⟨hs, hc, hgn, hcp, hb⟩ : _ ∧ _ ∧ _ ∧ _ ∧ _)
       unfold Sd.vals
       clear hs hc hgn hcp hb))
  have hVs : w.heap.size ≤ V1.heap.size := Nat.le_trans (Nat.le_of_lt HL.out) Y1.out.size
  have hob := (K2.out.2.2.2.1).ob K2.out.2.2.2.2.size 0
  refine bodyPost_ret (v := .tuple #[.pointer (some ⟨V2.heap.size, 0, none⟩), .int .i64 0]) (by simp [results, Try.results8]) rfl ⟨V2.heap.size, t, rfl, K2.out.1, K2.out.2.1, K2.out.2.2.1, ?_, ?_⟩
  · exact ⟨hob.blk, Nat.le_trans hVs hob.hq, hob.nod.mono hVs, OwnR.mono hob.cel hVs, hob.l, hob.nl, hob.cl⟩
  · exact ((GW.out.trans (Y1.out.mono (Nat.le_of_lt HL.out))).trans (K2.out.2.2.2.2.mono hVs)).alloc (Nat.le_trans hVs K2.out.2.2.2.2.size) _

end Go.Proofs.Ytbknbjabkhhlfaa
/-
  What the laws' calls give.
-/
set_option linter.unusedVariables false
set_option maxRecDepth 100000
namespace Go.Proofs.Ytbknbjabkhhlfaa
open Go.Shelf Go.RowKit Go.Lib Go.Sort

/-- The numbers that came in, and the arena of the tape. -/
def TapeP (w : World) (e : Ending) (w' : World) : Prop := e = .returned (.pointer (some ⟨w.heap.size, 0, none⟩)) ∧ Tape w.heap.size w' ∧ Below w.heap.size w w'
theorem new_c (a : Option Addr) (len cap : Nat) (w : World) (hl : len ≤ maxLen) (hz : ∀ j, j < len → ∃ ad z, a = some ad ∧ w.cell? (ad.add j) = some (.int .i64 z)) : Calls Try.prog 4 #[.slice a len cap] w (TapeP w) := new_any a len cap w hl hz
/-- The block of the reference's arena. -/
def MB (q : Nat) (s : Sd) (w : World) : Prop := w.heap[q]? = some (.cells #[.slice s.nA s.ns.length s.nc, .slice s.cA s.cs.length s.cc, .int .i64 s.gen, .int .i64 0] 40 (0, 0))
def MemC (B0 : Nat) (w : World) (e : Ending) (w' : World) : Prop := ∃ q s, e = .returned (.pointer (some ⟨q, 0, none⟩)) ∧ MB q s w' ∧ q < w'.heap.size ∧ SRd w' w'.heap.size s ∧ properB s = true ∧ s.ns.length ≤ 9 ∧ s.cs.length ≤ 9 ∧ Below B0 w w'
theorem MB.up {q : Nat} {s : Sd} {w w' : World} {B : Nat} (h : MB q s w) (hq : q < B) (hb : Below B w w') : MB q s w' := (hb.block q hq).trans h
theorem MB.at0 {q : Nat} {s : Sd} {w : World} (h : MB q s w) : w.cell? ⟨q, 0, none⟩ = some (.slice s.nA s.ns.length s.nc) := block_cell h rfl
theorem MB.at1 {q : Nat} {s : Sd} {w : World} (h : MB q s w) : w.cell? ⟨q, 1, none⟩ = some (.slice s.cA s.cs.length s.cc) := block_cell h rfl
theorem MB.at2 {q : Nat} {s : Sd} {w : World} (h : MB q s w) : w.cell? ⟨q, 2, none⟩ = some (.int .i64 s.gen) := block_cell h rfl
theorem MB.all {q : Nat} {s : Sd} {w : World} (h : MB q s w) : w.cell? ⟨q, 0, none⟩ = some (.slice s.nA s.ns.length s.nc) ∧ w.cell? ⟨q, 1, none⟩ = some (.slice s.cA s.cs.length s.cc) ∧ w.cell? ⟨q, 2, none⟩ = some (.int .i64 s.gen) := ⟨h.at0, h.at1, h.at2⟩
/-- The arena that Of makes. -/
def OfC (B : Nat) (s : Sd) (w : World) (e : Ending) (w' : World) : Prop := ∃ q t, e = .returned (.tuple #[.pointer (some ⟨q, 0, none⟩), .int .i64 0]) ∧ Ob w' B 69 q t 0 ∧ SameL s.ns t.ns ∧ t.cs = s.cs ∧ t.gen = s.gen ∧ Below B w w'
theorem of_c (s : Sd) (w : World) (h : SRd w w.heap.size s) (hp : properB s = true) : Calls Try.prog 8 #[.agg #[.slice s.nA s.ns.length s.nc, .slice s.cA s.cs.length s.cc, .int .i64 s.gen]] w (OfC w.heap.size s w) :=
  (of_ok s w.heap.size w h (Nat.le_refl _) hp).mono fun e w' ⟨q, t, he, hs, hc, hg, hob, hb⟩ => ⟨q, t, he, hob, hs, hc, hg, hb⟩

section
variable {B q : Nat} {t : Sd} {w : World}
def StC (B : Nat) (s : Sd) (w : World) (e : Ending) (w' : World) : Prop := ∃ u : Sd, e = .returned (.agg u.vals) ∧ SameS u s ∧ SRd w' w'.heap.size u ∧ Below B w w'
theorem state_c {k : Int} {s : Sd} (h : Ob w B 69 q t k) (hB : B ≤ w.heap.size) (hl : SameL s.ns t.ns) (hc : t.cs = s.cs) (hg : t.gen = s.gen) : Calls Try.prog 13 #[.pointer (some ⟨q, 0, none⟩)] w (StC B s w) :=
  (state_any B q t k w h).mono fun e w' ⟨u, he, hu, huc, hug, hr, hb⟩ => by
    refine ⟨u, he, ⟨hu.1.symm.trans hl.1.symm, hug.trans hg, huc.trans hc, fun i x y hx hy => ?_⟩, hr, hb.mono hB⟩
    have hi : i < t.ns.length := by rw [hu.1]; exact (List.getElem?_eq_some_iff.1 hx).1
    have hz := List.getElem?_eq_getElem hi
    obtain ⟨A, c, P, d, e1⟩ := hu.2 i _ x hz hx
    obtain ⟨A', c', P', d', e2⟩ := hl.2 i y _ hy hz
    rw [e1, e2]
    simp [eqN]
end

end Go.Proofs.Ytbknbjabkhhlfaa
/-
  The walks of NewGen of both, of the reference's Load and CAS, of Copy.
-/
set_option linter.unusedVariables false
set_option maxRecDepth 100000
namespace Go.Proofs.Ytbknbjabkhhlfaa
open Go.Shelf Go.RowKit Go.Lib Go.Sort

def Sd.withGen (s : Sd) (g : Int) : Sd := { s with gen := g }
def GenPost (T : TypeId) (base q : Nat) (s : Sd) (acc : Int) (w : World) (e : Ending) (w' : World) : Prop :=
  e = .returned (.int .i64 (s.gen + 1)) ∧ Ob w' base T q (s.withGen (s.gen + 1)) acc ∧ Fr (fun k => k = q) w w'
theorem fr_set (w : World) (q i : Nat) (v : Value) : Fr (fun k => k = q) w (w.setCell ⟨q, i, none⟩ v) := (Fr.refl (fun k => k = q) w).setCell (p := ⟨q, i, none⟩) (.inl rfl) _
end Go.Proofs.Ytbknbjabkhhlfaa
/-
  State with what it owns, a2, the reference's boxes.
-/
set_option linter.unusedVariables false
set_option maxRecDepth 100000
namespace Go.Proofs.Ytbknbjabkhhlfaa
open Go.Shelf Go.RowKit Go.Lib Go.Sort
attribute [local go_sem ↓] exec_load28 exec_store44

def StateC (s : Sd) (w : World) (e : Ending) (w' : World) : Prop :=
  ∃ t : Sd, e = .returned (.agg t.vals) ∧ SameL s.ns t.ns ∧ t.cs = s.cs ∧ t.gen = s.gen ∧ Copy w' w.heap.size t ∧ Below w.heap.size w w'
theorem Copy.mono {w : World} {b b' : Nat} {t : Sd} (h : Copy w b t) (hb : b' ≤ b) : Copy w b' t :=
  ⟨h.nod.mono hb, OwnR.mono h.cel hb, fun n hn => ⟨(h.l n hn).1, fun ad e => Nat.le_trans hb ((h.l n hn).2.1 ad e), fun ad e => Nat.le_trans hb ((h.l n hn).2.2 ad e)⟩, h.nl, h.cl⟩
set_option maxHeartbeats 4000000 in
theorem state_own (base q : Nat) (s : Sd) (acc : Int) (w : World) (h : Ob w base 69 q s acc) : Calls Try.prog 13 #[.pointer (some ⟨q, 0, none⟩)] w (StateC s w) := by
  obtain ⟨W, hW⟩ : ∃ W, W = w.alloc (.cells #[.slice none 0 0, .slice none 0 0, .int .i64 0] 38) := ⟨_, rfl⟩
  have hbox : W.heap[w.heap.size]? = some (.cells #[.slice none 0 0, .slice none 0 0, .int .i64 0] 38 (0, 0)) := by rw [hW]; exact heap_alloc_new w _
  have GW := Lib.hid (show Below w.heap.size w W by rw [hW]; exact (Below.refl _ w).alloc (Nat.le_refl _) _)
  have HL := Lib.hid (show w.heap.size < W.heap.size by rw [hW]; simp)
  have HO := Lib.hid (h.up GW.out)
  have HBX := Lib.hid hbox
  have HW := Lib.hid hW.symm
  have c0 := block_cell HO.out.blk (i := 0) (v := .slice s.nA s.ns.length s.nc) rfl
  have c1 := block_cell HO.out.blk (i := 1) (v := .slice s.cA s.cs.length s.cc) rfl
  have c2 := block_cell HO.out.blk (i := 2) (v := .int .i64 s.gen) rfl
  have CU := Lib.hid (copied_any s W.heap.size W HO.out.srd (Nat.le_refl _))
  unfold Sd.vals at CU
  clear h hbox hW
  go_enter Try.func13, Try.ntmps13
  go_upto_region 1 with (fail)
  rw [HW.out]
  go_wp2_with (go_at_call 22
               refine CU.out.mono ?_
               rintro e w5 ⟨t, rfl, hs, hc, hgn, hcp, hb5⟩
               have K := Lib.hid (⟨hs, hc, hgn, hcp, hb5⟩ : _ ∧ _ ∧ _ ∧ _ ∧ _)
               have Q5 := Lib.hid ((hb5.block _ HL.out).trans HBX.out)
               have e0 := block_cell Q5.out (i := 0) (v := .slice none 0 0) rfl
               have e1 := block_cell Q5.out (i := 1) (v := .slice none 0 0) rfl
               have e2 := block_cell Q5.out (i := 2) (v := .int .i64 0) rfl
               have f0 := block_frozen Q5.out 0
               have f1 := block_frozen Q5.out 1
               have f2 := block_frozen Q5.out 2
               unfold Sd.vals
               clear hs hc hgn hcp hb5)
  obtain ⟨Z, hZ⟩ : ∃ Z, Z = (((w5.setCell ⟨w.heap.size, 0, none⟩ (.slice t.nA t.ns.length t.nc)).setCell ⟨w.heap.size, 1, none⟩ (.slice t.cA t.cs.length t.cc)).setCell ⟨w.heap.size, 2, none⟩ (.int .i64 t.gen)) := ⟨_, rfl⟩
  rw [← hZ]
  have hz : Z.heap[w.heap.size]? = some (.cells #[.slice t.nA t.ns.length t.nc, .slice t.cA t.cs.length t.cc, .int .i64 t.gen] 38 (0, 0)) := by rw [hZ]; exact set_block (set_block (set_block Q5.out 0 _) 1 _) 2 _
  have KZ := Lib.hid (show ∀ k, k ≠ w.heap.size → k < w5.heap.size → Z.heap[k]? = w5.heap[k]? by
    rw [hZ]
    intro k hk _
    exact ((Below.heap_setCell _ ⟨w.heap.size, 2, none⟩ _ k hk).trans (Below.heap_setCell _ ⟨w.heap.size, 1, none⟩ _ k hk)).trans (Below.heap_setCell _ ⟨w.heap.size, 0, none⟩ _ k hk))
  have BZ := Lib.hid (show Below w.heap.size w Z by
    rw [hZ]
    have := GW.out.trans (K.out.2.2.2.2.mono (Nat.le_of_lt HL.out))
    exact ((this.setCell (Nat.le_refl _) _).setCell (Nat.le_refl _) _).setCell (Nat.le_refl _) _)
  have TZ := Lib.hid (show w5.heap.size ≤ Z.heap.size ∧ Z.os = w5.os ∧ Z.tape = w5.tape ∧ Z.output = w5.output by rw [hZ]; exact ⟨by simp, rfl, rfl, rfl⟩)
  clear hZ e0 e1 e2 f0 f1 f2
  have d0 := block_cell hz (i := 0) (v := .slice t.nA t.ns.length t.nc) rfl
  have d1 := block_cell hz (i := 1) (v := .slice t.cA t.cs.length t.cc) rfl
  have d2 := block_cell hz (i := 2) (v := .int .i64 t.gen) rfl
  clear hz
  refine bodyPost_ret (v := .agg t.vals) (by simp [results, Try.results13, go_sem, d0, d1, d2, Sd.vals]) rfl ⟨t, rfl, K.out.1, K.out.2.1, K.out.2.2.1, ?_, BZ.out⟩
  exact Copy.mono (K.out.2.2.2.1.keepLow HL.out KZ.out TZ.out.1 TZ.out.2.1 TZ.out.2.2.1 TZ.out.2.2.2) (Nat.le_of_lt HL.out)

theorem Copy.ob37 {w : World} {base : Nat} {t : Sd} (h : Copy w base t) (hb : base ≤ w.heap.size) (acc : Int) :
    Ob (w.alloc (.cells #[.slice t.nA t.ns.length t.nc, .slice t.cA t.cs.length t.cc, .int .i64 t.gen, .int .i64 acc] 40)) base 40 w.heap.size t acc := by
  have hk : ∀ (o : Obj) (k : Nat), k < w.heap.size → (w.alloc o).heap[k]? = w.heap[k]? := fun o k hk => Below.heap_alloc w o k hk
  refine ⟨heap_alloc_new w _, hb, h.nod.keepFrom fun k _ hk2 => hk _ k hk2, h.cel.keepAt fun k _ hk2 => hk _ k hk2, fun n hn => ?_, h.nl, h.cl⟩
  refine (h.l n hn).1.fr (M' := Mu w.heap.size t) ((Fr.refl _ w).alloc _) fun k hm => ?_
  rcases hm with hm | hm | hm
  · exact .inr (by omega)
  · exact .inl (.inl hm)
  · exact .inl (.inr hm)
end Go.Proofs.Ytbknbjabkhhlfaa
/-
  The walk of the law's same.
-/
set_option linter.unusedVariables false
set_option maxRecDepth 100000
namespace Go.Proofs.Ytbknbjabkhhlfaa
open Go.Shelf Go.RowKit Go.Lib Go.Sort
attribute [local go_sem ↓] exec_load28 exec_store44

/-- The block of the reference's arena, with its accesses. -/
def MB4 (q : Nat) (s : Sd) (acc : Int) (w : World) : Prop := w.heap[q]? = some (.cells #[.slice s.nA s.ns.length s.nc, .slice s.cA s.cs.length s.cc, .int .i64 s.gen, .int .i64 acc] 40 (0, 0))
theorem MB4.up {q : Nat} {s : Sd} {acc : Int} {w w' : World} {B : Nat} (h : MB4 q s acc w) (hq : q < B) (hb : Below B w w') : MB4 q s acc w' := (hb.block q hq).trans h
theorem MB4.all {q : Nat} {s : Sd} {acc : Int} {w : World} (h : MB4 q s acc w) : w.cell? ⟨q, 0, none⟩ = some (.slice s.nA s.ns.length s.nc) ∧ w.cell? ⟨q, 1, none⟩ = some (.slice s.cA s.cs.length s.cc) ∧ w.cell? ⟨q, 2, none⟩ = some (.int .i64 s.gen) ∧ w.cell? ⟨q, 3, none⟩ = some (.int .i64 acc) := ⟨block_cell h rfl, block_cell h rfl, block_cell h rfl, block_cell h rfl⟩
theorem state_d {B q : Nat} {k : Int} {s t : Sd} {w : World} (h : Ob w B 69 q t k) (hl : SameL s.ns t.ns) (hc : t.cs = s.cs) (hg : t.gen = s.gen) : Calls Try.prog 13 #[.pointer (some ⟨q, 0, none⟩)] w (StC w.heap.size s w) :=
  (state_any B q t k w h).mono fun e w' ⟨u, he, hu, huc, hug, hr, hb⟩ => by
    refine ⟨u, he, ⟨hu.1.symm.trans hl.1.symm, hug.trans hg, huc.trans hc, fun i x y hx hy => ?_⟩, hr, hb⟩
    have hi : i < t.ns.length := by rw [hu.1]; exact (List.getElem?_eq_some_iff.1 hx).1
    have hz := List.getElem?_eq_getElem hi
    obtain ⟨A, c, P, d, e1⟩ := hu.2 i _ x hz hx
    obtain ⟨A', c', P', d', e2⟩ := hl.2 i y _ hy hz
    rw [e1, e2]
    simp [eqN]
end Go.Proofs.Ytbknbjabkhhlfaa
/-
  An arena and the reference's, side by side.
-/
set_option linter.unusedVariables false
set_option maxRecDepth 100000
namespace Go.Proofs.Ytbknbjabkhhlfaa
open Go.Shelf Go.RowKit Go.Lib Go.Sort

theorem sameN.symm {a b : Nd} (h : sameN a b) : sameN b a := by
  obtain ⟨A, c, P, d, rfl⟩ := h
  exact ⟨a.bA, a.bc, a.pA, a.pc, rfl⟩
theorem sameN.trans {a b c : Nd} (h : sameN a b) (k : sameN b c) : sameN a c := by
  obtain ⟨A, c', P, d, rfl⟩ := h
  obtain ⟨A', c'', P', d', rfl⟩ := k
  exact ⟨A', c'', P', d', rfl⟩
theorem SameL.symm {xs ys : List Nd} (h : SameL xs ys) : SameL ys xs := ⟨h.1.symm, fun i a b ha hb => (h.2 i b a hb ha).symm⟩
theorem SameL.snoc {xs ys : List Nd} {x y : Nd} (h : SameL xs ys) (k : sameN x y) : SameL (xs ++ [x]) (ys ++ [y]) := by
  refine ⟨by simp [h.1], fun i a b ha hb => ?_⟩
  by_cases hi : i < xs.length
  · rw [List.getElem?_append_left hi] at ha
    rw [List.getElem?_append_left (h.1 ▸ hi)] at hb
    exact h.2 i a b ha hb
  · by_cases hi2 : i = xs.length
    · subst hi2
      rw [List.getElem?_append_right (Nat.le_refl _)] at ha
      rw [List.getElem?_append_right (by rw [← h.1]; exact Nat.le_refl _), ← h.1] at hb
      simp at ha hb
      subst ha hb
      exact k
    · have := (List.getElem?_eq_some_iff.1 ha).1
      simp at this
      omega
/-- Both arenas, apart from one another, with equal states. -/
structure Two (w : World) (qa qm : Nat) (s t : Sd) (x y : Int) : Prop where
  a : Ob w 0 69 qa s x
  m : Ob w 0 40 qm t y
  d : ∀ k, Mu qa s k → ¬ Mu qm t k
  la : ∀ n ∈ s.ns, Av (Mu qm t) n.bA ∧ Av (Mu qm t) n.pA
  lm : ∀ n ∈ t.ns, Av (Mu qa s) n.bA ∧ Av (Mu qa s) n.pA
  ns : SameL t.ns s.ns
  cs : s.cs = t.cs
  gen : s.gen = t.gen
/-- What a call of one arena leaves. -/
structure Did (w w' : World) (q : Nat) (s s' : Sd) : Prop where
  fr : Fr (Mu q s) w w'
  mu : ∀ k, Mu q s' k → Mu q s k ∨ w.heap.size ≤ k
  l : ∀ n ∈ s'.ns, n ∈ s.ns ∨ FRs w.heap.size n
section
variable {w w1 w2 : World} {qa qm : Nat} {s s' t t' : Sd} {x x' y y' : Int}
/-- Behind the arena's call the reference's stands. -/
theorem Two.mid (h : Two w qa qm s t x y) (D1 : Did w w1 qa s s') : Ob w1 0 40 qm t y :=
  h.m.fr D1.fr (fun k hk hm => h.d k hm hk) h.lm
/-- Behind both calls both stand apart. -/
theorem Two.step (h : Two w qa qm s t x y) (Oa : Ob w1 0 69 qa s' x') (D1 : Did w w1 qa s s') (Om : Ob w2 0 40 qm t' y') (D2 : Did w1 w2 qm t t') (hl : SameL t'.ns s'.ns) (hc : s'.cs = t'.cs) (hg : s'.gen = t'.gen) : Two w2 qa qm s' t' x' y' := by
  have hmt : ∀ k, Mu qm t k → k < w.heap.size := fun k hk => (h.m.mu_lt hk).2
  have hms : ∀ k, Mu qa s' k → k < w1.heap.size := fun k hk => (Oa.mu_lt hk).2
  have hd1 : ∀ k, Mu qa s' k → ¬ Mu qm t k := fun k hk hm => (D1.mu k hk).elim (fun hk => h.d k hk hm) fun hk => by have := hmt k hm; omega
  have hla : ∀ n ∈ s'.ns, Av (Mu qm t) n.bA ∧ Av (Mu qm t) n.pA := fun n hn => (D1.l n hn).elim (fun hn => h.la n hn) fun hf =>
    ⟨fun ad e hm => by have := hf.1 ad e; have := hmt _ hm; omega, fun ad e hm => by have := hf.2 ad e; have := hmt _ hm; omega⟩
  refine ⟨Oa.fr D2.fr hd1 hla, Om, fun k hk hm => (D2.mu k hm).elim (fun hm => hd1 k hk hm) fun hm => by have := hms k hk; omega, fun n hn => ?_, fun n hn => ?_, hl, hc, hg⟩
  · have hn' := Oa.l n hn
    exact ⟨fun ad e hm => (D2.mu _ hm).elim (fun hm => (hla n hn).1 ad e hm) fun hm => by have := hn'.lb ad e; omega, fun ad e hm => (D2.mu _ hm).elim (fun hm => (hla n hn).2 ad e hm) fun hm => by have := hn'.lp ad e; omega⟩
  · rcases D2.l n hn with hn' | hf
    · have hlm := h.lm n hn'
      have ho := h.m.l n hn'
      exact ⟨fun ad e hm => (D1.mu _ hm).elim (fun hm => hlm.1 ad e hm) fun hm => by have := ho.lb ad e; omega, fun ad e hm => (D1.mu _ hm).elim (fun hm => hlm.2 ad e hm) fun hm => by have := ho.lp ad e; omega⟩
    · exact ⟨fun ad e hm => by have := hf.1 ad e; have := hms _ hm; omega, fun ad e hm => by have := hf.2 ad e; have := hms _ hm; omega⟩
/-- What leaves the blocks of both leaves both. -/
theorem Two.up (h : Two w qa qm s t x y) (hf : Fr (fun _ => False) w w1) : Two w1 qa qm s t x y :=
  ⟨h.a.fr hf (fun _ _ e => e) fun _ _ => ⟨fun _ _ e => e, fun _ _ e => e⟩, h.m.fr hf (fun _ _ e => e) fun _ _ => ⟨fun _ _ e => e, fun _ _ e => e⟩, h.d, h.la, h.lm, h.ns, h.cs, h.gen⟩
theorem Two.below (h : Two w qa qm s t x y) (hb : RowKit.Below w.heap.size w w1) : Two w1 qa qm s t x y := h.up (Fr.of_below hb)
/-- From (s, x) to (s', x') one call of the arena has run. -/
theorem did_alloc {T : TypeId} {q : Nat} {n : Nd} {v : Int} (hA : Alloced w.heap.size s s' n v) (hf : Fr (Mu q s) w w1) (hm : ∀ k, Mu q s' k → Mu q s k ∨ w.heap.size ≤ k) : Did w w1 q s s' := by
  obtain ⟨z, hz, _, hfz⟩ := hA.ns
  refine ⟨hf, hm, fun n hn => ?_⟩
  rw [hz] at hn
  rcases List.mem_append.1 hn with hn | hn
  · exact .inl hn
  · exact .inr (by rw [List.mem_singleton.1 hn]; exact hfz)
theorem did_self {q : Nat} (hf : Fr (fun k => k = q) w w1) : Did w w1 q s s := ⟨hf.mono fun k _ e => .inl e, fun _ hk => .inl hk, fun _ hn => .inl hn⟩
theorem did_gen {q : Nat} {g : Int} (hf : Fr (fun k => k = q) w w1) : Did w w1 q s (s.withGen g) := ⟨hf.mono fun k _ e => .inl e, fun _ hk => .inl hk, fun _ hn => .inl hn⟩
theorem did_newC {q g cap : Nat} {v : Int} (hf : Fr (Mu q s) w w1) (hm : ∀ k, Mu q (s.addC g cap v) k → Mu q s k ∨ w.heap.size ≤ k) : Did w w1 q s (s.addC g cap v) := ⟨hf, hm, fun _ hn => .inl hn⟩
theorem casS_ns (s : Sd) (c old new : Int) : (casS s c old new).ns = s.ns ∧ (casS s c old new).gen = s.gen := by
  unfold casS
  split <;> exact ⟨rfl, rfl⟩
theorem did_cas {q : Nat} {c old new : Int} (hf : Fr (Mu q s) w w1) : Did w w1 q s (casS s c old new) :=
  ⟨hf, fun k hk => .inl (by unfold casS at hk; split at hk <;> exact hk), fun n hn => .inl (by rw [(casS_ns s c old new).1] at hn; exact hn)⟩
theorem has_eq (h : s.cs = t.cs) (c : Int) : hasC s c = hasC t c := by unfold hasC; rw [h]
theorem cell_eq (h : s.cs = t.cs) (c : Int) : cellV s c = cellV t c := by unfold cellV; rw [has_eq h, h]
theorem casB_eq (h : s.cs = t.cs) (c old : Int) : casB s c old = casB t c old := by unfold casB; rw [has_eq h, cell_eq h]
theorem casS_cs (h : s.cs = t.cs) (c old new : Int) : (casS s c old new).cs = (casS t c old new).cs := by
  simp only [casS, casB_eq h]
  split
  · simp only [Sd.setC, h]
  · exact h
theorem alloced_same {n : Nd} {v : Int} {lo lo' : Nat} (h : Two w qa qm s t x y) (A1 : Alloced lo s s' n v) (A2 : Alloced lo' t t' n v) : SameL t'.ns s'.ns ∧ s'.cs = t'.cs ∧ s'.gen = t'.gen := by
  obtain ⟨z, hz, sz, _⟩ := A1.ns
  obtain ⟨z', hz', sz', _⟩ := A2.ns
  refine ⟨?_, by rw [A1.cs, A2.cs, h.cs], by rw [A1.gen, A2.gen, h.gen]⟩
  rw [hz, hz']
  rw [← h.cs] at sz'
  exact h.ns.snoc (sz'.symm.trans sz)
end

/-- What a step leaves of the numbers. -/
structure Went (s s' : Sd) (x x' y y' : Int) : Prop where
  ns : ∃ l, s'.ns = s.ns ++ l ∧ l.length ≤ 1
  cs : s'.cs.length ≤ s.cs.length + 1
  gen : s.gen ≤ s'.gen ∧ s'.gen ≤ s.gen + 1
  acc : x ≤ x' ∧ x' ≤ x + 1 ∧ x' - x = y' - y
/-- What a step of a law leaves. -/
structure App (w w' : World) (qa qm : Nat) (s t s' t' : Sd) (x y x' y' : Int) : Prop where
  two : Two w' qa qm s' t' x' y'
  went : Went s s' x x' y y'
  fr : Fr (fun k => Mu qa s k ∨ Mu qm t k) w w'
  mua : ∀ k, Mu qa s' k → Mu qa s k ∨ w.heap.size ≤ k
  mum : ∀ k, Mu qm t' k → Mu qm t k ∨ w.heap.size ≤ k
  la : ∀ n ∈ s'.ns, n ∈ s.ns ∨ FRs w.heap.size n
  lm : ∀ n ∈ t'.ns, n ∈ t.ns ∨ FRs w.heap.size n
theorem App.mk_ {w wc w1 w2 : World} {qa qm : Nat} {s s' t t' : Sd} {x x' y y' : Int} (hb : RowKit.Below w.heap.size w wc) (h : Two wc qa qm s t x y) (Oa : Ob w1 0 69 qa s' x') (D1 : Did wc w1 qa s s') (Om : Ob w2 0 40 qm t' y') (D2 : Did w1 w2 qm t t') (hl : SameL t'.ns s'.ns) (hc : s'.cs = t'.cs) (hg : s'.gen = t'.gen) (hw : Went s s' x x' y y') : App w w2 qa qm s t s' t' x y x' y' := by
  have h1 : w.heap.size ≤ wc.heap.size := hb.size
  have h2 : wc.heap.size ≤ w1.heap.size := D1.fr.size
  refine ⟨h.step Oa D1 Om D2 hl hc hg, hw, ?_, fun k hk => (D1.mu k hk).imp id (fun hk => by omega), fun k hk => (D2.mu k hk).imp id (fun hk => by omega), fun n hn => (D1.l n hn).imp id fun hf => ⟨fun ad e => Nat.le_trans h1 (hf.1 ad e), fun ad e => Nat.le_trans h1 (hf.2 ad e)⟩, fun n hn => (D2.l n hn).imp id fun hf => ⟨fun ad e => Nat.le_trans (Nat.le_trans h1 h2) (hf.1 ad e), fun ad e => Nat.le_trans (Nat.le_trans h1 h2) (hf.2 ad e)⟩⟩
  exact ((Fr.of_below hb).then_ (D1.fr.mono fun k _ hk => .inl hk)).then_ (D2.fr.mono fun k _ hk => .inr hk)
theorem went_alloc {lo : Nat} {s s' : Sd} {n : Nd} {v x y : Int} (A : Alloced lo s s' n v) : Went s s' x x y y := by
  obtain ⟨z, hz, _⟩ := A.ns
  refine ⟨⟨[z], hz, by simp⟩, ?_, by rw [A.gen]; omega, by omega⟩
  rw [A.cs]
  split <;> simp
theorem went_self {s : Sd} {x y : Int} : Went s s x (x + 1) y (y + 1) ∧ Went s s x x y y := by
  refine ⟨⟨⟨[], by simp, by simp⟩, by omega, by omega, by omega⟩, ⟨⟨[], by simp, by simp⟩, by omega, by omega, by omega⟩⟩
theorem went_gen {s : Sd} {x y : Int} : Went s (s.withGen (s.gen + 1)) x x y y := ⟨⟨[], by simp [Sd.withGen], by simp⟩, by simp [Sd.withGen], by simp [Sd.withGen]; omega, by omega⟩
theorem went_newC {s : Sd} {x y v : Int} {g cap : Nat} : Went s (s.addC g cap v) x x y y := ⟨⟨[], by simp [Sd.addC], by simp⟩, by simp [Sd.addC], (by show s.gen ≤ s.gen ∧ s.gen ≤ s.gen + 1; omega), by omega⟩
theorem went_cas {s : Sd} {x y c old new : Int} : Went s (casS s c old new) x (x + 1) y (y + 1) := by
  refine ⟨⟨[], by simp [(casS_ns s c old new).1], by simp⟩, ?_, by rw [(casS_ns s c old new).2]; omega, by omega⟩
  unfold casS
  split <;> simp [Sd.setC]

end Go.Proofs.Ytbknbjabkhhlfaa
/-
  The tape's arena with the tape behind it; the arena that Of makes: its lists are new.
-/
set_option linter.unusedVariables false
set_option maxRecDepth 100000
namespace Go.Proofs.Ytbknbjabkhhlfaa
open Go.Shelf Go.RowKit Go.Lib Go.Sort
attribute [local go_sem ↓] exec_load28 exec_store44
attribute [local go_sem] run_storeNode_new
def MemT (T : Nat) (w : World) (e : Ending) (w' : World) : Prop := ∃ q s, e = .returned (.pointer (some ⟨q, 0, none⟩)) ∧ Ob w' w.heap.size 40 q s 0 ∧ GS w.heap.size s ∧ s.ns.length ≤ 9 ∧ s.cs.length ≤ 9 ∧ w.grownBy w' (some T) ∧ Tape T w'
def OfF (s : Sd) (w : World) (e : Ending) (w' : World) : Prop :=
  ∃ (q : Nat) (t : Sd), e = .returned (.tuple #[.pointer (some ⟨q, 0, none⟩), .int .i64 0]) ∧ SameL s.ns t.ns ∧ t.cs = s.cs ∧ t.gen = s.gen ∧ Ob w' w.heap.size 69 q t 0 ∧ (∀ n ∈ t.ns, FRs w.heap.size n) ∧ Below w.heap.size w w'
set_option maxHeartbeats 4000000 in
theorem of_f (s : Sd) (B : Nat) (w : World) (h : SRd w B s) (hB : B ≤ w.heap.size) (hp : properB s = true) : Calls Try.prog 8 #[.agg s.vals] w (OfF s w) := by
  obtain ⟨W, hW⟩ : ∃ W, W = w.alloc (.cells s.vals 38) := ⟨_, rfl⟩
  have GW := Lib.hid (show Below w.heap.size w W by rw [hW]; exact (Below.refl _ w).alloc (Nat.le_refl _) _)
  have HSB := Lib.hid (show Box W w.heap.size s by rw [hW]; exact heap_alloc_new w _)
  have HL := Lib.hid (show w.heap.size < W.heap.size by rw [hW]; simp)
  have HW := Lib.hid hW.symm
  have H := Lib.hid (h.below (GW.out.mono hB))
  have HB := Lib.hid (Nat.le_trans hB GW.out.size)
  have C1 := Lib.hid (proper_any s B W H.out HB.out)
  rw [hp] at C1
  have C2 := Lib.hid (fun (V : World) (hV : Below W.heap.size W V) => copied_any s B V (H.out.below (hV.mono HB.out)) (Nat.le_trans HB.out hV.size))
  unfold Sd.vals at C1 C2
  clear h hB hW hp
  go_enter Try.func8, Try.ntmps8
  go_upto_region 1 with (fail)
  rw [HW.out]
  have q0 := HSB.out.at0
  have q1 := HSB.out.at1
  have q2 := HSB.out.at2
  go_wp2_with (first
    | (go_at_call 21
       refine C1.out.mono ?_
       rintro e V1 ⟨rfl, hg⟩
       have Y1 := Lib.hid hg
       have B1 := Lib.hid (show Box V1 w.heap.size s from (hg.block _ HL.out).trans HSB.out)
       have p0 := B1.out.at0
       have p1 := B1.out.at1
       have p2 := B1.out.at2
       clear hg)
    | (go_at_call 22
       refine (C2.out _ Y1.out).mono ?_
       rintro e V2 ⟨t, rfl, hs, hc, hgn, hcp, hb⟩
       have K2 := Lib.hid (⟨hs, hc, hgn, hcp, hb⟩ : _ ∧ _ ∧ _ ∧ _ ∧ _)
       unfold Sd.vals
       clear hs hc hgn hcp hb))
  have hVs : w.heap.size ≤ V1.heap.size := Nat.le_trans (Nat.le_of_lt HL.out) Y1.out.size
  have hob := (K2.out.2.2.2.1).ob K2.out.2.2.2.2.size 0
  refine bodyPost_ret (v := .tuple #[.pointer (some ⟨V2.heap.size, 0, none⟩), .int .i64 0]) (by simp [results, Try.results8]) rfl ⟨V2.heap.size, t, rfl, K2.out.1, K2.out.2.1, K2.out.2.2.1, ?_, fun n hn => ⟨fun ad e => Nat.le_trans hVs ((K2.out.2.2.2.1.l n hn).2.1 ad e), fun ad e => Nat.le_trans hVs ((K2.out.2.2.2.1.l n hn).2.2 ad e)⟩, ?_⟩
  · exact ⟨hob.blk, Nat.le_trans hVs hob.hq, hob.nod.mono hVs, OwnR.mono hob.cel hVs, hob.l, hob.nl, hob.cl⟩
  · exact ((GW.out.trans (Y1.out.mono (Nat.le_of_lt HL.out))).trans (K2.out.2.2.2.2.mono hVs)).alloc (Nat.le_trans hVs K2.out.2.2.2.2.size) _


end Go.Proofs.Ytbknbjabkhhlfaa
