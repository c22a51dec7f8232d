/-
  The walks of State, Same.
-/
import Derived.Test.YtcmnmimkjkpimaaLArI
set_option linter.unusedVariables false
set_option maxRecDepth 100000
namespace Go.Proofs.Ytcmnmimkjkpimaa
open Go.Shelf Go.RowKit Go.Lib Go.Sort
attribute [local go_sem ↓] exec_load28 exec_store44

def StateP (s : Sd) (w : World) (e : Ending) (w' : World) : Prop :=
  ∃ t : Sd, e = .returned (.agg t.vals) ∧ SameL s.ns t.ns ∧ t.cs = s.cs ∧ t.gen = s.gen ∧ SRd w' w'.heap.size t ∧ Below w.heap.size w w'
theorem Copy.srd {w : World} {base : Nat} {t : Sd} (h : Copy w base t) : SRd w w.heap.size t := by
  obtain ⟨A, c, e, hr, ha, _⟩ := h.nod.open2
  injection e with e1 e2 e3
  obtain ⟨A', c', e', hr', ha', _⟩ := h.cel.open2
  injection e' with e1' e2' e3'
  subst e1 e1'
  exact ⟨hr, hr', (fun hn => by rw [e3']; exact ha' hn), fun n hn => ⟨(h.l n hn).1.rd, (h.l n hn).1.ba, (h.l n hn).1.pa⟩, h.nl, h.cl⟩
theorem Copy.keepLow {w w' : World} {base lo : Nat} {t : Sd} (h : Copy w base t) (hlo : lo < base) (hk : ∀ k, k ≠ lo → k < w.heap.size → w'.heap[k]? = w.heap[k]?) (hs : w.heap.size ≤ w'.heap.size) (hos : w'.os = w.os) (hta : w'.tape = w.tape) (hou : w'.output = w.output) : Copy w' base t := by
  have hf : Fr (fun k => k = lo) w w' := ⟨hos, hta, hou, hs, fun k hk1 hk2 => hk k hk2 hk1⟩
  refine ⟨h.nod.keepFrom fun k hk1 hk2 => hk k (by have := (h.nod.lt_ hk1).1; omega) hk2, h.cel.keepAt fun k hk1 hk2 => hk k (by have := (h.cel.lt_ hk1).1; omega) hk2, fun n hn => ?_, h.nl, h.cl⟩
  obtain ⟨h1, h2, h3⟩ := h.l n hn
  refine ⟨⟨⟨h1.rd.r.fr hf fun ad e hm => ?_, h1.rd.p.fr hf fun ad e hm => ?_, h1.rd.bm, h1.rd.bl, h1.rd.pl⟩, h1.ba, h1.pa, h1.ab, h1.ap, fun ad e => Nat.lt_of_lt_of_le (h1.lb ad e) hs, fun ad e => Nat.lt_of_lt_of_le (h1.lp ad e) hs⟩, h2, h3⟩
  · have := h2 ad e; have hm' : ad.block = lo := hm; omega
  · have := h3 ad e; have hm' : ad.block = lo := hm; omega
set_option maxHeartbeats 4000000 in
theorem state_any (base q : Nat) (s : Sd) (acc : Int) (w : World) (h : Ob w base 77 q s acc) : Calls Try.prog 23 #[.pointer (some ⟨q, 0, none⟩)] w (StateP s w) := by
  obtain ⟨W, hW⟩ : ∃ W, W = w.alloc (.cells #[.slice none 0 0, .slice none 0 0, .int .i64 0] 35) := ⟨_, rfl⟩
  have hbox : W.heap[w.heap.size]? = some (.cells #[.slice none 0 0, .slice none 0 0, .int .i64 0] 35 (0, 0)) := by rw [hW]; exact heap_alloc_new w _
  have GW := Lib.hid (show Below w.heap.size w W by rw [hW]; exact (Below.refl _ w).alloc (Nat.le_refl _) _)
  have HL := Lib.hid (show w.heap.size < W.heap.size by rw [hW]; simp)
  have HO := Lib.hid (h.up GW.out)
  have HBX := Lib.hid hbox
  have HW := Lib.hid hW.symm
  have c0 := block_cell HO.out.blk (i := 0) (v := .slice s.nA s.ns.length s.nc) rfl
  have c1 := block_cell HO.out.blk (i := 1) (v := .slice s.cA s.cs.length s.cc) rfl
  have c2 := block_cell HO.out.blk (i := 2) (v := .int .i64 s.gen) rfl
  have CU := Lib.hid (copied_any s W.heap.size W HO.out.srd (Nat.le_refl _))
  unfold Sd.vals at CU
  clear h hbox hW
  go_enter Try.func23, Try.ntmps23
  go_upto_region 1 with (fail)
  rw [HW.out]
  go_wp2_with (go_at_call 34
               refine CU.out.mono ?_
               rintro e w5 ⟨t, rfl, hs, hc, hgn, hcp, hb5⟩
               have K := Lib.hid (⟨hs, hc, hgn, hcp, hb5⟩ : _ ∧ _ ∧ _ ∧ _ ∧ _)
               have Q5 := Lib.hid ((hb5.block _ HL.out).trans HBX.out)
               have e0 := block_cell Q5.out (i := 0) (v := .slice none 0 0) rfl
               have e1 := block_cell Q5.out (i := 1) (v := .slice none 0 0) rfl
               have e2 := block_cell Q5.out (i := 2) (v := .int .i64 0) rfl
               have f0 := block_frozen Q5.out 0
               have f1 := block_frozen Q5.out 1
               have f2 := block_frozen Q5.out 2
               unfold Sd.vals
               clear hs hc hgn hcp hb5)
  obtain ⟨Z, hZ⟩ : ∃ Z, Z = (((w5.setCell ⟨w.heap.size, 0, none⟩ (.slice t.nA t.ns.length t.nc)).setCell ⟨w.heap.size, 1, none⟩ (.slice t.cA t.cs.length t.cc)).setCell ⟨w.heap.size, 2, none⟩ (.int .i64 t.gen)) := ⟨_, rfl⟩
  rw [← hZ]
  have hz : Z.heap[w.heap.size]? = some (.cells #[.slice t.nA t.ns.length t.nc, .slice t.cA t.cs.length t.cc, .int .i64 t.gen] 35 (0, 0)) := by rw [hZ]; exact set_block (set_block (set_block Q5.out 0 _) 1 _) 2 _
  have KZ := Lib.hid (show ∀ k, k ≠ w.heap.size → k < w5.heap.size → Z.heap[k]? = w5.heap[k]? by
    rw [hZ]
    intro k hk _
    exact ((Below.heap_setCell _ ⟨w.heap.size, 2, none⟩ _ k hk).trans (Below.heap_setCell _ ⟨w.heap.size, 1, none⟩ _ k hk)).trans (Below.heap_setCell _ ⟨w.heap.size, 0, none⟩ _ k hk))
  have BZ := Lib.hid (show Below w.heap.size w Z by
    rw [hZ]
    have := GW.out.trans (K.out.2.2.2.2.mono (Nat.le_of_lt HL.out))
    exact ((this.setCell (Nat.le_refl _) _).setCell (Nat.le_refl _) _).setCell (Nat.le_refl _) _)
  have TZ := Lib.hid (show w5.heap.size ≤ Z.heap.size ∧ Z.os = w5.os ∧ Z.tape = w5.tape ∧ Z.output = w5.output by rw [hZ]; exact ⟨by simp, rfl, rfl, rfl⟩)
  clear hZ e0 e1 e2 f0 f1 f2
  have d0 := block_cell hz (i := 0) (v := .slice t.nA t.ns.length t.nc) rfl
  have d1 := block_cell hz (i := 1) (v := .slice t.cA t.cs.length t.cc) rfl
  have d2 := block_cell hz (i := 2) (v := .int .i64 t.gen) rfl
  clear hz
  refine bodyPost_ret (v := .agg t.vals) (by simp [results, Try.results23, go_sem, d0, d1, d2, Sd.vals]) rfl ⟨t, rfl, K.out.1, K.out.2.1, K.out.2.2.1, ?_, BZ.out⟩
  exact (K.out.2.2.2.1.keepLow HL.out KZ.out TZ.out.1 TZ.out.2.1 TZ.out.2.2.1 TZ.out.2.2.2).srd

/-! ### Same -/
/-- What Same asks. -/
structure SameS (a b : Sd) : Prop where
  len : a.ns.length = b.ns.length
  gen : a.gen = b.gen
  cs : a.cs = b.cs
  ns : ∀ (i : Nat) (x y : Nd), a.ns[i]? = some x → b.ns[i]? = some y → eqN x y = true
theorem box_grown {w : World} {b : Nat} {s : Sd} (h : Box w b s) (m : Nat) (os : Array Obj) : Box (grow (w.drewN m) os) b s := heap_grown h m os
set_option maxHeartbeats 8000000 in
theorem same_ok (a b : Sd) (w : World) (ha : SRd w w.heap.size a) (hb : SRd w w.heap.size b) (hs : SameS a b) : Calls Try.prog 22 #[.agg a.vals, .agg b.vals] w fun e w' => e = .returned (.bool true) ∧ Gr w w' := by
  have mixed := mixedOrders
  have hl := ha.nl
  obtain ⟨W, hW⟩ : ∃ W, W = (w.alloc (.cells a.vals 35)).alloc (.cells b.vals 35) := ⟨_, rfl⟩
  have GW := Lib.hid (show Gr w W by rw [hW]; exact ((Gr.refl w).alloc _).alloc _)
  have BA := Lib.hid (show Box W w.heap.size a by rw [hW]; exact (Below.heap_alloc _ _ _ (by simp)).trans (heap_alloc_new w _))
  have BB := Lib.hid (show Box W (w.heap.size + 1) b by
    rw [hW]
    have := heap_alloc_new (w.alloc (.cells a.vals 35)) (.cells b.vals 35)
    have e : (w.alloc (.cells a.vals 35)).heap.size = w.heap.size + 1 := by simp
    rw [e] at this
    exact this)
  have HA := Lib.hid (ha.gr (Nat.le_refl _) GW.out)
  have HB := Lib.hid (hb.gr (Nat.le_refl _) GW.out)
  have HS := Lib.hid hs
  have HW := Lib.hid hW.symm
  have BL := Lib.hid GW.out.size
  have EL := Lib.hid (fun V (hV : Gr W V) => requalR_any a.cA a.cc a.cs b.cA b.cc b.cs w.heap.size V (HA.out.c.gr BL.out hV) (HB.out.c.gr BL.out hV) (Nat.le_trans HA.out.cl (by omega)) (Nat.le_trans HB.out.cl (by omega)))
  rw [show decide (a.cs = b.cs) = true from decide_eq_true hs.cs] at EL
  have a0 := BA.out.at0
  have a1 := BA.out.at1
  have a2 := BA.out.at2
  have b0 := BB.out.at0
  have b1 := BB.out.at1
  have b2 := BB.out.at2
  rw [← hs.len] at b0
  rw [← hs.gen] at b2
  clear ha hb hs hW
  go_enter Try.func22, Try.ntmps22
  go_upto_region 1 with (fail)
  have HW2 := HW.out
  rw [HW2]
  clear HW2
  go_wp2_with (go_at_call 48; refine (EL.out _ (Gr.refl _)).mono ?_; rintro e V1 ⟨rfl, hg⟩; have G1 := Lib.hid hg; clear hg)
  clear a0 a1 a2 b0 b1 b2
  have G0 := Lib.hid (show Gr W V1 by obtain ⟨q, hq⟩ := G1.out; rw [hq]; exact (Gr.refl W).drewN q)
  clear G1
  go_loopg [5] a.ns.length (fun kx s5 wr => ∃ i : Nat, s5 = .int .i64 i ∧ i ≤ a.ns.length ∧ a.ns.length - i ≤ kx ∧ Aside (Gr W wr))
  case atStart => exact ⟨0, rfl, Nat.zero_le _, by omega, G0.out⟩
  case round =>
    obtain ⟨i, rfl, hi, hkx, G⟩ := hrel
    have z0 := (BA.out.gr G.out).at0
    by_cases hlt : i < a.ns.length
    · have hltz : (i : Int) < (a.ns.length : Int) := by omega
      have hi0 : (0 : Int) ≤ (i : Int) := by omega
      have hx : a.ns[i]? = some a.ns[i] := List.getElem?_eq_getElem hlt
      generalize a.ns[i] = x at hx
      have hy : b.ns[i]? = some (b.ns[i]'(by rw [← HS.out.len]; exact hlt)) := List.getElem?_eq_getElem _
      generalize b.ns[i]'(by rw [← HS.out.len]; exact hlt) = y at hy
      have hra : SRd wr w.heap.size a := HA.out.gr BL.out G.out
      have hrb : SRd wr w.heap.size b := HB.out.gr BL.out G.out
      obtain ⟨p, o, eA, hp, _⟩ := hra.n.at_ hx
      obtain ⟨p', o', eB, hp', _⟩ := hrb.n.at_ hy
      have q0 := fun m os => (Box.at0 (s := a) (b := w.heap.size) (w := grow (wr.drewN m) os) (box_grown (BA.out.gr G.out) m os))
      have r0 := fun m os => (Box.at0 (s := b) (b := w.heap.size + 1) (w := grow (wr.drewN m) os) (box_grown (BB.out.gr G.out) m os))
      simp only [eA] at q0 z0
      simp only [eB, ← HS.out.len] at r0
      have la := fun m os => RdN.load (w := grow (wr.drewN m) os) (B := w.heap.size) (b := p) (o := o) (ns := a.ns) (by rw [← eA]; exact hra.n.gr (Nat.le_trans BL.out G.out.size) ((Gr.refl wr).grow m os)) hx
      have lb := fun m os => RdN.load (w := grow (wr.drewN m) os) (B := w.heap.size) (b := p') (o := o') (ns := b.ns) (by rw [← eB]; exact hrb.n.gr (Nat.le_trans BL.out G.out.size) ((Gr.refl wr).grow m os)) hy
      have EQ := Lib.hid (fun V (hV : Gr wr V) => requal_any x y w.heap.size V ((hra.l x (List.mem_of_getElem? hx)).1.gr (Nat.le_trans BL.out G.out.size) hV) ((hrb.l y (List.mem_of_getElem? hy)).1.gr (Nat.le_trans BL.out G.out.size) hV) (Nat.le_trans (Nat.le_trans BL.out G.out.size) hV.size))
      rw [HS.out.ns i x y hx hy] at EQ
      clear hra hrb hx hy hp hp' eA eB
      go_wp2_with fail
      clear z0
      go_quiet_grown ((go_at_call 29; exact Gr.called (EQ.out _ ((Gr.refl wr).grow _ _))))
      clear q0 r0 la lb
      go_wp2
      go_roundg (a.ns.length - (i + 1))
      case measure => omega
      case rel => exact ⟨i + 1, by go_num, by omega, Nat.le_refl _, G.out.grow _ _⟩
    · obtain rfl : i = a.ns.length := by omega
      go_wp2
      go_ret
      exact ⟨rfl, GW.out.trans G.out⟩
theorem sameL_same {a b : Sd} (h : SameL a.ns b.ns) (hg : b.gen = a.gen) (hc : b.cs = a.cs) : SameS b a :=
  ⟨h.1.symm, hg, hc, fun i x y hx hy => by
    obtain ⟨A, c, P, d, e⟩ := h.2 i y x hy hx
    subst e
    simp [eqN]⟩

end Go.Proofs.Ytcmnmimkjkpimaa
