/-
  Layer 7: what the functions return; the walks of Contracted and Untombed, the program's and the reference's.
-/
import Derived.Test.YtpopoihggomfiaaTbG
import Derived.Test.YtpopoihggomfiaaTbF
set_option linter.unusedVariables false
set_option maxRecDepth 100000
namespace Go.Proofs.Ytpopoihggomfiaa
open Go.Shelf Go.RowKit Go.Lib Go.Sort
attribute [local go_sem ↓] exec_load28 exec_storeN
attribute [local go_sem] run_storeNode_new

/-- The same but for the addresses of its lists. -/
def Vw (n v : Nd) : Prop := ∃ A c P d, n = { v with bA := A, bc := c, pA := P, pc := d }
theorem Vw.refl (n : Nd) : Vw n n := ⟨n.bA, n.bc, n.pA, n.pc, rfl⟩
theorem Vw.eqN {a b v : Nd} (h : Vw a v) (k : Vw b v) : eqN a b = true := by
  obtain ⟨A, c, P, d, rfl⟩ := h
  obtain ⟨A', c', P', d', rfl⟩ := k
  simp [Ytpopoihggomfiaa.eqN]
def VPost (v : Nd) (w : World) (e : Ending) (w' : World) : Prop := ∃ y : Nd, e = .returned (.agg y.cs) ∧ Vw y v ∧ GN w' y ∧ Below w.heap.size w w'
def TPost (ok : Bool) (v : Nd) (w : World) (e : Ending) (w' : World) : Prop := ∃ y : Nd, e = .returned (.tuple #[.agg y.cs, .bool ok]) ∧ Vw y v ∧ GN w' y ∧ Below w.heap.size w w'

def tombN (n : Nd) : Nd := { Nd.zero with kind := 5, hash := n.hash, key := n.key, val := n.val }
def singN (n : Nd) : Nd := { Nd.zero with kind := 4, hash := n.hash, key := n.key, val := n.val }
noncomputable def ctrB (c : Nd) (l : Int) (s : Nd) : Bool := soleB c && (decide (0 < l) && s.kind == 4)
noncomputable def ctrV (c : Nd) (l : Int) (s : Nd) : Nd := if ctrB c l s then tombN s else c
def untB (t : Nd) : Bool := t.kind == 5
def untV (t : Nd) : Nd := if untB t then singN t else Nd.zero

theorem tomb_n (n : Nd) (w : World) : Calls Try.prog 33 #[.int .u64 n.hash, .string n.key, .int .u64 n.val] w fun e w' => e = .returned (.agg (tombN n).cs) ∧ Gr w w' := tomb_any n.hash n.key n.val w
theorem sing_n (n : Nd) (w : World) : Calls Try.prog 30 #[.int .u64 n.hash, .string n.key, .int .u64 n.val] w fun e w' => e = .returned (.agg (singN n).cs) ∧ Gr w w' := single_any n.hash n.key n.val w
theorem gn_tomb (w : World) (n : Nd) : GN w (tombN n) := ⟨⟨RdR.nil, Rd.nil, u64_zero, Nat.zero_le _, Nat.zero_le _⟩, fun _ => rfl, fun _ => rfl, Nat.le_refl _, Nat.le_refl _⟩
theorem gn_sing (w : World) (n : Nd) : GN w (singN n) := ⟨⟨RdR.nil, Rd.nil, u64_zero, Nat.zero_le _, Nat.zero_le _⟩, fun _ => rfl, fun _ => rfl, Nat.le_refl _, Nat.le_refl _⟩
theorem clone_gn (n : Nd) (w : World) (h : GN w n) : Calls Try.prog 32 #[.agg n.cs] w fun e w' => ∃ y : Nd, e = .returned (.agg y.cs) ∧ Vw y n ∧ GN w' y ∧ Below w.heap.size w w' ∧ (∀ ad, y.bA = some ad → w.heap.size ≤ ad.block) ∧ (∀ ad, y.pA = some ad → w.heap.size ≤ ad.block) :=
  (clone_any n w h.rd h.ba h.pa).mono fun e w' ⟨A, c, P, d, he, hR, hP, hb⟩ => by
    have fR : ∀ ad, A = some ad → w.heap.size ≤ ad.block := fun ad e => by
      rcases hR.2 with ⟨hv, _⟩ | ⟨g, cap, cur, hv, hb, _⟩
      · injection hv with e1; rw [e1] at e; cases e
      · injection hv with e1; rw [e1] at e; injection e with e; subst e; exact hb
    have fP : ∀ ad, P = some ad → w.heap.size ≤ ad.block := fun ad e => by
      rcases hP.2 with ⟨hv, _⟩ | ⟨g, cap, cur, hv, hb, _⟩
      · injection hv with e1; rw [e1] at e; cases e
      · injection hv with e1; rw [e1] at e; injection e with e; subst e; exact hb
    obtain ⟨A', c', e1, r1, a1, l1⟩ := hR.open2
    obtain ⟨P', d', e2, r2, a2, l2⟩ := hP.open2
    injection e1 with x1 _ x2
    injection e2 with y1 _ y2
    subst x1 x2 y1 y2
    exact ⟨_, he, ⟨A, c, P, d, rfl⟩, ⟨⟨r1, r2, h.rd.bm, h.rd.bl, h.rd.pl⟩, a1, a2, l1, l2⟩, hb, fR, fP⟩
theorem heap_new2 (w : World) (a b c : Obj) : (((w.alloc a).alloc b).alloc c).heap[w.heap.size]? = some a ∧ (((w.alloc a).alloc b).alloc c).heap[w.heap.size + 1]? = some b ∧ (((w.alloc a).alloc b).alloc c).heap[w.heap.size + 1 + 1]? = some c := by
  have e1 : (w.alloc a).heap.size = w.heap.size + 1 := by simp
  have e2 : ((w.alloc a).alloc b).heap.size = w.heap.size + 1 + 1 := by simp
  refine ⟨?_, ?_, ?_⟩
  · exact (Below.heap_alloc _ c _ (by omega)).trans ((Below.heap_alloc _ b _ (by omega)).trans (heap_alloc_new w a))
  · have := (Below.heap_alloc ((w.alloc a).alloc b) c (w.heap.size + 1) (by omega))
    refine this.trans ?_
    rw [← e1]; exact heap_alloc_new _ b
  · rw [← e2]; exact heap_alloc_new _ c
/-- A node that is stored into a block of the call stays as Go passes it. -/
theorem gn_setRow {V : World} {b : Nat} {n : Nd} (h : GN V n) (hb : ∀ ad, n.bA = some ad → ad.block ≠ b) (hp : ∀ ad, n.pA = some ad → ad.block ≠ b) (cs : Array Value) : GN (V.setRow b cs) n := by
  refine ⟨⟨fun hn => ?_, fun hn => ?_, h.rd.bm, h.rd.bl, h.rd.pl⟩, h.ba, h.pa, h.bc, h.pc⟩
  · obtain ⟨ad, e, hlt, hc⟩ := h.rd.r hn
    exact ⟨ad, e, by simpa using hlt, fun j u hu => (World.cell?_of_block (setRow_other _ _ _ _ (by rw [block_add]; exact hb ad e))).trans (hc j u hu)⟩
  · obtain ⟨ad, e, hlt, hc⟩ := h.rd.p hn
    exact ⟨ad, e, by simpa using hlt, fun j u hu => (World.cell?_of_block (setRow_other _ _ _ _ (by rw [block_add]; exact hp ad e))).trans (hc j u hu)⟩
theorem GN.blk {w : World} {n : Nd} (h : GN w n) : (∀ ad, 0 < n.bs.length → n.bA = some ad → ad.block < w.heap.size) ∧ (∀ ad, 0 < n.ps.length → n.pA = some ad → ad.block < w.heap.size) :=
  ⟨fun ad hn e => by obtain ⟨a, e', hl, _⟩ := h.rd.r hn; rw [e] at e'; injection e' with e'; subst e'; exact hl, fun ad hn e => by obtain ⟨a, e', hl, _⟩ := h.rd.p hn; rw [e] at e'; injection e' with e'; subst e'; exact hl⟩
/-- The same where its lists' blocks are read only if they are not empty. -/
theorem gn_setRow' {V : World} {b B : Nat} {n : Nd} (h : NRd V B n) (ha : n.bA = none → n.bc = 0) (hp : n.pA = none → n.pc = 0) (hc : n.bs.length ≤ n.bc) (hd : n.ps.length ≤ n.pc) (hB : B ≤ b) (hV : B ≤ V.heap.size) (cs : Array Value) : GN (V.setRow b cs) n := by
  refine ⟨⟨fun hn => ?_, fun hn => ?_, h.bm, h.bl, h.pl⟩, ha, hp, hc, hd⟩
  · obtain ⟨ad, e, hlt, hc⟩ := h.r hn
    exact ⟨ad, e, by simp; omega, fun j u hu => (World.cell?_of_block (setRow_other _ _ _ _ (by rw [block_add]; omega))).trans (hc j u hu)⟩
  · obtain ⟨ad, e, hlt, hc⟩ := h.p hn
    exact ⟨ad, e, by simp; omega, fun j u hu => (World.cell?_of_block (setRow_other _ _ _ _ (by rw [block_add]; omega))).trans (hc j u hu)⟩

set_option maxHeartbeats 8000000 in
theorem contracted_any (c s : Nd) (l : Int) (w : World) (hc : GN w c) : Calls Try.prog 15 #[.agg c.cs, .int .i64 l, .agg s.cs] w (VPost (ctrV c l s) w) := by
  obtain ⟨W, hW⟩ : ∃ W, W = ((w.alloc (.cells c.cs 28)).alloc (.cells s.cs 28)).alloc (.cells #[.int .i64 0, .int .i64 0, .int .i64 0, .int .u64 0, .slice none 0 0, .int .u64 0, .string ⟨#[]⟩, .int .u64 0, .slice none 0 0, .int .i64 0, .int .i64 0, .int .i64 0, .int .i64 0, .int .i64 0] 28) := ⟨_, rfl⟩
  have BW := Lib.hid (show Below w.heap.size w W by rw [hW]; exact ((alloc_below w _).alloc (by simp) _).alloc (by simp; omega) _)
  have HH := heap_new2 w (.cells c.cs 28) (.cells s.cs 28) (.cells #[.int .i64 0, .int .i64 0, .int .i64 0, .int .u64 0, .slice none 0 0, .int .u64 0, .string ⟨#[]⟩, .int .u64 0, .slice none 0 0, .int .i64 0, .int .i64 0, .int .i64 0, .int .i64 0, .int .i64 0] 28)
  rw [← hW] at HH
  have H1 := Lib.hid HH.1
  have H2 := Lib.hid HH.2.1
  have H3 := Lib.hid HH.2.2
  have GC := Lib.hid (hc.up BW.out)
  have WS := Lib.hid (show W.heap.size = w.heap.size + 3 by rw [hW]; simp)
  have HW := Lib.hid hW.symm
  clear hW HH hc
  have l1 := run_loadNode H1.out
  have SO := Lib.hid (sole_any c W.heap.size W GC.out.rd (Nat.le_refl _))
  obtain ⟨b, hb⟩ : ∃ b, b = soleB c := ⟨_, rfl⟩
  rw [← hb] at SO
  have EB := Lib.hid hb
  clear hb
  go_enter Try.func15, Try.ntmps15
  go_upto_region 1 with (fail)
  rw [HW.out]
  clear HW
  go_upto_region 2 with (go_at_call 31; refine SO.out.mono ?_; rintro e w1 ⟨rfl, hg⟩; have G1 := Lib.hid hg; clear hg)
  have K1 := Lib.hid (heap_up H1.out G1.out.b)
  have K2 := Lib.hid (heap_up H2.out G1.out.b)
  have K3 := Lib.hid (heap_up H3.out G1.out.b)
  have GC1 := Lib.hid (GC.out.up G1.out.b)
  have B1 := Lib.hid (BW.out.trans (G1.out.b.mono BW.out.size))
  have S1 := Lib.hid (show w.heap.size + 3 ≤ w1.heap.size by have := G1.out.size; have := WS.out; omega)
  clear l1 H1 H2 H3 GC SO
  have k1 := run_loadNode K1.out
  have d0 := node_cellA K2.out (i := 0) (v := .int .i64 s.kind) rfl
  have d5 := node_cellA K2.out (i := 5) (v := .int .u64 s.hash) rfl
  have d6 := node_cellA K2.out (i := 6) (v := .string s.key) rfl
  have d7 := node_cellA K2.out (i := 7) (v := .int .u64 s.val) rfl
  have CL := Lib.hid (clone_gn c w1 GC1.out)
  have TM := Lib.hid (tomb_n s w1)
  by_cases h1 : b = true ∧ 0 < l ∧ s.kind = 4
  · obtain ⟨rfl, hl, hk⟩ := h1
    have E := Lib.hid (show ctrV c l s = tombN s by simp [ctrV, ctrB, ← EB.out, hl, hk])
    have hl' : ¬ l ≤ 0 := by omega
    have hk' : decide (s.kind = 4) = true := decide_eq_true hk
    rw [hk] at d0
    clear CL
    go_upto_region 4 with (fail)
    go_wp2_with (go_at_call 33; refine TM.out.mono ?_; rintro e w2 ⟨rfl, hg⟩; have G2 := Lib.hid hg; have st := run_storeNode (tombN s) (heap_up K3.out hg.b) rfl; clear hg)
    obtain ⟨X, hX⟩ : ∃ X, X = w2.setRow (w.heap.size + 1 + 1) (tombN s).cs := ⟨_, rfl⟩
    have hg : X.heap[w.heap.size + 1 + 1]? = some (.cells (tombN s).cs 28 (0, 0)) := by rw [hX]; exact setRow_heap w2 _ _ _ 28 (0, 0) (heap_up K3.out G2.out.b)
    have BX := Lib.hid (show Below w.heap.size w X by rw [hX]; exact below_setRow (B1.out.trans (G2.out.b.mono B1.out.size)) (Nat.le_trans (Nat.le_add_right _ 1) (Nat.le_add_right _ 1)) _)
    rw [← hX]
    clear hX st
    obtain ⟨d0, d1, d2, d3, d4, d5, d6, d7, d8, d9, d10, d11, d12, d13⟩ := node_vals hg
    clear hg
    exact bodyPost_ret (v := .agg (tombN s).cs) (by simp [results, Try.results15, go_sem, d0, d1, d2, d3, d4, d5, d6, d7, d8, d9, d10, d11, d12, d13, Nd.cs]) rfl ⟨_, rfl, by rw [E.out]; exact Vw.refl _, gn_tomb _ s, BX.out⟩
  · have E := Lib.hid (show ctrV c l s = c by
      have : ctrB c l s = false := by
        simp only [ctrB, ← EB.out]
        cases hb : b <;> simp
        intro hl hk
        exact h1 ⟨hb, hl, hk⟩
      simp [ctrV, this])
    clear TM
    have tl : ∀ X, (∃ (y : Nd) (w2 : World), Vw y c ∧ GN w2 y ∧ (∀ ad, y.bA = some ad → w1.heap.size ≤ ad.block) ∧ (∀ ad, y.pA = some ad → w1.heap.size ≤ ad.block) ∧ Below w1.heap.size w1 w2 ∧ X = w2.setRow (w.heap.size + 1 + 1) y.cs) → ∃ y : Nd, Vw y c ∧ X.heap[w.heap.size + 1 + 1]? = some (.cells y.cs 28 (0, 0)) ∧ GN X y ∧ Below w.heap.size w X := by
      rintro X ⟨y, w2, vy, gy, f1, f2, hb, rfl⟩
      refine ⟨y, vy, setRow_heap w2 _ _ _ 28 (0, 0) (heap_up K3.out hb), gn_setRow gy (fun ad e => ?_) (fun ad e => ?_) _, below_setRow (B1.out.trans (hb.mono B1.out.size)) (Nat.le_trans (Nat.le_add_right _ 1) (Nat.le_add_right _ 1)) _⟩
      · have := f1 ad e; have := S1.out; omega
      · have := f2 ad e; have := S1.out; omega
    have TL := Lib.hid tl
    clear tl
    have hh : b = false ∨ (b = true ∧ l ≤ 0) ∨ (b = true ∧ ¬ l ≤ 0 ∧ s.kind ≠ 4) := by
      cases b with
      | false => exact .inl rfl
      | true =>
        by_cases hl : l ≤ 0
        · exact .inr (.inl ⟨rfl, hl⟩)
        · exact .inr (.inr ⟨rfl, hl, fun hk => h1 ⟨rfl, by omega, hk⟩⟩)
    clear h1
    rcases hh with rfl | ⟨rfl, hl⟩ | ⟨rfl, hl, hk⟩
    all_goals
      go_wp2_with (go_at_call 32; refine CL.out.mono ?_; rintro e w2 ⟨y, rfl, vy, gy, hb, f1, f2⟩; have Y := Lib.hid (⟨vy, gy, f1, f2, hb⟩ : _ ∧ _ ∧ _ ∧ _ ∧ _); have st := run_storeNode y (heap_up K3.out hb) rfl; clear vy gy f1 f2 hb)
      obtain ⟨X, hX⟩ : ∃ X, X = w2.setRow (w.heap.size + 1 + 1) y.cs := ⟨_, rfl⟩
      obtain ⟨z, vz, hg, gz, bz⟩ := TL.out X ⟨y, w2, Y.out.1, Y.out.2.1, Y.out.2.2.1, Y.out.2.2.2.1, Y.out.2.2.2.2, hX⟩
      have Z := Lib.hid (⟨vz, gz, bz⟩ : _ ∧ _ ∧ _)
      rw [← hX]
      clear hX st vz gz bz
      obtain ⟨d0, d1, d2, d3, d4, d5, d6, d7, d8, d9, d10, d11, d12, d13⟩ := node_vals hg
      clear hg
      exact bodyPost_ret (v := .agg z.cs) (by simp [results, Try.results15, go_sem, d0, d1, d2, d3, d4, d5, d6, d7, d8, d9, d10, d11, d12, d13, Nd.cs]) rfl ⟨_, rfl, by rw [E.out]; exact Z.out.1, Z.out.2.1, Z.out.2.2⟩
end Go.Proofs.Ytpopoihggomfiaa
