/-
  The walks of Node, State.
-/
import Derived.Test.YtbknbjabkhhlfaaArI
set_option linter.unusedVariables false
set_option maxRecDepth 100000
namespace Go.Proofs.Ytbknbjabkhhlfaa
open Go.Shelf Go.RowKit Go.Lib Go.Sort
attribute [local go_sem ↓] exec_load28 exec_store44
theorem run_storeNode_zero (X : World) :
    Sem.run Try.prog (storeNode (.pointer (some ⟨X.heap.size, 0, none⟩)) (.agg #[.int .i64 0, .int .i64 0, .int .i64 0, .int .u64 0, .slice none 0 0, .int .u64 0, .string ⟨#[]⟩, .int .u64 0, .slice none 0 0, .int .i64 0, .int .i64 0, .int .i64 0, .int .i64 0, .int .i64 0])) (X.alloc (.cells #[.int .i64 0, .int .i64 0, .int .i64 0, .int .u64 0, .slice none 0 0, .int .u64 0, .string ⟨#[]⟩, .int .u64 0, .slice none 0 0, .int .i64 0, .int .i64 0, .int .i64 0, .int .i64 0, .int .i64 0] 35)) = .ok () (X.alloc (.cells #[.int .i64 0, .int .i64 0, .int .i64 0, .int .u64 0, .slice none 0 0, .int .u64 0, .string ⟨#[]⟩, .int .u64 0, .slice none 0 0, .int .i64 0, .int .i64 0, .int .i64 0, .int .i64 0, .int .i64 0] 35)) := run_storeNode_new X Nd.zero
attribute [local go_sem] run_storeNode_new run_storeNode_zero

/-- The node that Node hands back: its lists were made. -/
structure Fresh (w : World) (base : Nat) (n : Nd) : Prop where
  a : OwnR w base (.slice n.bA n.bs.length n.bc) n.bs
  p : Own w base (.slice n.pA n.ps.length n.pc) n.ps
  bm : U64 n.bm
  bl : n.bs.length ≤ 1000
  pl : n.ps.length ≤ 1000
theorem Fresh.nrd {w : World} {base : Nat} {n : Nd} (h : Fresh w base n) : NRd w w.heap.size n ∧ (n.bA = none → n.bc = 0) ∧ (n.pA = none → n.pc = 0) := by
  obtain ⟨Ax, cx, ex, hrx, hax, _⟩ := h.a.open2
  obtain ⟨Px, dx, ey, hry, hay, _⟩ := h.p.open2
  injection ex with ex1 ex2 ex3
  injection ey with ey1 ey2 ey3
  subst ex1 ey1
  exact ⟨⟨hrx, hry, h.bm, h.bl, h.pl⟩, fun e => by rw [ex3]; exact hax e, fun e => by rw [ey3]; exact hay e⟩
def nodeV (s : Sd) (r : Int) : Nd := if 1 ≤ r ∧ r ≤ (s.ns.length : Int) then (s.ns[(r - 1).toNat]?).getD Nd.zero else Nd.zero
def NodeP (s : Sd) (r : Int) (w : World) (e : Ending) (w' : World) : Prop :=
  ∃ y : Nd, e = .returned (.agg y.cs) ∧ sameN (nodeV s r) y ∧ Fresh w' w.heap.size y ∧ Below w.heap.size w w'
theorem fresh_zero (w : World) (base : Nat) : Fresh w base Nd.zero := ⟨OwnR.nil_ _ _, Own.nil_ _ _, u64_zero, Nat.zero_le _, Nat.zero_le _⟩

set_option maxHeartbeats 4000000 in
theorem node_out (base q : Nat) (s : Sd) (acc r : Int) (w : World) (h : Ob w base 69 q s acc) (hr : ¬ (1 ≤ r ∧ r ≤ (s.ns.length : Int))) :
    Calls Try.prog 114 #[.pointer (some ⟨q, 0, none⟩), .int .i64 r] w (NodeP s r w) := by
  have hz : nodeV s r = Nd.zero := by rw [nodeV, if_neg hr]
  have hqw := h.lt
  have c0 := block_cell h.blk (i := 0) (v := .slice s.nA s.ns.length s.nc) rfl
  have c0' := fun o => (World.cell?_alloc_lt w o ⟨q, 0, none⟩ hqw).trans c0
  have HZ := Lib.hid hz
  clear h hz hqw c0
  by_cases h1 : r < 1
  · have d : decide (r < 1) = true := decide_eq_true h1
    clear hr h1
    go_enter Try.func114, Try.ntmps114
    go_wp2_with fail
    refine bodyPost_ret (v := .agg Nd.zero.cs) (by simp [results, Try.results114, go_sem, Nd.zero, Nd.cs]) rfl ⟨Nd.zero, rfl, by rw [HZ.out]; exact sameN.refl _, fresh_zero _ _, (Below.refl _ w).alloc (Nat.le_refl _) _⟩
  · have d : decide (r < 1) = false := decide_eq_false h1
    have d2 : decide ((s.ns.length : Int) < r) = true := decide_eq_true (by omega)
    have d3 : decide (r > (s.ns.length : Int)) = true := d2
    clear hr h1
    go_enter Try.func114, Try.ntmps114
    go_wp2_with fail
    refine bodyPost_ret (v := .agg Nd.zero.cs) (by simp [results, Try.results114, go_sem, Nd.zero, Nd.cs]) rfl ⟨Nd.zero, rfl, by rw [HZ.out]; exact sameN.refl _, fresh_zero _ _, (Below.refl _ w).alloc (Nat.le_refl _) _⟩

set_option maxHeartbeats 4000000 in
theorem node_in (base q : Nat) (s : Sd) (acc r : Int) (w : World) (h : Ob w base 69 q s acc) (hr : 1 ≤ r ∧ r ≤ (s.ns.length : Int)) :
    Calls Try.prog 114 #[.pointer (some ⟨q, 0, none⟩), .int .i64 r] w (NodeP s r w) := by
  obtain ⟨k, rfl⟩ : ∃ k : Nat, r = (k : Int) + 1 := ⟨(r - 1).toNat, by omega⟩
  have hk : k < s.ns.length := by omega
  have hx : s.ns[k]? = some s.ns[k] := List.getElem?_eq_getElem hk
  generalize s.ns[k] = n at hx
  have HZ := Lib.hid (show nodeV s ((k : Int) + 1) = n by rw [nodeV, if_pos hr, show ((k : Int) + 1 - 1).toNat = k by omega, hx]; rfl)
  obtain ⟨W, hW⟩ : ∃ W, W = w.alloc (.cells #[.int .i64 0, .int .i64 0, .int .i64 0, .int .u64 0, .slice none 0 0, .int .u64 0, .string ⟨#[]⟩, .int .u64 0, .slice none 0 0, .int .i64 0, .int .i64 0, .int .i64 0, .int .i64 0, .int .i64 0] 35) := ⟨_, rfl⟩
  have hbox : W.heap[w.heap.size]? = some (.cells #[.int .i64 0, .int .i64 0, .int .i64 0, .int .u64 0, .slice none 0 0, .int .u64 0, .string ⟨#[]⟩, .int .u64 0, .slice none 0 0, .int .i64 0, .int .i64 0, .int .i64 0, .int .i64 0, .int .i64 0] 35 (0, 0)) := by rw [hW]; exact heap_alloc_new w _
  have GW := Lib.hid (show Below w.heap.size w W by rw [hW]; exact (Below.refl _ w).alloc (Nat.le_refl _) _)
  have HL := Lib.hid (show w.heap.size < W.heap.size by rw [hW]; simp)
  have HO := Lib.hid (h.up GW.out)
  have HBX := Lib.hid hbox
  have HW := Lib.hid hW.symm
  have c0 := block_cell HO.out.blk (i := 0) (v := .slice s.nA s.ns.length s.nc) rfl
  have hsr := HO.out.srd
  obtain ⟨b, o, eA, hb, hc⟩ := hsr.n.at_ hx
  have hn2 : RdN W W.heap.size (some ⟨b, o, none⟩) s.ns := by rw [← eA]; exact hsr.n
  have ld := hn2.load hx
  have hn := hsr.l n (List.mem_of_getElem? hx)
  have CU := Lib.hid (clone_up n W hn.1 hn.2.1 hn.2.2)
  have NN := Lib.hid hn.1
  rw [eA] at c0
  have d1 : decide (((k : Int) + 1) < 1) = false := decide_eq_false (by omega)
  have d2 : decide (((k : Int) + 1) > (s.ns.length : Int)) = false := decide_eq_false (by omega)
  have hnl := h.nl
  have j3 : IntKind.i64.wrap (k : Int) = (k : Int) := by rw [IntKind.wrap_i64]; omega
  have hk0 : (0 : Int) ≤ (k : Int) := by omega
  have hkz : (k : Int) < (s.ns.length : Int) := by omega
  clear h hbox hsr hc hn2 hn hx eA hW hr hk hb
  go_enter Try.func114, Try.ntmps114
  go_upto_region 1 with (fail)
  rw [HW.out]
  go_wp2_with (go_at_call 26
               refine CU.out.mono ?_
               rintro e w5 ⟨y, rfl, A, c, P, d, hy, hoR, hoP, hb5⟩
               have YE := Lib.hid hy
               have OR := Lib.hid hoR
               have OP := Lib.hid hoP
               have B5 := Lib.hid hb5
               have Q5 := Lib.hid ((hb5.block _ HL.out).trans HBX.out)
               have st := run_storeNode y Q5.out rfl
               clear hy hoR hoP hb5)
  have hg := setRow_heap w5 w.heap.size _ y.cs 35 (0, 0) Q5.out
  obtain ⟨V, hV⟩ : ∃ V, V = w5.setRow w.heap.size y.cs := ⟨_, rfl⟩
  rw [← hV] at hg ⊢
  have KV := Lib.hid (show ∀ k, k ≠ w.heap.size → V.heap[k]? = w5.heap[k]? by rw [hV]; exact fun k hk => setRow_other _ _ _ _ hk)
  have BV := Lib.hid (show Below w.heap.size w V by
    rw [hV]
    exact (GW.out.trans (B5.out.mono (Nat.le_of_lt HL.out))).trans ⟨rfl, rfl, rfl, by simp, fun k hk => setRow_other _ _ _ _ (by omega)⟩)
  clear hV ld st
  have d0 := node_cellA hg (i := 0) (v := .int .i64 y.kind) rfl
  have d1' := node_cellA hg (i := 1) (v := .int .i64 y.gen) rfl
  have d2' := node_cellA hg (i := 2) (v := .int .i64 y.main) rfl
  have d3 := node_cellA hg (i := 3) (v := .int .u64 y.bm) rfl
  have d4 := node_cellA hg (i := 4) (v := .slice y.bA y.bs.length y.bc) rfl
  have d5 := node_cellA hg (i := 5) (v := .int .u64 y.hash) rfl
  have d6 := node_cellA hg (i := 6) (v := .string y.key) rfl
  have d7 := node_cellA hg (i := 7) (v := .int .u64 y.val) rfl
  have d8 := node_cellA hg (i := 8) (v := .slice y.pA y.ps.length y.pc) rfl
  have d9 := node_cellA hg (i := 9) (v := .int .i64 y.prev) rfl
  have d10 := node_cellA hg (i := 10) (v := .int .i64 y.old) rfl
  have d11 := node_cellA hg (i := 11) (v := .int .i64 y.exp) rfl
  have d12 := node_cellA hg (i := 12) (v := .int .i64 y.new) rfl
  have d13 := node_cellA hg (i := 13) (v := .int .i64 y.status) rfl
  clear hg
  refine bodyPost_ret (v := .agg y.cs) (by simp [results, Try.results114, go_sem, d0, d1', d2', d3, d4, d5, d6, d7, d8, d9, d10, d11, d12, d13, Nd.cs]) rfl ⟨y, rfl, by rw [HZ.out]; exact ⟨A, c, P, d, YE.out⟩, ?_, BV.out⟩
  have hy := YE.out
  have hlw := HL.out
  have hA : OwnR V W.heap.size (.slice A n.bs.length c) n.bs := OR.out.keepAt fun k hk _ => KV.out k (by
    have := (OR.out.lt_ hk).1
    omega)
  have hP : Own V W.heap.size (.slice P n.ps.length d) n.ps := by
    refine ⟨OP.out.1, ?_⟩
    rcases OP.out.2 with hn | ⟨g', cap, cur, hv, hbg, hg, rest⟩
    · exact .inl hn
    · exact .inr ⟨g', cap, cur, hv, hbg, (KV.out g' (by omega)).trans hg, rest⟩
  subst hy
  exact ⟨hA.mono (Nat.le_of_lt hlw), hP.mono (Nat.le_of_lt hlw), NN.out.bm, NN.out.bl, NN.out.pl⟩
theorem node_get (base q : Nat) (s : Sd) (acc r : Int) (w : World) (h : Ob w base 69 q s acc) : Calls Try.prog 114 #[.pointer (some ⟨q, 0, none⟩), .int .i64 r] w (NodeP s r w) := by
  by_cases hr : 1 ≤ r ∧ r ≤ (s.ns.length : Int)
  · exact node_in base q s acc r w h hr
  · exact node_out base q s acc r w h hr

end Go.Proofs.Ytbknbjabkhhlfaa
