/- For every input the Go function NodeClones of package ctrielaw04 returns true, and each argument reads afterwards as it read before. Conditions: none but those that every row of the form bears by itself. The frame follows the guide's proof-skeleton; the walk is ours. -/
import Derived.Test.YtojcdnjnhejlmaaRows
import Derived.WalkKit
import Derived.ProofKit
import Derived.OpenShut
import Derived.ShutString
import Derived.ChangeOld
import Derived.Below
import Derived.Test.YtojcdnjnhejlmaaFrame
import Derived.Test.YtojcdnjnhejlmaaWalksX
import Derived.Test.YtojcdnjnhejlmaaWalksV
import Derived.Test.YtojcdnjnhejlmaaWalksZ
import Derived.Test.YtojcdnjnhejlmaaWalksK
import Derived.Test.YtojcdnjnhejlmaaEqR
import Derived.Lib.Hide
import Derived.Deep.WholeRow
import Derived.Deep.RegionHeld3
import Derived.StillTailTactics
import Derived.Deep.CutRange
import Derived.Deep.DeepCutAuto
namespace Go.Proofs.Ytojcdnjnhejlmaa.nodeClones
open Go.Lib Go.Sort
open Go.ChangeShapes Go.WideShapes Go.ChangeAt Go.RowKit
open Go.ChangeMaps (open_string shut_string)
set_option linter.unusedVariables false

theorem own : ownKnob Try.prog.godebug = none := by kernel_rfl
theorem laidOut : laidOutB Try.prog = true := by kernel_rfl

attribute [local go_sem ↓] exec_build2 exec_load28
attribute [local go_sem] run_build2 cs_size14
def ClonePost2 (n : Nd) (w : World) (e : Ending) (w' : World) : Prop :=
  ∃ y : Nd, e = .returned (.agg y.cs) ∧ ∃ A c P d, y = { n with bA := A, bc := c, pA := P, pc := d } ∧ OwnR w' w.heap.size (.slice A n.bs.length c) n.bs ∧ Own w' w.heap.size (.slice P n.ps.length d) n.ps ∧ Below w.heap.size w w'
theorem clone_up (n : Nd) (w : World) (h : NRd w w.heap.size n) (hA : n.bA = none → n.bc = 0) (hP : n.pA = none → n.pc = 0) : Calls Try.prog 26 #[.agg n.cs] w (ClonePost2 n w) :=
  (clone_any n w h hA hP).mono fun _ _ ⟨A, c, P, d, he, h1, h2, h3⟩ => ⟨_, he, A, c, P, d, rfl, h1, h2, h3⟩

theorem alloc_at {X : World} {g : Nat} {o : Obj} (h : g = X.heap.size) : (X.alloc o).heap[g]? = some o := by subst h; exact heap_alloc_new X o
theorem alloc_keep {X : World} {g : Nat} {o o' : Obj} (h : X.heap[g]? = some o') : (X.alloc o).heap[g]? = some o' := (Below.heap_alloc X o g (Array.getElem?_eq_some_iff.1 h).1).trans h
theorem Wiped.keep {t lo hi : Nat} {w w' : World} (h : Wiped t lo hi w w') {k : Nat} {cs : Array Value} {t' : TypeId} (hk : w.heap[k]? = some (.cells cs t' (0, 0))) (ht : t' ≠ t) : w'.heap[k]? = some (.cells cs t' (0, 0)) := (h.other hk ht).trans hk
theorem drew_keep {X : World} {g : Nat} {o : Obj} (h : X.heap[g]? = some o) : X.drew.heap[g]? = some o := h
theorem bdrew {V w : World} (h : Below V.heap.size V w) : Below V.heap.size V w.drew := below_drew h 1
theorem balloc {V w : World} (h : Below V.heap.size V w) (o : Obj) : Below V.heap.size V (w.alloc o) := h.alloc h.size o
theorem cells14 {w' : World} {q : Nat} {m : Nd} (h : w'.heap[q]? = some (.cells m.cs 28 (0, 0))) : w'.cell? ⟨q, 0, none⟩ = some (.int .i64 m.kind) ∧ w'.cell? ⟨q, 1, none⟩ = some (.int .i64 m.gen) ∧ w'.cell? ⟨q, 2, none⟩ = some (.int .i64 m.main) ∧ w'.cell? ⟨q, 3, none⟩ = some (.int .u64 m.bm) ∧ w'.cell? ⟨q, 4, none⟩ = some (.slice m.bA m.bs.length m.bc) ∧ w'.cell? ⟨q, 5, none⟩ = some (.int .u64 m.hash) ∧ w'.cell? ⟨q, 6, none⟩ = some (.string m.key) ∧ w'.cell? ⟨q, 7, none⟩ = some (.int .u64 m.val) ∧ w'.cell? ⟨q, 8, none⟩ = some (.slice m.pA m.ps.length m.pc) ∧ w'.cell? ⟨q, 9, none⟩ = some (.int .i64 m.prev) ∧ w'.cell? ⟨q, 10, none⟩ = some (.int .i64 m.old) ∧ w'.cell? ⟨q, 11, none⟩ = some (.int .i64 m.exp) ∧ w'.cell? ⟨q, 12, none⟩ = some (.int .i64 m.new) ∧ w'.cell? ⟨q, 13, none⟩ = some (.int .i64 m.status) :=
  ⟨node_cellA h (i := 0) rfl, node_cellA h (i := 1) rfl, node_cellA h (i := 2) rfl, node_cellA h (i := 3) rfl, node_cellA h (i := 4) rfl, node_cellA h (i := 5) rfl, node_cellA h (i := 6) rfl, node_cellA h (i := 7) rfl, node_cellA h (i := 8) rfl, node_cellA h (i := 9) rfl, node_cellA h (i := 10) rfl, node_cellA h (i := 11) rfl, node_cellA h (i := 12) rfl, node_cellA h (i := 13) rfl⟩
theorem wA28 {lo hi : Nat} {w w' : World} (h : Wiped 26 lo hi w w') {k : Nat} {cs : Array Value} (hk : w.heap[k]? = some (.cells cs 28 (0, 0))) : w'.heap[k]? = some (.cells cs 28 (0, 0)) := Wiped.keep h hk (by decide)
theorem wB28 {lo hi : Nat} {w w' : World} (h : Wiped 41 lo hi w w') {k : Nat} {cs : Array Value} (hk : w.heap[k]? = some (.cells cs 28 (0, 0))) : w'.heap[k]? = some (.cells cs 28 (0, 0)) := Wiped.keep h hk (by decide)
theorem wA41 {lo hi : Nat} {w w' : World} (h : Wiped 26 lo hi w w') {k : Nat} {cs : Array Value} (hk : w.heap[k]? = some (.cells cs 41 (0, 0))) : w'.heap[k]? = some (.cells cs 41 (0, 0)) := Wiped.keep h hk (by decide)
def CutR (V : World) (m : Nd) (s8 : Value) (wx : World) : Prop :=
  ∃ q8 A c P d, s8 = .pointer (some ⟨q8, 0, none⟩) ∧ wx.heap[q8]? = some (.cells (Nd.cs { m with bA := A, bc := c, pA := P, pc := d }) 28 (0, 0)) ∧ RdX wx V.heap.size wx.heap.size A (flatR m.bs) ∧ RdX wx V.heap.size wx.heap.size P (flat m.ps) ∧ Below V.heap.size V wx

theorem cutz {a b : Prop} (ha : a) (hb : a → b) : b := hb ha
def storeNode (p v : Value) : Sem Unit := Instr.storeAt 28 p v
theorem exec_store28 (ρ : Operand → Value) (dst : Option Tmp) (x y : Operand) (ty : TypeId) (pos : String) (after : Array Edge) (guard : Option (Nat × Bool)) :
    execOp ρ { dst, op := .store 28 x y, type := ty, pos, after, guard } = (do storeNode (ρ x) (ρ y); pure .skip) := rfl
theorem run_storeNode {V : World} {b : Nat} {old cells : Array Value} {t : TypeId} (hg : V.heap[b]? = some (.cells old t (0, 0))) (ho : old.size = 14) (hc : cells.size = 14) (h1 : cells.all (·.oneCell') = true) :
    Sem.run Try.prog (storeNode (.pointer (some ⟨b, 0, none⟩)) (.agg cells)) V = .ok () (V.setRow b cells) := by
  have hi : (Try.prog.info? 28).map (·.size) = some cells.size := by rw [hc]; exact nodeSize
  simp only [storeNode, Instr.storeAt, Instr.sureAddr, Sem.run_bind, Sem.run_pure, Result.andThen]
  exact run_storeVar_row V b t 28 old cells hg hi (by rw [ho, hc]) h1
theorem setR_keep {V X : World} {b q : Nat} {cs : Array Value} {o : Obj} (hq : q < V.heap.size) (hb : V.heap.size ≤ b) (h : X.heap[q]? = some o) : (X.setRow b cs).heap[q]? = some o := (setRow_other _ _ _ _ (by omega)).trans h
theorem below_setRow {B : Nat} {a w : World} (h : Below B a w) {b : Nat} (hb : B ≤ b) (cs : Array Value) : Below B a (w.setRow b cs) :=
  h.trans ⟨rfl, rfl, rfl, by simp, fun k hk => setRow_other _ _ _ _ (by omega)⟩
theorem OwnR.setR {w : World} {base b : Nat} {cs cs' : Array Value} {v : Value} {xs : List Int} (h : OwnR w base v xs) (hb : w.heap[b]? = some (.cells cs 28 (0, 0))) : OwnR (w.setRow b cs') base v xs := by
  refine ⟨h.1, ?_⟩
  rcases h.2 with hn | ⟨g, cap, cur, hv, hbg, hg, rest⟩
  · exact .inl hn
  · refine .inr ⟨g, cap, cur, hv, hbg, (setRow_other _ _ _ _ (fun e => ?_)).trans hg, rest⟩
    rw [e, hb] at hg
    injection hg with hg
    injection hg with _ hg _
    exact absurd hg (by decide)
theorem Own.setR {w : World} {base b : Nat} {cs cs' : Array Value} {v : Value} {xs : List Pr} (h : Own w base v xs) (hb : w.heap[b]? = some (.cells cs 28 (0, 0))) : Own (w.setRow b cs') base v xs := by
  refine ⟨h.1, ?_⟩
  rcases h.2 with hn | ⟨g, cap, cur, hv, hbg, hg, rest⟩
  · exact .inl hn
  · refine .inr ⟨g, cap, cur, hv, hbg, (setRow_other _ _ _ _ (fun e => ?_)).trans hg, rest⟩
    rw [e, hb] at hg
    injection hg with hg
    injection hg with _ hg _
    exact absurd hg (by decide)
theorem cutF2 {V wb : World} {m : Nd} {b : Nat} {old : Array Value} {A1 : Option Addr} {c1 : Nat} {A2 : Option Addr} {c2 : Nat} (hz : wb.heap[b]? = some (.cells old 28 (0, 0))) (hA : OwnR wb V.heap.size (.slice A1 m.bs.length c1) m.bs) (hP : Own wb V.heap.size (.slice A2 m.ps.length c2) m.ps) (hB : Below V.heap.size V wb) (hb : V.heap.size ≤ b) :
    CutR V m (.pointer (some ⟨b, 0, none⟩)) (wb.setRow b #[.int .i64 m.kind, .int .i64 m.gen, .int .i64 m.main, .int .u64 m.bm, .slice A1 m.bs.length c1, .int .u64 m.hash, .string m.key, .int .u64 m.val, .slice A2 m.ps.length c2, .int .i64 m.prev, .int .i64 m.old, .int .i64 m.exp, .int .i64 m.new, .int .i64 m.status]) := by
  have hA' := OwnR.setR (cs' := #[.int .i64 m.kind, .int .i64 m.gen, .int .i64 m.main, .int .u64 m.bm, .slice A1 m.bs.length c1, .int .u64 m.hash, .string m.key, .int .u64 m.val, .slice A2 m.ps.length c2, .int .i64 m.prev, .int .i64 m.old, .int .i64 m.exp, .int .i64 m.new, .int .i64 m.status]) hA hz
  have hP' := Own.setR (cs' := #[.int .i64 m.kind, .int .i64 m.gen, .int .i64 m.main, .int .u64 m.bm, .slice A1 m.bs.length c1, .int .u64 m.hash, .string m.key, .int .u64 m.val, .slice A2 m.ps.length c2, .int .i64 m.prev, .int .i64 m.old, .int .i64 m.exp, .int .i64 m.new, .int .i64 m.status]) hP hz
  exact ⟨b, A1, c1, A2, c2, rfl, setRow_heap wb b _ _ 28 (0, 0) hz, OwnR.rdX hA', Own.rdX hP', below_setRow hB hb _⟩
theorem cutF1 {V X : World} {m : Nd} {A1 : Option Addr} {c1 : Nat} {A2 : Option Addr} {c2 : Nat} (hA : OwnR X V.heap.size (.slice A1 m.bs.length c1) m.bs) (hP : Own X V.heap.size (.slice A2 m.ps.length c2) m.ps) (hB : Below V.heap.size V X) :
    CutR V m (.pointer (some ⟨X.heap.size, 0, none⟩)) ((X.alloc (.cells #[.int .i64 0, .int .i64 0, .int .i64 0, .int .u64 0, .slice none 0 0, .int .u64 0, .string ⟨#[]⟩, .int .u64 0, .slice none 0 0, .int .i64 0, .int .i64 0, .int .i64 0, .int .i64 0, .int .i64 0] 28)).setRow X.heap.size #[.int .i64 m.kind, .int .i64 m.gen, .int .i64 m.main, .int .u64 m.bm, .slice A1 m.bs.length c1, .int .u64 m.hash, .string m.key, .int .u64 m.val, .slice A2 m.ps.length c2, .int .i64 m.prev, .int .i64 m.old, .int .i64 m.exp, .int .i64 m.new, .int .i64 m.status]) :=
  cutF2 (heap_alloc_new X _) (OwnR.alloc hA _) (Own.alloc hP _) (hB.alloc hB.size _) hB.size
theorem oB {lo hi : Nat} {w w' : World} {base : Nat} {v : Value} {xs : List Int} (hw : Wiped 41 lo hi w w') (h : OwnR w base v xs) : OwnR w' base v xs := by
  refine ⟨h.1, ?_⟩
  rcases h.2 with hn | ⟨g, cap, cur, hv, hbg, hg, rest⟩
  · exact .inl hn
  · exact .inr ⟨g, cap, cur, hv, hbg, Wiped.keep hw hg (by decide), rest⟩

attribute [local go_sem ↓] exec_store28
theorem eqN_refl (n : Nd) : eqN n n = true := by simp [eqN]
theorem requal_at (a b : Nd) (r : Bool) (hr : eqN a b = r) (w : World) (ha : NRd w w.heap.size a) (hb : NRd w w.heap.size b) : Calls Try.prog 16 #[.agg a.cs, .agg b.cs] w fun e w' => e = .returned (.bool r) ∧ Below w.heap.size w w' := by
  subst hr
  exact (requal_any a b w.heap.size w ha hb (Nat.le_refl _)).mono fun _ _ ⟨he, hg⟩ => ⟨he, hg.b⟩
theorem RowP.more {lo hi hi' : Nat} {w : World} {v : Value} (h : RowP lo hi w v) (hh : hi ≤ hi') : RowP lo hi' w v := by
  rcases h with rfl | ⟨g, m, c, cur, rfl, hg, h1, h2, h3, h4⟩
  · exact .inl rfl
  · exact .inr ⟨g, m, c, cur, rfl, hg, h1, h2, h3, by omega⟩
def ListPost2 (w : World) (e : Ending) (w' : World) : Prop := ∃ l : Nd, e = .returned (.agg l.cs) ∧ RowP w.heap.size w'.heap.size w' (.slice l.pA l.ps.length l.pc) ∧ Below w.heap.size w w'
theorem list_up (h : Int) (A : Option Addr) (c : Nat) (xs : List Pr) (w : World) (hr : Rd w w.heap.size A xs) (hA : A = none → c = 0) (hn : xs.length ≤ 1000) :
    Calls Try.prog 22 #[.int .u64 h, .slice A xs.length c] w (ListPost2 w) :=
  (list_any h A c xs w hr hA hn).mono fun _ _ ⟨A', c', he, ho, hb⟩ => ⟨_, he, ho.rowP (by omega), hb⟩
theorem IsNode.up {w w' : World} {n : Nd} (h : IsNode w n) (hb : Below w.heap.size w w') : IsNode w' n := ⟨h.r.up hb, h.p.up hb, h.bm, h.ba, h.pa, h.bc, h.pc⟩
theorem good_isNode {w : World} {n : Nd} (h : GoodN w n) : IsNode w n := ⟨h.rd.r, h.rd.p, h.rd.bm, h.ba, h.pa, h.bc, h.pc⟩

/-! ### STEP 1: THE WALK -/
set_option maxRecDepth 100000 in
set_option maxHeartbeats 400000000 in
theorem walk (n0 : Nd) (a1 : Option Addr) (len1 cap1 : Nat) (w : World) (w0 : IsNode w n0) (w1 : IsInts w a1 len1) :
    Calls Try.prog 5 #[.agg n0.cs, .slice a1 len1 cap1] w fun e w' => e = .returned (.bool true) ∧ Below w.heap.size w w' := by
  have mixed := mixedOrders
  obtain ⟨W, hW⟩ : ∃ W, W = w.alloc (.cells n0.cs 28) := ⟨_, rfl⟩
  have hga : W.heap[w.heap.size]? = some (.cells n0.cs 28 (0, 0)) := by rw [hW]; exact heap_alloc_new w _
  have hbW : Below w.heap.size w W := by rw [hW]; exact (Below.refl _ _).alloc (Nat.le_refl _) _
  have hsW : W.heap.size = w.heap.size + 1 := by rw [hW]; simp
  have HI : Hid (IsInts W a1 len1) := ⟨w1.1, fun j hj => by
    obtain ⟨ad, z, e, hc⟩ := w1.2 j hj
    exact ⟨ad, z, e, (hbW.cell (block_of_cell hc)).trans hc⟩⟩
  have LN := Lib.hid w0
  have Hga := Lib.hid hga
  have HbW := Lib.hid hbW
  have HsW := Lib.hid hsW
  have HW := Lib.hid hW.symm
  have la := run_loadNode_drew hga
  clear hW hga hbW hsW w0 w1
  go_enter Try.func5, Try.ntmps5
  go_upto_region 1 with (fail)
  rw [HW.out]
  go_region_held3 (fun w' => Sem.run Try.prog (loadNode (.pointer (some ⟨w.heap.size, 0, none⟩))) w' = .ok (.agg n0.cs) w')
    (first | assumption | go_keep | exact run_loadNode_alloc Hga2.out _)
    (first
      | (go_at_call 8
         refine (new_any a1 len1 cap1 W.drew HI.out.1 HI.out.2).mono ?_
         rintro e u1 ⟨rfl, hT, hb⟩
         have TP := Lib.hid hT
         have hb' : Below W.heap.size W u1 := ⟨hb.os, hb.tape, hb.output, hb.size, hb.block⟩
         have HB1 := Lib.hid hb'
         have Hga1 := Lib.hid ((hb'.block w.heap.size (Array.getElem?_eq_some_iff.1 Hga.out).1).trans Hga.out)
         have hS1 := run_loadNode Hga1.out
         clear hT hb hb')
      | (go_at_call 9
         refine (node_any W.heap.size u1 TP.out).mono ?_
         rintro e u2 ⟨x, rfl, hx, hT, hg⟩
         have hb' : Below W.heap.size u1 u2 := below_of_grown hg (Nat.le_refl _) HB1.out.size
         have HB2 := Lib.hid (HB1.out.trans hb')
         have Hga2 := Lib.hid ((hb'.block w.heap.size (Array.getElem?_eq_some_iff.1 Hga.out).1).trans Hga1.out)
         have hS2 := run_loadNode Hga2.out
         have GX := Lib.hid hx
         clear hx hT hg hb'))
  obtain ⟨g, hgd⟩ : ∃ g, g = u2.heap.size := ⟨_, rfl⟩
  obtain ⟨U, hU⟩ : ∃ U, U = u2.alloc (.cells (rowOf [n0.cs, x.cs]) 28) := ⟨_, rfl⟩
  have hgU : U.heap[g]? = some (.cells (rowOf ([n0, x].map Nd.cs)) 28 (0, 0)) := by rw [hU, hgd]; exact heap_alloc_new u2 _
  have hbU : Below u2.heap.size u2 U := by rw [hU]; exact (Below.refl _ _).alloc (Nat.le_refl _) _
  rw [← hU, ← hgd]
  have HG := Lib.hid hgU
  have hbWU : Below W.heap.size W U := HB2.out.trans (hbU.mono HB2.out.size)
  have HB := Lib.hid (HbW.out.trans (hbWU.mono HbW.out.size))
  have LA := Lib.hid (IsNode.up (IsNode.up LN.out HbW.out) hbWU)
  have LX := Lib.hid (IsNode.up (good_isNode GX.out) hbU)
  have HN : Hid (∀ (i : Nat) (n : Nd), [n0, x][i]? = some n → IsNode U n) := by
    intro i n hn
    match i, hn with
    | 0, hn => injection hn with hn; subst hn; exact LA.out
    | 1, hn => injection hn with hn; subst hn; exact LX.out
    | i + 2, hn => simp at hn
  have HSZ := Lib.hid (Array.getElem?_eq_some_iff.1 hgU).1
  clear hgd hU hgU hbU hbWU hS1 hS2 la Hga Hga1 Hga2 HB1 HB2 GX TP LN LA LX HI HW HsW
  go_wp2_with fail
  go_loopg [16] 2 (fun kx s16 wr => ∃ i : Nat, s16 = .int .i64 i ∧ i ≤ 2 ∧ 2 - i ≤ kx ∧ Aside (Below U.heap.size U wr))
  case atStart => exact ⟨0, rfl, Nat.zero_le _, by omega, Below.refl _ _⟩
  case round =>
    obtain ⟨i, rfl, hi, hkx, K0⟩ := hrel
    by_cases hlt : i < 2
    · have hltz : (i : Int) < 2 := by omega
      obtain ⟨n, hn⟩ : ∃ n, [n0, x][i]? = some n := ⟨_, List.getElem?_eq_getElem (by simpa using hlt)⟩
      have hcs : ([n0, x].map Nd.cs)[i]? = some n.cs := by rw [List.getElem?_map, hn]; rfl
      have NN := Lib.hid (IsNode.up (HN.out i n hn) K0.out)
      have hgr := (K0.out.block g HSZ.out).trans HG.out
      have lel : Sem.run Try.prog (loadNode (.pointer (some ⟨g, i * 14, none⟩))) wr = .ok (.agg n.cs) wr := run_loadNodeAt fun j hj => by
        obtain ⟨v, hv⟩ : ∃ v, n.cs[j]? = some v := ⟨_, Array.getElem?_eq_getElem (by rw [cs_size14]; exact hj)⟩
        rw [hv]
        exact (cell_of_row wr g _ _ 28 (0, 0) hgr).trans (rowOf_get hcs hj hv)
      clear hn hcs hgr
      go_wp2_with ((refine wpList_store_row rfl 28 (.tmp 6) (.tmp 19) rfl wr.heap.size n.cs rfl rfl 28 #[.int .i64 0, .int .i64 0, .int .i64 0, .int .u64 0, .slice none 0 0, .int .u64 0, .string ⟨#[]⟩, .int .u64 0, .slice none 0 0, .int .i64 0, .int .i64 0, .int .i64 0, .int .i64 0, .int .i64 0] (heap_alloc_new wr _) nodeSize rfl (cs_all n) ?_))
      rw [World.setRow_alloc_new]
      obtain ⟨q, hq⟩ : ∃ q, q = wr.heap.size := ⟨_, rfl⟩
      obtain ⟨V0, hV0⟩ : ∃ V0, V0 = wr.alloc (.cells n.cs 28) := ⟨_, rfl⟩
      rw [← hV0, ← hq]
      have hb0 : Below wr.heap.size wr V0 := by rw [hV0]; exact (Below.refl _ _).alloc (Nat.le_refl _) _
      have hq0 : V0.heap[q]? = some (.cells n.cs 28 (0, 0)) := by rw [hV0, hq]; exact heap_alloc_new wr _
      have Hb0 := Lib.hid hb0
      have Hq0 := Lib.hid hq0
      have c4 := node_cellA hq0 (i := 4) (v := .slice n.bA n.bs.length n.bc) rfl
      have c8 := node_cellA hq0 (i := 8) (v := .slice n.pA n.ps.length n.pc) rfl
      have f4 := node_frozen hq0 4
      have f8 := node_frozen hq0 8
      have Hqn := Lib.hid (show wr.heap.size ≤ q by omega)
      clear hV0 hq hb0 hq0 lel
      refine wp_region_still_tail 7 mixed (by kernel_rfl) ?_
      simp only [List.take_succ_cons, List.take_zero, List.drop_succ_cons, List.drop_zero]
      change wpStill _ _ V0.drew (fun a' => wpList _ _ _ _ a' V0.drew) _ _
      have Hb0 := Lib.hid (show Below wr.heap.size wr V0.drew from below_drew Hb0.out 1)
      have Hq0 := Lib.hid (show V0.drew.heap[q]? = some (.cells n.cs 28 (0, 0)) from Hq0.out)
      clear c4 c8 f4 f8
      generalize V0.drew = V1 at Hb0 Hq0 ⊢
      have c4 := node_cellA Hq0.out (i := 4) (v := .slice n.bA n.bs.length n.bc) rfl
      have c8 := node_cellA Hq0.out (i := 8) (v := .slice n.pA n.ps.length n.pc) rfl
      have f4 := node_frozen Hq0.out 4
      have f8 := node_frozen Hq0.out 8
      repeat (first | still_step | (still_call ((firstR_any n.bA n.bc n.bs 100 V1 NN.out.bc (by omega)).mono fun _ _ ⟨h1, h2⟩ => ⟨h1, h2.symm⟩)) | (still_call ((firstP_any n.pA n.pc n.ps 40 V1 NN.out.pc (by omega)).mono fun _ _ ⟨h1, h2⟩ => ⟨h1, h2.symm⟩)))
      refine wpStill_nil ?_
      go_upto_region 5 with (fail)
      obtain ⟨m, hm⟩ : ∃ m : Nd, m = { n with bs := n.bs.take 100, ps := n.ps.take 40 } := ⟨_, rfl⟩
      have e : m.cs = (n.cs.setIfInBounds 4 (.slice n.bA (min 100 n.bs.length) n.bc)).setIfInBounds 8 (.slice n.pA (min 40 n.ps.length) n.pc) := by rw [hm]; simp [Nd.cs]
      obtain ⟨V, hV⟩ : ∃ V, V = (V1.setCell ⟨q, 4, none⟩ (.slice n.bA (min 100 n.bs.length) n.bc)).setCell ⟨q, 8, none⟩ (.slice n.pA (min 40 n.ps.length) n.pc) := ⟨_, rfl⟩
      rw [← hV]
      have Hm := Lib.hid (show V.heap[q]? = some (.cells m.cs 28 (0, 0)) by rw [hV, e]; exact set_field (set_field Hq0.out 4 _) 8 _)
      have hbV : Below wr.heap.size wr V := by rw [hV]; exact (Hb0.out.setCell Hqn.out _).setCell Hqn.out _
      have NM := Lib.hid (show NRd V V.heap.size m from by
        have h1 := NN.out.r.up hbV
        have h2 := NN.out.p.up hbV
        rw [hm]
        exact ⟨h1.take 100, h2.take 40, NN.out.bm, by simp; omega, by simp; omega⟩)
      have MA := Lib.hid (show (m.bA = none → m.bc = 0) ∧ (m.pA = none → m.pc = 0) ∧ m.bs.length ≤ 100 ∧ m.ps.length ≤ 40 by rw [hm]; exact ⟨NN.out.ba, NN.out.pa, by simp; omega, by simp; omega⟩)
      have HbV := Lib.hid (K0.out.trans (hbV.mono K0.out.size))
      clear hV hbV hm e c4 c8 f4 f8 Hq0 Hb0 Hqn NN
      have lm := run_loadNode Hm.out
      go_wp2_with fail
      refine (clone_up m V NM.out MA.out.1 MA.out.2.1).mono ?_
      rintro e u ⟨y, rfl, A, c, P, d, hy, hoR, hoP, hb⟩
      have YE := Lib.hid hy
      clear hy
      go_wp2_with ((refine wpList_store_row rfl 28 (.tmp 7) (.tmp 29) rfl u.heap.size y.cs rfl rfl 28 #[.int .i64 0, .int .i64 0, .int .i64 0, .int .u64 0, .slice none 0 0, .int .u64 0, .string ⟨#[]⟩, .int .u64 0, .slice none 0 0, .int .i64 0, .int .i64 0, .int .i64 0, .int .i64 0, .int .i64 0] (heap_alloc_new u _) nodeSize rfl (cs_all y) ?_))
      rw [World.setRow_alloc_new]
      obtain ⟨q7, hq7⟩ : ∃ q7, q7 = u.heap.size := ⟨_, rfl⟩
      obtain ⟨V2, hV2⟩ : ∃ V2, V2 = u.alloc (.cells y.cs 28) := ⟨_, rfl⟩
      rw [← hV2, ← hq7]
      have hbu : Below u.heap.size u V2 := by rw [hV2]; exact (Below.refl _ _).alloc (Nat.le_refl _) _
      have HY := Lib.hid (show V2.heap[q7]? = some (.cells y.cs 28 (0, 0)) by rw [hV2, hq7]; exact heap_alloc_new u _)
      have OR := Lib.hid (hoR.below hbu (Nat.le_refl _))
      have OP := Lib.hid (hoP.below hbu (Nat.le_refl _))
      have HV2 := Lib.hid (hb.trans (hbu.mono hb.size))
      have Hm2 := Lib.hid ((HV2.out.block q (Array.getElem?_eq_some_iff.1 Hm.out).1).trans Hm.out)
      have NM2 := Lib.hid (NM.out.below HV2.out)
      clear hV2 hq7 hbu hoR hoP hb lm
      have NM2r := Lib.hid (NM2.out.r.more HV2.out.size)
      have NM2p := Lib.hid (NM2.out.p.more HV2.out.size)
      have MAl := Lib.hid (show m.bs.length ≤ 1000 ∧ m.ps.length ≤ 1000 from ⟨by have := MA.out.2.2.1; omega, by have := MA.out.2.2.2; omega⟩)
      have BD := Lib.hid (Below.refl V2.heap.size V2)
      have HQL := Lib.hid (Array.getElem?_eq_some_iff.1 Hm2.out).1
      simp only [Act.put]
      go_cut [8] (fun s8 wx => CutR V2 m s8 wx)
      case first =>
        go_region_held3 (fun w' => w'.cell? ⟨q, 0, none⟩ = some (.int .i64 m.kind) ∧ w'.cell? ⟨q, 1, none⟩ = some (.int .i64 m.gen) ∧ w'.cell? ⟨q, 2, none⟩ = some (.int .i64 m.main) ∧ w'.cell? ⟨q, 3, none⟩ = some (.int .u64 m.bm) ∧ w'.cell? ⟨q, 4, none⟩ = some (.slice m.bA m.bs.length m.bc) ∧ w'.cell? ⟨q, 5, none⟩ = some (.int .u64 m.hash) ∧ w'.cell? ⟨q, 6, none⟩ = some (.string m.key) ∧ w'.cell? ⟨q, 7, none⟩ = some (.int .u64 m.val) ∧ w'.cell? ⟨q, 8, none⟩ = some (.slice m.pA m.ps.length m.pc) ∧ w'.cell? ⟨q, 9, none⟩ = some (.int .i64 m.prev) ∧ w'.cell? ⟨q, 10, none⟩ = some (.int .i64 m.old) ∧ w'.cell? ⟨q, 11, none⟩ = some (.int .i64 m.exp) ∧ w'.cell? ⟨q, 12, none⟩ = some (.int .i64 m.new) ∧ w'.cell? ⟨q, 13, none⟩ = some (.int .i64 m.status))
          (exact cells14 (by (repeat (first | with_reducible exact Hm2.out | with_reducible refine drew_keep ?_ | ((with_reducible refine setR_keep HQL.out ?_ ?_); (first | exact BB.out.size | (simp; done) | omega | (simp; omega) | (have hsz := BA.out.size; simp; omega) | (have hsz := BA.out.size; omega))) | with_reducible refine alloc_keep ?_ | with_reducible refine wB28 WB.out ?_ | with_reducible refine wA28 WA.out ?_))))
          (first
            | (refine step_app0R (V := V2) rfl (.tmp 38) (.tmp 40) rfl _ rfl m.bA m.bs.length m.bc m.bs rfl rfl NM2r.out MA.out.1 MAl.out.1 ?_ ?_ ?_ ?_
               · (repeat (first | with_reducible exact Hm2.out | with_reducible refine drew_keep ?_ | (with_reducible refine alloc_at ?_; simp; done) | with_reducible refine alloc_keep ?_ | with_reducible refine wB28 WB.out ?_ | with_reducible refine wA28 WA.out ?_ | with_reducible refine wA41 WA.out ?_))
               · (repeat (with_reducible first | exact BB.out | exact BA.out | exact BD.out | refine bdrew ?_ | refine balloc ?_ _))
               · (first | (simp; done) | omega | (simp; omega) | (have hsz := BA.out.size; simp; omega) | (have hsz := BA.out.size; omega))
               intro A1 c1 wa OA WA BA)
            | (refine step_app0P (V := V2) rfl (.tmp 48) (.tmp 50) rfl _ rfl m.pA m.ps.length m.pc m.ps rfl rfl NM2p.out MA.out.2.1 MAl.out.2 ?_ ?_ ?_ ?_
               · (repeat (first | with_reducible exact Hm2.out | with_reducible refine drew_keep ?_ | (with_reducible refine alloc_at ?_; simp; done) | with_reducible refine alloc_keep ?_ | with_reducible refine wB28 WB.out ?_ | with_reducible refine wA28 WA.out ?_ | with_reducible refine wA41 WA.out ?_))
               · (repeat (with_reducible first | exact BB.out | exact BA.out | exact BD.out | refine bdrew ?_ | refine balloc ?_ _))
               · (first | (simp; done) | omega | (simp; omega) | (have hsz := BA.out.size; simp; omega) | (have hsz := BA.out.size; omega))
               intro A2 c2 wb OB WB BB
               have OAB : Hid (OwnR wb V2.heap.size (.slice A1 m.bs.length c1) m.bs) := Lib.hid (oB WB.out (by (repeat (first | with_reducible exact OA.out | with_reducible refine OwnR.alloc ?_ _))))
               have stL := run_storeNode (V := wb.alloc (.cells #[.int .i64 0, .int .i64 0, .int .i64 0, .int .u64 0, .slice none 0 0, .int .u64 0, .string ⟨#[]⟩, .int .u64 0, .slice none 0 0, .int .i64 0, .int .i64 0, .int .i64 0, .int .i64 0, .int .i64 0] 28)) (b := wb.heap.size) (cells := #[.int .i64 m.kind, .int .i64 m.gen, .int .i64 m.main, .int .u64 m.bm, .slice A1 m.bs.length c1, .int .u64 m.hash, .string m.key, .int .u64 m.val, .slice A2 m.ps.length c2, .int .i64 m.prev, .int .i64 m.old, .int .i64 m.exp, .int .i64 m.new, .int .i64 m.status]) (heap_alloc_new wb _) rfl rfl (by simp [Value.oneCell'])
               try (refine cutz (a := wb.heap[V2.heap.size]? = some (.cells #[.int .i64 0, .int .i64 0, .int .i64 0, .int .u64 0, .slice none 0 0, .int .u64 0, .string ⟨#[]⟩, .int .u64 0, .slice none 0 0, .int .i64 0, .int .i64 0, .int .i64 0, .int .i64 0, .int .i64 0] 28 (0, 0))) ?_ ?_
                    · ((repeat (first | with_reducible exact Hm2.out | with_reducible refine drew_keep ?_ | (with_reducible refine alloc_at ?_; simp; done) | with_reducible refine alloc_keep ?_ | with_reducible refine wB28 WB.out ?_ | with_reducible refine wA28 WA.out ?_ | with_reducible refine wA41 WA.out ?_)); done)
                    intro hz8
                    have HZ8 := Lib.hid hz8
                    have st8 := run_storeNode (cells := #[.int .i64 m.kind, .int .i64 m.gen, .int .i64 m.main, .int .u64 m.bm, .slice A1 m.bs.length c1, .int .u64 m.hash, .string m.key, .int .u64 m.val, .slice A2 m.ps.length c2, .int .i64 m.prev, .int .i64 m.old, .int .i64 m.exp, .int .i64 m.new, .int .i64 m.status]) hz8 rfl rfl (by simp [Value.oneCell'])
                    clear hz8)
               try (refine cutz (a := wb.heap[V2.heap.size + 1]? = some (.cells #[.int .i64 0, .int .i64 0, .int .i64 0, .int .u64 0, .slice none 0 0, .int .u64 0, .string ⟨#[]⟩, .int .u64 0, .slice none 0 0, .int .i64 0, .int .i64 0, .int .i64 0, .int .i64 0, .int .i64 0] 28 (0, 0))) ?_ ?_
                    · ((repeat (first | with_reducible exact Hm2.out | with_reducible refine drew_keep ?_ | (with_reducible refine alloc_at ?_; simp; done) | with_reducible refine alloc_keep ?_ | with_reducible refine wB28 WB.out ?_ | with_reducible refine wA28 WA.out ?_ | with_reducible refine wA41 WA.out ?_)); done)
                    intro hz8
                    have HZ8 := Lib.hid hz8
                    have st8 := run_storeNode (cells := #[.int .i64 m.kind, .int .i64 m.gen, .int .i64 m.main, .int .u64 m.bm, .slice A1 m.bs.length c1, .int .u64 m.hash, .string m.key, .int .u64 m.val, .slice A2 m.ps.length c2, .int .i64 m.prev, .int .i64 m.old, .int .i64 m.exp, .int .i64 m.new, .int .i64 m.status]) hz8 rfl rfl (by simp [Value.oneCell'])
                    clear hz8)
               try (refine cutz (a := wb.heap[V2.heap.size + 1 + 1]? = some (.cells #[.int .i64 0, .int .i64 0, .int .i64 0, .int .u64 0, .slice none 0 0, .int .u64 0, .string ⟨#[]⟩, .int .u64 0, .slice none 0 0, .int .i64 0, .int .i64 0, .int .i64 0, .int .i64 0, .int .i64 0] 28 (0, 0))) ?_ ?_
                    · ((repeat (first | with_reducible exact Hm2.out | with_reducible refine drew_keep ?_ | (with_reducible refine alloc_at ?_; simp; done) | with_reducible refine alloc_keep ?_ | with_reducible refine wB28 WB.out ?_ | with_reducible refine wA28 WA.out ?_ | with_reducible refine wA41 WA.out ?_)); done)
                    intro hz8
                    have HZ8 := Lib.hid hz8
                    have st8 := run_storeNode (cells := #[.int .i64 m.kind, .int .i64 m.gen, .int .i64 m.main, .int .u64 m.bm, .slice A1 m.bs.length c1, .int .u64 m.hash, .string m.key, .int .u64 m.val, .slice A2 m.ps.length c2, .int .i64 m.prev, .int .i64 m.old, .int .i64 m.exp, .int .i64 m.new, .int .i64 m.status]) hz8 rfl rfl (by simp [Value.oneCell'])
                    clear hz8)
               try (refine cutz (a := wb.heap[wa.heap.size]? = some (.cells #[.int .i64 0, .int .i64 0, .int .i64 0, .int .u64 0, .slice none 0 0, .int .u64 0, .string ⟨#[]⟩, .int .u64 0, .slice none 0 0, .int .i64 0, .int .i64 0, .int .i64 0, .int .i64 0, .int .i64 0] 28 (0, 0))) ?_ ?_
                    · ((repeat (first | with_reducible exact Hm2.out | with_reducible refine drew_keep ?_ | (with_reducible refine alloc_at ?_; simp; done) | with_reducible refine alloc_keep ?_ | with_reducible refine wB28 WB.out ?_ | with_reducible refine wA28 WA.out ?_ | with_reducible refine wA41 WA.out ?_)); done)
                    intro hz8
                    have HZ8 := Lib.hid hz8
                    have st8 := run_storeNode (cells := #[.int .i64 m.kind, .int .i64 m.gen, .int .i64 m.main, .int .u64 m.bm, .slice A1 m.bs.length c1, .int .u64 m.hash, .string m.key, .int .u64 m.val, .slice A2 m.ps.length c2, .int .i64 m.prev, .int .i64 m.old, .int .i64 m.exp, .int .i64 m.new, .int .i64 m.status]) hz8 rfl rfl (by simp [Value.oneCell'])
                    clear hz8)
               try (refine cutz (a := wb.heap[wa.heap.size + 1]? = some (.cells #[.int .i64 0, .int .i64 0, .int .i64 0, .int .u64 0, .slice none 0 0, .int .u64 0, .string ⟨#[]⟩, .int .u64 0, .slice none 0 0, .int .i64 0, .int .i64 0, .int .i64 0, .int .i64 0, .int .i64 0] 28 (0, 0))) ?_ ?_
                    · ((repeat (first | with_reducible exact Hm2.out | with_reducible refine drew_keep ?_ | (with_reducible refine alloc_at ?_; simp; done) | with_reducible refine alloc_keep ?_ | with_reducible refine wB28 WB.out ?_ | with_reducible refine wA28 WA.out ?_ | with_reducible refine wA41 WA.out ?_)); done)
                    intro hz8
                    have HZ8 := Lib.hid hz8
                    have st8 := run_storeNode (cells := #[.int .i64 m.kind, .int .i64 m.gen, .int .i64 m.main, .int .u64 m.bm, .slice A1 m.bs.length c1, .int .u64 m.hash, .string m.key, .int .u64 m.val, .slice A2 m.ps.length c2, .int .i64 m.prev, .int .i64 m.old, .int .i64 m.exp, .int .i64 m.new, .int .i64 m.status]) hz8 rfl rfl (by simp [Value.oneCell'])
                    clear hz8)))
        all_goals
          go_wp2_with fail
          go_meet
          first
            | exact cutF1 OAB.out OB.out BB.out
            | exact cutF2 HZ8.out OAB.out OB.out BB.out (by first | (simp; done) | omega | (simp; omega) | (have hsz := BA.out.size; simp; omega) | (have hsz := BA.out.size; omega))
      case rest =>
        obtain ⟨q8, A8, c8, P8, d8, rfl, hz, hA8, hP8, hbx⟩ := hcut
        obtain ⟨z, hzd⟩ : ∃ z : Nd, z = { m with bA := A8, bc := c8, pA := P8, pc := d8 } := ⟨_, rfl⟩
        rw [← hzd] at hz
        have ZE := Lib.hid hzd
        have HZ := Lib.hid hz
        have XA := Lib.hid hA8
        have XP := Lib.hid hP8
        have HX := Lib.hid hbx
        have NY := Lib.hid (show NRd V2 V2.heap.size y by rw [YE.out]; exact ⟨OR.out.rdX.rdR, OP.out.rdX.rd, NM2.out.bm, NM2.out.bl, NM2.out.pl⟩)
        have RW := Lib.hid (show RowR V.heap.size V2.heap.size V2 (.slice y.bA y.bs.length y.bc) by rw [YE.out]; exact OR.out.rowR (by have := MAl.out.1; omega))
        have RV := Lib.hid (show RowP V.heap.size V2.heap.size V2 (.slice y.pA y.ps.length y.pc) by rw [YE.out]; exact OP.out.rowP (by have := MAl.out.2; omega))
        have YS := Lib.hid (show eqN m y = true by rw [YE.out]; simp [eqN])
        have ZS := Lib.hid (show eqN m z = true by rw [ZE.out]; simp [eqN])
        have NMV := Lib.hid (NM2.out.more HV2.out.size)
        have Hmx := Lib.hid ((HX.out.block q (Array.getElem?_eq_some_iff.1 Hm2.out).1).trans Hm2.out)
        have Hyx := Lib.hid ((HX.out.block q7 (Array.getElem?_eq_some_iff.1 HY.out).1).trans HY.out)
        have lm := run_loadNode Hmx.out
        have ly := run_loadNode Hyx.out
        clear hzd hz hA8 hP8 hbx YE OR OP NM2r NM2p
        go_wp2_with fail
        refine (requal_at m y true YS.out wc (NMV.out.up HX.out) (NY.out.up HX.out)).mono ?_
        rintro e w7 ⟨rfl, hb7⟩
        have H7 := Lib.hid hb7
        have Hm7 := Lib.hid ((hb7.block q (Array.getElem?_eq_some_iff.1 Hmx.out).1).trans Hmx.out)
        have m8 := node_cellA Hm7.out (i := 8) (v := .slice m.pA m.ps.length m.pc) rfl
        clear hb7 lm ly
        go_wp2_with fail
        refine (list_up 1 m.pA m.pc m.ps w7 ((NMV.out.up HX.out).up H7.out).p MA.out.2.1 MAl.out.2).mono ?_
        rintro e u9 ⟨l, rfl, RL0, hb9⟩
        go_upto_region 10 with ((refine wpList_store_row rfl 28 (.tmp 9) (.tmp 69) rfl u9.heap.size l.cs rfl rfl 28 #[.int .i64 0, .int .i64 0, .int .i64 0, .int .u64 0, .slice none 0 0, .int .u64 0, .string ⟨#[]⟩, .int .u64 0, .slice none 0 0, .int .i64 0, .int .i64 0, .int .i64 0, .int .i64 0, .int .i64 0] (heap_alloc_new u9 _) nodeSize rfl (cs_all l) ?_))
        rw [World.setRow_alloc_new]
        obtain ⟨q9, hq9⟩ : ∃ q9, q9 = u9.heap.size := ⟨_, rfl⟩
        obtain ⟨V3, hV3⟩ : ∃ V3, V3 = u9.alloc (.cells l.cs 28) := ⟨_, rfl⟩
        rw [← hV3, ← hq9]
        have hbu9 : Below u9.heap.size u9 V3 := by rw [hV3]; exact (Below.refl _ _).alloc (Nat.le_refl _) _
        have HL := Lib.hid (show V3.heap[q9]? = some (.cells l.cs 28 (0, 0)) by rw [hV3, hq9]; exact heap_alloc_new u9 _)
        have H73 := Lib.hid (show Below w7.heap.size w7 V3 from hb9.trans (hbu9.mono hb9.size))
        have RL := Lib.hid (show RowP w7.heap.size V3.heap.size V3 (.slice l.pA l.ps.length l.pc) from RowP.more (RowP.keep RL0 fun k cs h1 h2 hk => hbu9.block k (Array.getElem?_eq_some_iff.1 hk).1) hbu9.size)
        have H23 := Lib.hid (show Below V2.heap.size V2 V3 from (HX.out.trans (H7.out.mono HX.out.size)).trans (H73.out.mono (Nat.le_trans HX.out.size H7.out.size)))
        have HX3 := Lib.hid (show Below wc.heap.size wc V3 from H7.out.trans (H73.out.mono H7.out.size))
        have m3 := Lib.hid ((H23.out.block q (Array.getElem?_eq_some_iff.1 Hm2.out).1).trans Hm2.out)
        have y3 := Lib.hid ((H23.out.block q7 (Array.getElem?_eq_some_iff.1 HY.out).1).trans HY.out)
        have z3 := Lib.hid ((HX3.out.block q8 (Array.getElem?_eq_some_iff.1 HZ.out).1).trans HZ.out)
        have RW := Lib.hid (show RowR V.heap.size V2.heap.size V3 (.slice y.bA y.bs.length y.bc) from RowR.keep RW.out fun k cs h1 h2 hk => H23.out.block k h2)
        have RV := Lib.hid (show RowP V.heap.size V2.heap.size V3 (.slice y.pA y.ps.length y.pc) from RowP.keep RV.out fun k cs h1 h2 hk => H23.out.block k h2)
        have NM3 := Lib.hid (show NRd V3 V.heap.size m from NM2.out.below (H23.out.mono HV2.out.size))
        have XA3 := Lib.hid (show RdX V3 V2.heap.size wc.heap.size z.bA (flatR m.bs) by rw [ZE.out]; exact XA.out.keep fun k h1 h2 => HX3.out.block k h2)
        have XP3 := Lib.hid (show RdX V3 V2.heap.size wc.heap.size z.pA (flat m.ps) by rw [ZE.out]; exact XP.out.keep fun k h1 h2 => HX3.out.block k h2)
        have s23 := Lib.hid (show V.heap.size ≤ V2.heap.size ∧ V2.heap.size ≤ wc.heap.size ∧ wc.heap.size ≤ w7.heap.size ∧ w7.heap.size ≤ V3.heap.size from ⟨HV2.out.size, HX.out.size, H7.out.size, H73.out.size⟩)
        have y4 := node_cellA y3.out (i := 4) (v := .slice y.bA y.bs.length y.bc) rfl
        clear hV3 hq9 hbu9 hb9 RL0 m8 Hm7 Hmx Hyx
        go_wp2_with fail
        refine (wipeR_any (.slice y.bA y.bs.length y.bc) 99 V.heap.size V2.heap.size V3 RW.out).mono ?_
        rintro e w10 ⟨rfl, hw1⟩
        have W1 := Lib.hid hw1
        have y10 := Lib.hid (Wiped.keep hw1 y3.out (by decide))
        have y8 := node_cellA y10.out (i := 8) (v := .slice y.pA y.ps.length y.pc) rfl
        have RV := Lib.hid (show RowP V.heap.size V2.heap.size w10 (.slice y.pA y.ps.length y.pc) from RowP.keep RV.out fun k cs h1 h2 hk => W1.out.other hk (by decide))
        clear hw1 y4
        go_wp2_with fail
        refine (wipeP_any (.slice y.pA y.ps.length y.pc) (⟨#[119, 105, 112, 101, 100]⟩, 0) V.heap.size V2.heap.size w10 RV.out).mono ?_
        rintro e w11 ⟨rfl, hw2⟩
        have W2 := Lib.hid hw2
        have l11 := Lib.hid (Wiped.keep hw2 (Wiped.keep W1.out HL.out (by decide)) (by decide))
        have l8 := node_cellA l11.out (i := 8) (v := .slice l.pA l.ps.length l.pc) rfl
        have sz := Lib.hid (show V3.heap.size ≤ w10.heap.size ∧ w10.heap.size ≤ w11.heap.size from ⟨W1.out.size, W2.out.size⟩)
        have RL := Lib.hid (show RowP w7.heap.size V3.heap.size w11 (.slice l.pA l.ps.length l.pc) from RowP.keep (RowP.keep RL.out fun k cs h1 h2 hk => W1.out.other hk (by decide)) fun k cs h1 h2 hk => W2.out.block (Nat.lt_of_lt_of_le h2 sz.out.1) (.inr (by have := s23.out; omega)))
        clear hw2 y8
        go_wp2_with fail
        refine (wipeP_any (.slice l.pA l.ps.length l.pc) (⟨#[119, 105, 112, 101, 100]⟩, 0) w7.heap.size V3.heap.size w11 RL.out).mono ?_
        rintro e w12 ⟨rfl, hw3⟩
        have W3 := Lib.hid hw3
        have lm := run_loadNode (Wiped.keep hw3 (Wiped.keep W2.out (Wiped.keep W1.out m3.out (by decide)) (by decide)) (by decide))
        have lz := run_loadNode (Wiped.keep hw3 (Wiped.keep W2.out (Wiped.keep W1.out z3.out (by decide)) (by decide)) (by decide))
        have sw := Lib.hid (show w11.heap.size ≤ w12.heap.size from hw3.size)
        have keepX : ∀ k, V2.heap.size ≤ k → k < wc.heap.size → w12.heap[k]? = V3.heap[k]? := fun k h1 h2 =>
          ((W3.out.block (by have := s23.out; have := sz.out; omega) (.inl (by have := s23.out; omega))).trans (W2.out.block (by have := s23.out; have := sz.out; omega) (.inr h1))).trans (W1.out.block (by have := s23.out; omega) (.inr h1))
        have keepM : Below V.heap.size V3 w12 := ((W1.out.below (by have := s23.out; omega)).trans (W2.out.below (by have := s23.out; have := sz.out; omega))).trans ((W3.out.below (by have := s23.out; have := sz.out; omega)).mono (by have := s23.out; omega))
        have NMW := Lib.hid (show NRd w12 w12.heap.size m from (NM3.out.below keepM).more (by have := s23.out; have := sz.out; have := sw.out; omega))
        have NZW := Lib.hid (show NRd w12 w12.heap.size z from by
          have h1 := ((XA3.out.keep keepX).rdR).more (B' := w12.heap.size) (by have := s23.out; have := sz.out; have := sw.out; omega)
          have h2 := ((XP3.out.keep keepX).rd).more (B' := w12.heap.size) (by have := s23.out; have := sz.out; have := sw.out; omega)
          have e1 : z.bs = m.bs := by rw [ZE.out]
          have e2 : z.ps = m.ps := by rw [ZE.out]
          have e3 : z.bm = m.bm := by rw [ZE.out]
          exact ⟨by rw [e1]; exact h1, by rw [e2]; exact h2, by rw [e3]; exact NM3.out.bm, by rw [e1]; exact NM3.out.bl, by rw [e2]; exact NM3.out.pl⟩)
        have KM := Lib.hid keepM
        clear hw3 l8 keepX keepM
        go_wp2_with fail
        refine (requal_at m z true ZS.out w12 NMW.out NZW.out).mono ?_
        rintro e w13 ⟨rfl, hb13⟩
        have KF := Lib.hid (show Below U.heap.size U w13 from by
          have a1 : Below V.heap.size V V3 := HV2.out.trans (H23.out.mono HV2.out.size)
          have a2 : Below V.heap.size V w12 := a1.trans KM.out
          have a3 : Below V.heap.size V w13 := a2.trans (hb13.mono (by have := a2.size; exact this))
          exact HbV.out.trans (a3.mono HbV.out.size))
        clear hb13 lm lz
        go_wp2
        go_roundg (2 - (i + 1))
        case measure => omega
        case rel => exact ⟨i + 1, by go_num, by omega, Nat.le_refl _, KF.out⟩
    · obtain rfl : i = 2 := by omega
      have HB := Lib.hid (HB.out.trans (K0.out.mono HB.out.size))
      clear K0
      go_wp2_with fail
      refine (awake_any wr).mono ?_
      rintro e w1 ⟨rfl, hb⟩
      have HB := Lib.hid (HB.out.trans (hb.mono HB.out.size))
      clear hb
      go_wp2
      go_ret
      exact ⟨rfl, HB.out⟩

/-! ### THE ROW's STEP -/
set_option maxRecDepth 100000 in
theorem lifted (os : Os) (started : os.Started) (H : Type) (enc : TypeId × Value → H) :
    ReturnsInHanded {} Try.checked os 5 .any (Rows.nodeClonesSpec.pre6 enc Try.prog Try.f5 Rows.nodeClonesRow.domain false) (Rows.nodeClonesSpec.post enc Try.prog Try.f5 false true false false) := by
  refine returnsInHanded_of_change (C := Try.checked) own started (by kernel_rfl) Try.func5
    (ChangeSpec.witness6 (enc := enc) (C := Try.checked) false ⟨#[], #[.agg #[.int .i64 0, .int .i64 0, .int .i64 0, .int .u64 0, .slice none 0 0, .int .u64 0, .string ByteArray.empty, .int .u64 0, .slice none 0 0, .int .i64 0, .int .i64 0, .int .i64 0, .int .i64 0, .int .i64 0], .slice none 0 0], []⟩ 8 (by kernel_rfl) (by kernel_rfl) (by kernel_rfl) (by kernel_rfl)) ?_
  intro W base args ds gs before hval0 hW hcnd _
  have hval : ∀ (j : Nat) t v, Try.f5.params[j]? = some t → args[j]? = some v → Value.okWide Try.prog W .any base t v := hval0
  have hW' := hW
  obtain ⟨p, q, hA0, hV, rfl, hfz, hnd⟩ := hW
  have hA : DataW.TrodAll enc Try.prog W 0 (fun _ => true) true Try.f5.params.toList args.toList ds p := hA0
  rw [Try.params5] at hA hval
  obtain ⟨v0, vs0, d0, ds0, p0, q0, hargs, rfl, rfl, h0, r0⟩ := trodAll_cons hA
  obtain ⟨v1, vs1, d1, ds1, p1, q1, rfl, rfl, rfl, h1, r1⟩ := trodAll_cons r0
  obtain ⟨rfl, rfl, rfl⟩ := trodAll_nil r1
  obtain rfl : args = #[v0, v1] := by cases args; simp_all
  obtain ⟨rfl, rfl⟩ := trodVars_none hV
  have k0 := h0
  have lt0 : ∀ x ∈ p0, x.block < W.heap.size := by obtain ⟨m, hm⟩ := k0; exact DataW.trod_lt m _ _ _ hm
  obtain ⟨n0, rfl, w0⟩ := open_node (hval 0 28 v0 rfl rfl) h0
  obtain ⟨a1, len1, cap1, rfl⟩ := okWide_slice Try.underlying29 (hval 1 29 v1 rfl rfl)
  have k1 := h1
  have lt1 : ∀ x ∈ p1, x.block < W.heap.size := by obtain ⟨m, hm⟩ := k1; exact DataW.trod_lt m _ _ _ hm
  have w1 := open_intsT h1
  clear hA0 hval0
  refine (walk n0 a1 len1 cap1 W w0 w1).mono fun e W' ⟨he, bel⟩ => ?_
  subst he
  exact ⟨_, rfl, _, _, _, [], _, [], hW', trodAll_mk1 (shut_bool Try.underlying4 _), (trodAll_cons_mk (Below.trod laidOut (by kernel_rfl) (of_decide_eq_true (by kernel_rfl)) k0 bel lt0) (trodAll_cons_mk (Below.trod laidOut (by kernel_rfl) (of_decide_eq_true (by kernel_rfl)) k1 bel lt1) trodAll_mk0)), rfl, bel.frame _, fun h => by cases h⟩

theorem over : Rows.nodeClonesRow.holds Try.pinned (OpenSpec.ofChange Rows.nodeClonesSpec) :=
  OpenClaim.holds_of_wide 5 Try.f5 rfl rfl rfl rfl rfl rfl rfl ⟨rfl, rfl, rfl, rfl, rfl⟩ rfl rfl rfl rfl rfl (by kernel_rfl) Try.func5 (by kernel_rfl)
    (of_decide_eq_true (by kernel_rfl)) (by unfold Func.isWrapper; first | (rw [if_pos (by decide +kernel)]; kernel_rfl) | (rw [if_neg (by decide +kernel)]; exact ⟨rfl, rfl⟩))
    (fun os started H enc _ => lifted os started H enc)

/-- ████ THE STATEMENT ████ -/
theorem proved : Rows.NodeClonesSaid := over
#print axioms proved
end Go.Proofs.Ytojcdnjnhejlmaa.nodeClones
