/- For every input the Go function ArenaNodes of package ctrielaw05 returns true, and each argument reads afterwards as it read before. Conditions: none but those that every row of the form bears by itself. The frame follows the guide's proof-skeleton; the walk is ours. -/
import Derived.Test.YtcmnmimkjkpimaaRows
import Derived.WalkKit
import Derived.ProofKit
import Derived.OpenShut
import Derived.ShutString
import Derived.ChangeOld
import Derived.Below
import Derived.Test.YtcmnmimkjkpimaaFrame
import Derived.Test.YtcmnmimkjkpimaaArBB
import Derived.Lib.Hide
import Derived.Deep.RegionHeld3
import Derived.Deep.DeepCutAuto
namespace Go.Proofs.Ytcmnmimkjkpimaa.arenaNodes
open Go.Lib
open Go.ChangeShapes Go.WideShapes Go.ChangeAt Go.RowKit
open Go.ChangeMaps (open_string shut_string)
set_option linter.unusedVariables false

theorem own : ownKnob Try.prog.godebug = none := by kernel_rfl
theorem laidOut : laidOutB Try.prog = true := by kernel_rfl
open Go.Sort
set_option maxRecDepth 100000
attribute [local go_sem ↓] exec_load28 exec_store44 exec_load46
attribute [local go_sem] run_storeNode_new
theorem own_parts {w : World} {base : Nat} {A : Option Addr} {k c : Nat} {xs : List Int} (h : OwnR w base (.slice A k c) xs) : RdR w w.heap.size A xs ∧ (A = none → c = 0) := by
  obtain ⟨A', c', e, hr, ha, _⟩ := h.open2
  injection e with e1 e2 e3
  subst e1 e3
  exact ⟨hr, ha⟩
theorem own_partsP {w : World} {base : Nat} {A : Option Addr} {k c : Nat} {xs : List Pr} (h : Own w base (.slice A k c) xs) : Rd w w.heap.size A xs ∧ (A = none → c = 0) := by
  obtain ⟨A', c', e, hr, ha, _⟩ := h.open2
  injection e with e1 e2 e3
  subst e1 e3
  exact ⟨hr, ha⟩
theorem ownN_row {w : World} {base : Nat} {A : Option Addr} {c : Nat} {zs : List Nd} (h : OwnN w base (.slice A zs.length c) zs) (hp : 0 < zs.length) : ∃ g, A = some ⟨g, 0, none⟩ ∧ base ≤ g ∧ g < w.heap.size ∧ RowC w g 44 (zs.length * 14) := by
  rcases h.2 with ⟨hv, hn⟩ | ⟨g, cap, cur, hv, hb, hg, hnc, hcm, hcs, ht⟩
  · omega
  · injection hv with e1 e2 e3
    exact ⟨g, e1, hb, (Array.getElem?_eq_some_iff.1 hg).1, cur, hg, by rw [hcs]; exact Nat.mul_le_mul_right 14 hnc⟩
theorem run_field0 (y : Nd) (w : World) : (Instr.field 44 (.agg y.cs) 0).run Try.prog w = .ok (.int .i64 y.kind) w := by
  have : ∀ (a b c d e f g h i j k l m n : Value), (Instr.field 44 (.agg #[a, b, c, d, e, f, g, h, i, j, k, l, m, n]) 0).run Try.prog w = .ok a w := fun a b c d e f g h i j k l m n => by kernel_rfl
  exact this _ _ _ _ _ _ _ _ _ _ _ _ _ _
attribute [local go_sem] run_field0
/-- What is kept of a node through Alloc, Node and the last stores. -/
theorem nrd_set {w w' : World} {b : Nat} {n : Nd} (h : NRd w w.heap.size n) (hA : ∀ ad, 0 < n.bs.length → n.bA = some ad → ad.block ≠ b) (hP : ∀ ad, 0 < n.ps.length → n.pA = some ad → ad.block ≠ b) (hk : ∀ k, k ≠ b → w'.heap[k]? = w.heap[k]?) (hs : w.heap.size ≤ w'.heap.size) : NRd w' w'.heap.size n := by
  refine ⟨fun hn => ?_, fun hn => ?_, h.bm, h.bl, h.pl⟩
  · obtain ⟨ad, e, hb, hc⟩ := h.r hn
    exact ⟨ad, e, by omega, fun j u hj => (World.cell?_of_block (by rw [block_add]; exact hk _ (hA ad hn e))).trans (hc j u hj)⟩
  · obtain ⟨ad, e, hb, hc⟩ := h.p hn
    exact ⟨ad, e, by omega, fun j u hj => (World.cell?_of_block (by rw [block_add]; exact hk _ (hP ad hn e))).trans (hc j u hj)⟩
theorem set3 {r : World} {bf : Nat} {y : Nd} (h : r.heap[bf]? = some (.cells y.cs 44 (0, 0))) :
    (∀ k, k ≠ bf → (((r.setCell ⟨bf, 2, none⟩ (.int .i64 0)).setCell ⟨bf, 9, none⟩ (.int .i64 0)).setCell ⟨bf, 13, none⟩ (.int .i64 0)).heap[k]? = r.heap[k]?) ∧
    (((r.setCell ⟨bf, 2, none⟩ (.int .i64 0)).setCell ⟨bf, 9, none⟩ (.int .i64 0)).setCell ⟨bf, 13, none⟩ (.int .i64 0)).heap[bf]? = some (.cells (Nd.cs { y with main := 0, prev := 0, status := 0 }) 44 (0, 0)) ∧
    r.heap.size ≤ (((r.setCell ⟨bf, 2, none⟩ (.int .i64 0)).setCell ⟨bf, 9, none⟩ (.int .i64 0)).setCell ⟨bf, 13, none⟩ (.int .i64 0)).heap.size ∧
    Fr (fun k => k = bf) r (((r.setCell ⟨bf, 2, none⟩ (.int .i64 0)).setCell ⟨bf, 9, none⟩ (.int .i64 0)).setCell ⟨bf, 13, none⟩ (.int .i64 0)) :=
  ⟨fun k hk => (RowKit.Below.heap_setCell _ ⟨bf, 13, none⟩ _ k hk).trans ((RowKit.Below.heap_setCell _ ⟨bf, 9, none⟩ _ k hk).trans (RowKit.Below.heap_setCell _ ⟨bf, 2, none⟩ _ k hk)),
   set_field (set_field (set_field h 2 _) 9 _) 13 _, by simp,
   (((Fr.refl (fun k => k = bf) r).setCell (p := ⟨bf, 2, none⟩) (Or.inl rfl) _).setCell (p := ⟨bf, 9, none⟩) (Or.inl rfl) _).setCell (p := ⟨bf, 13, none⟩) (Or.inl rfl) _⟩
theorem first_rd {r r5 : World} {bf : Nat} {y : Nd} (h : NRd r r.heap.size y) (hA : ∀ ad, 0 < y.bs.length → y.bA = some ad → ad.block < bf) (hP : ∀ ad, 0 < y.ps.length → y.pA = some ad → ad.block < bf) (hk : ∀ k, k ≠ bf → r5.heap[k]? = r.heap[k]?) (hs : r.heap.size ≤ r5.heap.size) :
    NRd r5 r5.heap.size { y with main := 0, prev := 0, status := 0 } := by
  have := nrd_set h (b := bf) (fun ad hn e => Nat.ne_of_lt (hA ad hn e)) (fun ad hn e => Nat.ne_of_lt (hP ad hn e)) hk hs
  exact ⟨this.r, this.p, this.bm, this.bl, this.pl⟩
theorem first_eq {n m z y : Nd} {A P : Option Addr} {c d : Nat} {v : Int} (hm : m = { n with main := 0, prev := 0, status := 0, bA := A, bc := c, pA := P, pc := d }) (hz : sameN (alN m v) z) (hy : sameN z y) (h1 : n.main = 0) (h2 : n.prev = 0) (h3 : n.status = 0) : eqN { y with main := 0, prev := 0, status := 0 } n = true := by
  obtain ⟨_, _, _, _, rfl⟩ := hy
  obtain ⟨_, _, _, _, rfl⟩ := hz
  subst hm
  simp [eqN, alN, h1, h2, h3]
theorem kind_eq {n m z y : Nd} {A P : Option Addr} {c d : Nat} {v : Int} (hm : m = { n with main := 0, prev := 0, status := 0, bA := A, bc := c, pA := P, pc := d }) (hz : sameN (alN m v) z) (hy : sameN z y) : y.kind = n.kind := by
  obtain ⟨_, _, _, _, rfl⟩ := hy
  obtain ⟨_, _, _, _, rfl⟩ := hz
  subst hm
  rfl
theorem same_eq {z a b : Nd} (h : sameN z a) (k : sameN z b) : eqN a b = true := by
  obtain ⟨_, _, _, _, rfl⟩ := h
  obtain ⟨_, _, _, _, rfl⟩ := k
  simp [eqN]

/-! ### STEP 1: THE WALK -/
set_option maxRecDepth 100000 in
set_option maxHeartbeats 16000000 in
theorem walk (a0 : Option Addr) (len0 cap0 : Nat) (a1 : Option Addr) (len1 cap1 : Nat) (w : World) (w0 : IsInts w a0 len0) (w1 : IsSteps w a1 len1) :
    Calls Try.prog 5 #[.slice a0 len0 cap0, .slice a1 len1 cap1] w fun e w' => e = .returned (.bool true) ∧ Below w.heap.size w w' := by
  have mixed := mixedOrders
  have NW := Lib.hid (new_c a0 len0 cap0 w w0.1 w0.2)
  have W1 := Lib.hid w1
  clear w0 w1
  go_enter Try.func5, Try.ntmps5
  go_upto_region 6 with (first
    | (go_at_call 8; refine NW.out.mono ?_; rintro e u1 ⟨rfl, hT, hb⟩; have B1 := Lib.hid hb; have MM := Lib.hid (mem_t w.heap.size u1 hT); have TL := Lib.hid hT.lt; clear hT hb)
    | (go_at_call 9; refine MM.out.mono ?_; rintro e u2 ⟨qm, sm, rfl, hob, hgs, hn9, hc9, hg, hT⟩; have B2 := Lib.hid (B1.out.trans (below_of_grown (B := w.heap.size) hg (Nat.le_refl _) B1.out.size)); have OM := Lib.hid hob; have GS2 := Lib.hid hgs; have L2 := Lib.hid (⟨hn9, hc9⟩ : _ ∧ _); have T2 := Lib.hid hT; have OF := Lib.hid (show Calls Try.prog 10 #[.agg #[.slice sm.nA sm.ns.length sm.nc, .slice sm.cA sm.cs.length sm.cc, .int .i64 sm.gen]] u2 _ from of_f sm u2.heap.size u2 hob.srd (Nat.le_refl _) hgs.proper); have d0 := block_cell hob.blk (i := 0) (v := .slice sm.nA sm.ns.length sm.nc) rfl; have d1 := block_cell hob.blk (i := 1) (v := .slice sm.cA sm.cs.length sm.cc) rfl; have d2 := block_cell hob.blk (i := 2) (v := .int .i64 sm.gen) rfl; clear hob hgs hn9 hc9 hg hT)
    | (go_at_call 10; refine OF.out.mono ?_; rintro e u3 ⟨qa, sa, rfl, hsl, hcs, hgn, hob, hfr, hb⟩; have B3 := Lib.hid (B2.out.trans (hb.mono B2.out.size)); have O3 := Lib.hid hob; have F3 := Lib.hid hfr; have K3 := Lib.hid (⟨hsl, hcs, hgn, hb⟩ : _ ∧ _ ∧ _ ∧ _); have OM3 := Lib.hid (OM.out.up hb); have T3 := Lib.hid (T2.out.below hb T2.out.lt); have e0 := block_cell OM3.out.blk (i := 0) (v := .slice sm.nA sm.ns.length sm.nc) rfl; clear hob hfr hsl hcs hgn hb))
  have RF := Lib.hid (show 1 ≤ sm.ns.length ∧ sm.ns.length ≤ 100 from ⟨by
    obtain ⟨y, hy, _⟩ := GS2.out.m0
    have := (List.getElem?_eq_some_iff.1 hy).1
    omega, by have := L2.out.1; omega⟩)
  have ND := Lib.hid (node_any w.heap.size sm.ns.length u3 T3.out RF.out.1 RF.out.2)
  go_upto_region 7 with (go_at_call 26; refine ND.out.mono ?_; rintro e u4 ⟨n, rfl, gd, tp, gr, vn, fr⟩; have N4 := Lib.hid (⟨gd, vn, fr⟩ : _ ∧ _ ∧ _); have G4 := Lib.hid gr; clear gd tp gr vn fr)
  have TW := Lib.hid (show w.heap.size < u2.heap.size from T2.out.lt)
  have O4 := Lib.hid (O3.out.tape F3.out TW.out G4.out)
  have B4 := Lib.hid (B3.out.trans (below_of_grown (B := w.heap.size) G4.out (Nat.le_refl _) B3.out.size))
  obtain ⟨V, hV⟩ : ∃ X, X = u4.alloc (.cells n.cs 44) := ⟨_, rfl⟩
  have BV := Lib.hid (show RowKit.Below w.heap.size w V by rw [hV]; exact B4.out.alloc B4.out.size _)
  have OV := Lib.hid (show Ob V u2.heap.size 77 qa sa 0 by rw [hV]; exact O4.out.up ((RowKit.Below.refl _ u4).alloc (Nat.le_refl _) _))
  have HN := Lib.hid (show V.heap[u4.heap.size]? = some (.cells n.cs 44 (0, 0)) by rw [hV]; exact heap_alloc_new u4 _)
  have GNV := Lib.hid (show GoodN V n by rw [hV]; exact N4.out.1.fr (M := fun _ => False) ((Fr.refl _ u4).alloc _) (fun _ _ e => e) (fun _ _ e => e))
  rw [← hV]
  have U4 := Lib.hid (show u4.heap.size + 1 = V.heap.size by rw [hV]; simp)
  clear hV
  have VNN := Lib.hid N4.out.2.1
  have LEN := Lib.hid (show sa.ns.length = sm.ns.length ∧ sa.cs.length = sm.cs.length ∧ sa.gen = 3 from ⟨K3.out.1.1.symm, by rw [K3.out.2.1], K3.out.2.2.1.trans GS2.out.gen⟩)
  have FN := Lib.hid (⟨N4.out.2.2, G4.out.size⟩ : FRs u3.heap.size n ∧ u3.heap.size ≤ u4.heap.size)
  have MUA := Lib.hid (show ∀ k, Mu qa sa k → w.heap.size ≤ k ∧ k < u3.heap.size from fun k hk => ⟨by have := (O3.out.mu_lt hk).1; have := TW.out; omega, (O3.out.mu_lt hk).2⟩)
  have NSA := Lib.hid (show ∀ x ∈ sa.ns, (∀ ad, x.bA = some ad → ad.block < u3.heap.size) ∧ (∀ ad, x.pA = some ad → ad.block < u3.heap.size) from fun x hx => ⟨(O3.out.l x hx).lb, (O3.out.l x hx).lp⟩)
  clear NW MM OF ND d0 d1 d2 e0 B1 B2 B3 B4 OM OM3 T2 T3 O3 O4 F3 G4 N4 TL
  have L2N := Lib.hid (show sa.ns.length ≤ 9 ∧ sa.cs.length ≤ 9 by rw [LEN.out.1, LEN.out.2.1]; exact L2.out)
  have SN0 := Lib.hid (still_of HN.out FN.out.2 GNV.out.rd FN.out.1)
  generalize u4.heap.size = bn at HN U4 SN0 FN ⊢
  go_cut [10] (fun s10 wx => CutM V n s10 wx)
  case first =>
    have NR := Lib.hid (show RdR V V.heap.size n.bA n.bs from GNV.out.rd.r)
    have NP := Lib.hid (show Rd V V.heap.size n.pA n.ps from GNV.out.rd.p)
    have MAl := Lib.hid (show n.bs.length ≤ 1000 ∧ n.ps.length ≤ 1000 from ⟨GNV.out.rd.bl, GNV.out.rd.pl⟩)
    have BD := Lib.hid (RowKit.Below.refl V.heap.size V)
    have HQL := Lib.hid (Array.getElem?_eq_some_iff.1 HN.out).1
    go_region_held3 (fun w' => w'.cell? ⟨bn, 0, none⟩ = some (.int .i64 n.kind) ∧ w'.cell? ⟨bn, 1, none⟩ = some (.int .i64 n.gen) ∧ w'.cell? ⟨bn, 3, none⟩ = some (.int .u64 n.bm) ∧ w'.cell? ⟨bn, 4, none⟩ = some (.slice n.bA n.bs.length n.bc) ∧ w'.cell? ⟨bn, 5, none⟩ = some (.int .u64 n.hash) ∧ w'.cell? ⟨bn, 6, none⟩ = some (.string n.key) ∧ w'.cell? ⟨bn, 7, none⟩ = some (.int .u64 n.val) ∧ w'.cell? ⟨bn, 8, none⟩ = some (.slice n.pA n.ps.length n.pc) ∧ w'.cell? ⟨bn, 10, none⟩ = some (.int .i64 n.old) ∧ w'.cell? ⟨bn, 11, none⟩ = some (.int .i64 n.exp) ∧ w'.cell? ⟨bn, 12, none⟩ = some (.int .i64 n.new))
      (exact cells11 (by (repeat (first | with_reducible exact HN.out | with_reducible refine drew_keep ?_ | ((with_reducible refine setR_keep HQL.out ?_ ?_); (first | exact BB.out.size | (simp; done) | omega | (simp; omega) | (have hsz := BA.out.size; simp; omega) | (have hsz := BA.out.size; omega))) | with_reducible refine alloc_keep ?_ | with_reducible refine wB28 WB.out ?_ | with_reducible refine wA28 WA.out ?_))))
      (first
        | (refine step_app0R (V := V) rfl (.tmp 51) (.tmp 53) rfl _ rfl n.bA n.bs.length n.bc n.bs rfl rfl NR.out GNV.out.ba MAl.out.1 ?_ ?_ ?_ ?_
           · (repeat (first | with_reducible exact HN.out | with_reducible refine drew_keep ?_ | (with_reducible refine alloc_at ?_; simp; done) | with_reducible refine alloc_keep ?_ | with_reducible refine wB28 WB.out ?_ | with_reducible refine wA28 WA.out ?_ | with_reducible refine wA41 WA.out ?_))
           · (repeat (with_reducible first | exact BB.out | exact BA.out | exact BD.out | refine bdrew ?_ | refine balloc ?_ _))
           · (first | (simp; done) | omega | (simp; omega) | (have hsz := BA.out.size; simp; omega) | (have hsz := BA.out.size; omega))
           intro A1 c1 wa OA WA BA)
        | (refine step_app0P (V := V) rfl (.tmp 61) (.tmp 63) rfl _ rfl n.pA n.ps.length n.pc n.ps rfl rfl NP.out GNV.out.pa MAl.out.2 ?_ ?_ ?_ ?_
           · (repeat (first | with_reducible exact HN.out | with_reducible refine drew_keep ?_ | (with_reducible refine alloc_at ?_; simp; done) | with_reducible refine alloc_keep ?_ | with_reducible refine wB28 WB.out ?_ | with_reducible refine wA28 WA.out ?_ | with_reducible refine wA41 WA.out ?_))
           · (repeat (with_reducible first | exact BB.out | exact BA.out | exact BD.out | refine bdrew ?_ | refine balloc ?_ _))
           · (first | (simp; done) | omega | (simp; omega) | (have hsz := BA.out.size; simp; omega) | (have hsz := BA.out.size; omega))
           intro A2 c2 wb OB WB BB
           have OAB : Hid (OwnR wb V.heap.size (.slice A1 n.bs.length c1) n.bs) := Lib.hid (oB WB.out (by (repeat (first | with_reducible exact OA.out | with_reducible refine OwnR.alloc ?_ _))))
           have stL := run_storeC (V := wb.alloc (.cells #[.int .i64 0, .int .i64 0, .int .i64 0, .int .u64 0, .slice none 0 0, .int .u64 0, .string ⟨#[]⟩, .int .u64 0, .slice none 0 0, .int .i64 0, .int .i64 0, .int .i64 0, .int .i64 0, .int .i64 0] 44)) (b := wb.heap.size) (cells := #[.int .i64 n.kind, .int .i64 n.gen, .int .i64 0, .int .u64 n.bm, .slice A1 n.bs.length c1, .int .u64 n.hash, .string n.key, .int .u64 n.val, .slice A2 n.ps.length c2, .int .i64 0, .int .i64 n.old, .int .i64 n.exp, .int .i64 n.new, .int .i64 0]) (heap_alloc_new wb _) rfl rfl (by simp [Value.oneCell'])
           try (refine cutz (a := wb.heap[V.heap.size]? = some (.cells #[.int .i64 0, .int .i64 0, .int .i64 0, .int .u64 0, .slice none 0 0, .int .u64 0, .string ⟨#[]⟩, .int .u64 0, .slice none 0 0, .int .i64 0, .int .i64 0, .int .i64 0, .int .i64 0, .int .i64 0] 44 (0, 0))) ?_ ?_
                · ((repeat (first | with_reducible exact HN.out | with_reducible refine drew_keep ?_ | (with_reducible refine alloc_at ?_; simp; done) | with_reducible refine alloc_keep ?_ | with_reducible refine wB28 WB.out ?_ | with_reducible refine wA28 WA.out ?_ | with_reducible refine wA41 WA.out ?_)); done)
                intro hz8
                have HZ8 := Lib.hid hz8
                have st8 := run_storeC (cells := #[.int .i64 n.kind, .int .i64 n.gen, .int .i64 0, .int .u64 n.bm, .slice A1 n.bs.length c1, .int .u64 n.hash, .string n.key, .int .u64 n.val, .slice A2 n.ps.length c2, .int .i64 0, .int .i64 n.old, .int .i64 n.exp, .int .i64 n.new, .int .i64 0]) hz8 rfl rfl (by simp [Value.oneCell'])
                clear hz8)
           try (refine cutz (a := wb.heap[V.heap.size + 1]? = some (.cells #[.int .i64 0, .int .i64 0, .int .i64 0, .int .u64 0, .slice none 0 0, .int .u64 0, .string ⟨#[]⟩, .int .u64 0, .slice none 0 0, .int .i64 0, .int .i64 0, .int .i64 0, .int .i64 0, .int .i64 0] 44 (0, 0))) ?_ ?_
                · ((repeat (first | with_reducible exact HN.out | with_reducible refine drew_keep ?_ | (with_reducible refine alloc_at ?_; simp; done) | with_reducible refine alloc_keep ?_ | with_reducible refine wB28 WB.out ?_ | with_reducible refine wA28 WA.out ?_ | with_reducible refine wA41 WA.out ?_)); done)
                intro hz8
                have HZ8 := Lib.hid hz8
                have st8 := run_storeC (cells := #[.int .i64 n.kind, .int .i64 n.gen, .int .i64 0, .int .u64 n.bm, .slice A1 n.bs.length c1, .int .u64 n.hash, .string n.key, .int .u64 n.val, .slice A2 n.ps.length c2, .int .i64 0, .int .i64 n.old, .int .i64 n.exp, .int .i64 n.new, .int .i64 0]) hz8 rfl rfl (by simp [Value.oneCell'])
                clear hz8)
           try (refine cutz (a := wb.heap[V.heap.size + 1 + 1]? = some (.cells #[.int .i64 0, .int .i64 0, .int .i64 0, .int .u64 0, .slice none 0 0, .int .u64 0, .string ⟨#[]⟩, .int .u64 0, .slice none 0 0, .int .i64 0, .int .i64 0, .int .i64 0, .int .i64 0, .int .i64 0] 44 (0, 0))) ?_ ?_
                · ((repeat (first | with_reducible exact HN.out | with_reducible refine drew_keep ?_ | (with_reducible refine alloc_at ?_; simp; done) | with_reducible refine alloc_keep ?_ | with_reducible refine wB28 WB.out ?_ | with_reducible refine wA28 WA.out ?_ | with_reducible refine wA41 WA.out ?_)); done)
                intro hz8
                have HZ8 := Lib.hid hz8
                have st8 := run_storeC (cells := #[.int .i64 n.kind, .int .i64 n.gen, .int .i64 0, .int .u64 n.bm, .slice A1 n.bs.length c1, .int .u64 n.hash, .string n.key, .int .u64 n.val, .slice A2 n.ps.length c2, .int .i64 0, .int .i64 n.old, .int .i64 n.exp, .int .i64 n.new, .int .i64 0]) hz8 rfl rfl (by simp [Value.oneCell'])
                clear hz8)
           try (refine cutz (a := wb.heap[wa.heap.size]? = some (.cells #[.int .i64 0, .int .i64 0, .int .i64 0, .int .u64 0, .slice none 0 0, .int .u64 0, .string ⟨#[]⟩, .int .u64 0, .slice none 0 0, .int .i64 0, .int .i64 0, .int .i64 0, .int .i64 0, .int .i64 0] 44 (0, 0))) ?_ ?_
                · ((repeat (first | with_reducible exact HN.out | with_reducible refine drew_keep ?_ | (with_reducible refine alloc_at ?_; simp; done) | with_reducible refine alloc_keep ?_ | with_reducible refine wB28 WB.out ?_ | with_reducible refine wA28 WA.out ?_ | with_reducible refine wA41 WA.out ?_)); done)
                intro hz8
                have HZ8 := Lib.hid hz8
                have st8 := run_storeC (cells := #[.int .i64 n.kind, .int .i64 n.gen, .int .i64 0, .int .u64 n.bm, .slice A1 n.bs.length c1, .int .u64 n.hash, .string n.key, .int .u64 n.val, .slice A2 n.ps.length c2, .int .i64 0, .int .i64 n.old, .int .i64 n.exp, .int .i64 n.new, .int .i64 0]) hz8 rfl rfl (by simp [Value.oneCell'])
                clear hz8)
           try (refine cutz (a := wb.heap[wa.heap.size + 1]? = some (.cells #[.int .i64 0, .int .i64 0, .int .i64 0, .int .u64 0, .slice none 0 0, .int .u64 0, .string ⟨#[]⟩, .int .u64 0, .slice none 0 0, .int .i64 0, .int .i64 0, .int .i64 0, .int .i64 0, .int .i64 0] 44 (0, 0))) ?_ ?_
                · ((repeat (first | with_reducible exact HN.out | with_reducible refine drew_keep ?_ | (with_reducible refine alloc_at ?_; simp; done) | with_reducible refine alloc_keep ?_ | with_reducible refine wB28 WB.out ?_ | with_reducible refine wA28 WA.out ?_ | with_reducible refine wA41 WA.out ?_)); done)
                intro hz8
                have HZ8 := Lib.hid hz8
                have st8 := run_storeC (cells := #[.int .i64 n.kind, .int .i64 n.gen, .int .i64 0, .int .u64 n.bm, .slice A1 n.bs.length c1, .int .u64 n.hash, .string n.key, .int .u64 n.val, .slice A2 n.ps.length c2, .int .i64 0, .int .i64 n.old, .int .i64 n.exp, .int .i64 n.new, .int .i64 0]) hz8 rfl rfl (by simp [Value.oneCell'])
                clear hz8)))
    all_goals
      go_wp2_with fail
      go_meet
      first
        | exact cutM1 OAB.out OB.out BB.out
        | exact cutM2 HZ8.out OAB.out OB.out BB.out (by (first | (simp; done) | omega | (simp; omega) | (have hsz := BA.out.size; simp; omega) | (have hsz := BA.out.size; omega)))
  case rest =>
    obtain ⟨bm, A, c, P, d, rfl, C⟩ := hcut
    obtain ⟨m, hm⟩ : ∃ m : Nd, m = { n with main := 0, prev := 0, status := 0, bA := A, bc := c, pA := P, pc := d } := ⟨_, rfl⟩
    have HMD := Lib.hid hm
    have HM := Lib.hid (show wc.heap[bm]? = some (.cells m.cs 44 (0, 0)) by rw [hm]; exact C.out.2.1)
    have BC := Lib.hid C.out.2.2.2.2.2.2
    have OC := Lib.hid (show Ob wc 0 77 qa sa 0 from (OV.out.up BC.out).zero)
    have PA := Lib.hid (own_parts C.out.2.2.1)
    have PP := Lib.hid (own_partsP C.out.2.2.2.1)
    have AL := Lib.hid (aalloc_any 0 qa sa 0 m 0 wc OC.out (by rw [hm]; exact ⟨PA.out.1, PP.out.1, GNV.out.rd.bm, GNV.out.rd.bl, GNV.out.rd.pl⟩) (by rw [hm]; exact PA.out.2) (by rw [hm]; exact PP.out.2) (by have := L2N.out.1; omega) (by have := L2N.out.2; omega))
    clear hm
    have lm := run_loadNode HM.out
    go_upto_region 9 with (go_at_call 16; refine AL.out.mono ?_; rintro e w8 ⟨s1, rfl, hal, hob, hf, hmu⟩; have A8 := Lib.hid hal; have O8 := Lib.hid hob; have F8 := Lib.hid hf; have M8 := Lib.hid hmu; clear hal hob hf hmu)
    obtain ⟨z, hz, hsz, hfz⟩ := A8.out.ns
    have ZN := Lib.hid (⟨hz, hsz, hfz⟩ : _ ∧ _ ∧ _)
    have ZR := Lib.hid (show s1.ns[sa.ns.length]? = some z by rw [hz]; simp)
    have ZV := Lib.hid (show nodeV s1 ((sa.ns.length : Int) + 1) = z by
      rw [nodeV, if_pos ⟨by omega, by rw [hz]; simp⟩, show ((sa.ns.length : Int) + 1 - 1).toNat = sa.ns.length by omega, ZR.out]; rfl)
    clear hz hsz hfz
    have NG := Lib.hid (node_get 0 qa s1 0 ((sa.ns.length : Int) + 1) w8 O8.out)
    go_upto_region 10 with (go_at_call 27; refine NG.out.mono ?_; rintro e w9 ⟨y, rfl, hy, hfr, hb⟩; have YS := Lib.hid (show sameN z y by rw [← ZV.out]; exact hy); have YF := Lib.hid hfr; have B9 := Lib.hid hb; clear hy hfr hb)
    obtain ⟨V9, hV9⟩ : ∃ X, X = w9.alloc (.cells y.cs 44) := ⟨_, rfl⟩
    have BV9 := Lib.hid (show RowKit.Below w8.heap.size w8 V9 by rw [hV9]; exact B9.out.alloc B9.out.size _)
    have HY := Lib.hid (show V9.heap[w9.heap.size]? = some (.cells y.cs 44 (0, 0)) by rw [hV9]; exact heap_alloc_new w9 _)
    have NY := Lib.hid (show NRd V9 V9.heap.size y by rw [hV9]; exact YF.out.nrd.1.up ((RowKit.Below.refl _ w9).alloc (Nat.le_refl _) _))
    have SY := Lib.hid (still_of HY.out B9.out.size NY.out YF.out.frs)
    rw [← hV9]
    clear hV9 lm AL NG
    have YNE := Lib.hid (show (∀ ad, 0 < y.bs.length → y.bA = some ad → ad.block < w9.heap.size) ∧ (∀ ad, 0 < y.ps.length → y.pA = some ad → ad.block < w9.heap.size) from ⟨fun ad hn e => by
      obtain ⟨ad', e', hb, _⟩ := YF.out.nrd.1.r hn
      rw [e] at e'; injection e' with e'; subst e'; exact hb, fun ad hn e => by
      obtain ⟨ad', e', hb, _⟩ := YF.out.nrd.1.p hn
      rw [e] at e'; injection e' with e'; subst e'; exact hb⟩)
    have NNE := Lib.hid (show (∀ ad, 0 < n.bs.length → n.bA = some ad → ad.block < V.heap.size) ∧ (∀ ad, 0 < n.ps.length → n.pA = some ad → ad.block < V.heap.size) from ⟨fun ad hn e => by
      obtain ⟨ad', e', hb, _⟩ := GNV.out.rd.r hn
      rw [e] at e'; injection e' with e'; subst e'; exact hb, fun ad hn e => by
      obtain ⟨ad', e', hb, _⟩ := GNV.out.rd.p hn
      rw [e] at e'; injection e' with e'; subst e'; exact hb⟩)
    have BFL := Lib.hid (show V.heap.size ≤ w9.heap.size by have := BC.out.size; have := F8.out.size; have := B9.out.size; omega)
    generalize w9.heap.size = bf at HY SY YNE BFL ⊢
    have MC := Lib.hid (show ∀ k, V.heap.size ≤ k → ¬ Mu qa sa k from fun k hk hm => by have := (MUA.out k hm).2; have := U4.out; have := FN.out.2; omega)
    have HM9 := Lib.hid ((BV9.out.block bm (Nat.lt_of_lt_of_le (Array.getElem?_eq_some_iff.1 HM.out).1 F8.out.size)).trans ((F8.out.block bm (Array.getElem?_eq_some_iff.1 HM.out).1 (MC.out bm C.out.1)).trans HM.out))
    have EM := Lib.hid (show m.bA = A ∧ m.bs.length = n.bs.length ∧ m.bc = c by rw [HMD.out]; exact ⟨rfl, rfl, rfl⟩)
    obtain ⟨L, hL⟩ : ∃ L, L = n.bs.length := ⟨_, rfl⟩
    have HL := Lib.hid hL
    have c4 : V9.cell? ⟨bm, 4, none⟩ = some (.slice A L c) := by
      have := node_cellA HM9.out (i := 4) (v := .slice m.bA m.bs.length m.bc) rfl
      rw [EM.out.1, EM.out.2.1, EM.out.2.2, ← hL] at this
      exact this
    have hL100 : L ≤ 100 := by rw [hL]; exact GNV.out.bl
    obtain ⟨g, hg⟩ : ∃ g, 0 < L → A = some ⟨g, 0, none⟩ ∧ V.heap.size ≤ g ∧ g < wc.heap.size ∧ g ≠ bm ∧ RowC V9 g 42 L := by
      by_cases hp : 0 < L
      · obtain ⟨g, e, h1, h2, hr⟩ := C.out.2.2.1.row (by rw [← hL]; exact hp)
        have hgb := C.out.2.2.2.2.1 g (by rw [e]; rfl)
        exact ⟨g, fun _ => ⟨e, h1, h2, hgb, by rw [hL]; exact hr.keep ((BV9.out.block g (Nat.lt_of_lt_of_le h2 F8.out.size)).trans (F8.out.block g h2 (MC.out g h1)))⟩⟩
      · exact ⟨0, fun h => absurd h hp⟩
    have GG := Lib.hid hg
    clear hg hL
    have c4B := Lib.hid c4
    go_wp2_with fail
    go_loopg [81] L (fun kx s81 wr => ∃ i : Nat, s81 = .int .i64 i ∧ i ≤ L ∧ L - i ≤ kx ∧ Aside (Fr (fun k => 0 < L ∧ k = g) V9 wr ∧ (0 < L → RowC wr g 42 L)))
    case atStart => exact ⟨0, rfl, Nat.zero_le _, by omega, ⟨Fr.refl _ _, fun h => (GG.out h).2.2.2.2⟩⟩
    case round =>
      obtain ⟨i, rfl, hi, hix, I⟩ := hrel
      by_cases hlt : i < L
      · have hp : 0 < L := by omega
        obtain ⟨eA, hg1, hg2, hg3, _⟩ := GG.out hp
        subst eA
        obtain ⟨⟨v, hv⟩, hfz⟩ := (I.out.2 hp).cell hlt
        have c4r : wr.cell? ⟨bm, 4, none⟩ = some (.slice (some ⟨g, 0, none⟩) L c) := (I.out.1.cell (p := ⟨bm, 4, none⟩) (Array.getElem?_eq_some_iff.1 HM9.out).1 (fun h => hg3 h.2.symm)).trans c4B.out
        have hlz : (i : Int) < (L : Int) := by omega
        have hwz : IntKind.i64.wrap ((i : Int) + 1) = (i : Int) + 1 := by rw [IntKind.wrap_i64]; omega
        clear c4
        go_wp2_with fail
        go_roundg (L - (i + 1))
        case measure => omega
        case rel => exact ⟨i + 1, by go_num, by omega, by omega, ⟨I.out.1.setCell (.inl ⟨hp, rfl⟩) _, fun h => (I.out.2 h).set i _⟩⟩
      · obtain rfl : i = L := by omega
        have FX := Lib.hid I.out.1
        clear I c4
        obtain ⟨X0, rfl⟩ : ∃ X0, X0 = wr := ⟨wr, rfl⟩
        have W8S := Lib.hid (show V.heap.size ≤ wc.heap.size ∧ wc.heap.size ≤ w8.heap.size ∧ w8.heap.size ≤ V9.heap.size from ⟨BC.out.size, F8.out.size, BV9.out.size⟩)
        have G8 := Lib.hid (show ∀ k, w8.heap.size ≤ k → ¬ (0 < i ∧ k = g) from fun k hk h => by have := (GG.out h.1).2.2.1; have := W8S.out.2.1; omega)
        have MU1 := Lib.hid (show ∀ k, Mu qa s1 k → (Mu qa sa k ∨ wc.heap.size ≤ k) ∧ k < w8.heap.size from fun k hk => ⟨M8.out k hk, (O8.out.mu_lt hk).2⟩)
        have OX := Lib.hid (show Ob X0 0 77 qa s1 0 from (O8.out.up BV9.out).fr FX.out
          (fun k hk h => by
            obtain ⟨_, g1, g2, _⟩ := GG.out h.1
            rcases (MU1.out k hk).1 with hm | hm
            · exact MC.out k (by omega) hm
            · omega)
          (fun x hx => by
            rw [ZN.out.1] at hx
            rcases List.mem_append.1 hx with hx | hx
            · exact ⟨fun ad e h => by have := (NSA.out x hx).1 ad e; have := (GG.out h.1).2.1; have := FN.out.2; have := U4.out; omega, fun ad e h => by have := (NSA.out x hx).2 ad e; have := (GG.out h.1).2.1; have := FN.out.2; have := U4.out; omega⟩
            · have hx := List.mem_singleton.1 hx
              subst hx
              exact ⟨fun ad e h => by have := ZN.out.2.2.1 ad e; have := (GG.out h.1).2.2.1; omega, fun ad e h => by have := ZN.out.2.2.2 ad e; have := (GG.out h.1).2.2.1; omega⟩))
        obtain ⟨AP, hAP⟩ : ∃ AP : Nat → Prop, AP = fun k => (u3.heap.size ≤ k ∧ k < V.heap.size) ∨ (w8.heap.size ≤ k ∧ k < V9.heap.size) := ⟨_, rfl⟩
        have APL := Lib.hid (show ∀ k, AP k → k < V9.heap.size from fun k hk => by rw [hAP] at hk; have := W8S.out; omega)
        have SYX := Lib.hid (show Still X0 AP bf y from (SY.out.keep (fun k hk => FX.out.block k hk.2 (G8.out k hk.1)) FX.out.size).mono fun k hk => by rw [hAP]; exact .inr hk)
        have SNX := Lib.hid (show Still X0 AP bn n from (SN0.out.keep (w' := X0) (fun k hk => by
            have h1 := W8S.out
            have hb := BC.out.block k hk.2
            have hb2 := F8.out.block k (by omega) (fun hm => by have := (MUA.out k hm).2; omega)
            have hb3 := BV9.out.block k (by omega)
            have hb4 := FX.out.block k (by omega) (fun h => by have := (GG.out h.1).2.1; omega)
            exact hb4.trans (hb3.trans (hb2.trans hb))) (by have h1 := W8S.out; have := FX.out.size; omega)).mono fun k hk => by rw [hAP]; exact .inl hk)
        have OFF := Lib.hid (show Off AP qa s1 from fun k hk ha => by
          rw [hAP] at ha
          have h2 := (MU1.out k hk).2
          have h1 := W8S.out
          rcases (MU1.out k hk).1 with hm | hm
          · have := (MUA.out k hm).2; have := FN.out.2; have := U4.out; omega
          · omega)
        have OFFL := Lib.hid (show ∀ x ∈ s1.ns, Av AP x.bA ∧ Av AP x.pA from fun x hx => by
          have h1 := W8S.out
          have hl := O8.out.l x hx
          rw [ZN.out.1] at hx
          rcases List.mem_append.1 hx with hx | hx
          · refine ⟨fun ad e ha => ?_, fun ad e ha => ?_⟩
            · have := (NSA.out x hx).1 ad e; rw [hAP] at ha; have := FN.out.2; have := U4.out; omega
            · have := (NSA.out x hx).2 ad e; rw [hAP] at ha; have := FN.out.2; have := U4.out; omega
          · have hx := List.mem_singleton.1 hx
            subst hx
            refine ⟨fun ad e ha => ?_, fun ad e ha => ?_⟩
            · have := ZN.out.2.2.1 ad e; have := hl.lb ad e; rw [hAP] at ha; omega
            · have := ZN.out.2.2.2 ad e; have := hl.lp ad e; rw [hAP] at ha; omega)
        have LOW := Lib.hid (show ∀ k, Mu qa s1 k → w.heap.size ≤ k from fun k hk => by
          rcases (MU1.out k hk).1 with hm | hm
          · exact (MUA.out k hm).1
          · have := BV.out.size; have := W8S.out; omega)
        have BX := Lib.hid (show RowKit.Below w.heap.size w X0 from by
          have h1 := W8S.out
          have h0 := BV.out.size
          have hb8 := F8.out.below (B := w.heap.size) (by omega) (fun k hk => (MUA.out k hk).1)
          have hbx := FX.out.below (B := w.heap.size) (by omega) (fun k hk => by have := (GG.out hk.1).2.1; omega)
          exact (((BV.out.trans (BC.out.mono h0)).trans hb8).trans (BV9.out.mono (by omega))).trans hbx)
        have SL := Lib.hid (show s1.ns.length = sa.ns.length + 1 ∧ s1.cs.length ≤ sa.cs.length + 1 ∧ s1.gen = 3 by
          refine ⟨by rw [ZN.out.1]; simp, ?_, by rw [A8.out.gen, LEN.out.2.2]⟩
          rw [A8.out.cs]; cases hasO m <;> simp)
        clear hAP
        have XS := Lib.hid FX.out.size
        generalize hR : sa.ns.length = R at ZR SL L2N ⊢
        have HR := Lib.hid hR
        clear hR
        go_wp2_with fail
        go_loopg [14] 20 (fun kx s14 wq => ∃ (j : Nat) (s : Sd) (x : Int), s14 = .int .i64 j ∧ j ≤ 20 ∧ 20 - j ≤ kx ∧ Aside (Ob wq 0 77 qa s x) ∧ Aside (s.ns[R]? = some z ∧ 2 ≤ s.ns.length ∧ s.ns.length ≤ 10 + j ∧ s.cs.length ≤ 10 + j ∧ 0 ≤ s.gen ∧ s.gen ≤ 3 + j ∧ 0 ≤ x ∧ x ≤ j) ∧ Aside (Off AP qa s ∧ (∀ k, Mu qa s k → w.heap.size ≤ k) ∧ ∀ nn ∈ s.ns, Av AP nn.bA ∧ Av AP nn.pA) ∧ Aside ((∀ k, AP k → wq.heap[k]? = X0.heap[k]?) ∧ X0.heap.size ≤ wq.heap.size ∧ RowKit.Below w.heap.size w wq))
        case atStart =>
          exact ⟨0, s1, 0, rfl, by omega, by omega, OX.out, (⟨ZR.out, by have := SL.out.1; have := LEN.out; have := RF.out; have := HR.out; omega, by have := SL.out.1; have := L2N.out.1; omega, by have := SL.out.2.1; have := L2N.out.2; omega, by have := SL.out.2.2; omega, by have := SL.out.2.2; omega, Int.le_refl 0, Int.le_refl 0⟩ : _ ∧ _ ∧ _ ∧ _ ∧ _ ∧ _ ∧ _ ∧ _), (⟨OFF.out, LOW.out, OFFL.out⟩ : _ ∧ _ ∧ _), (⟨fun _ _ => rfl, Nat.le_refl _, BX.out⟩ : _ ∧ _ ∧ _)⟩
        case round =>
          obtain ⟨j, s, x, rfl, hj, hjx, O, NB, OF2, KP⟩ := hrel
          have hj20 : (j : Int) ≤ 20 := by omega
          by_cases hcond : j < len1 ∧ j < 20
          · obtain ⟨h1, h2⟩ := hcond
            have h1z : (j : Int) < (len1 : Int) := by omega
            have h2z : (j : Int) < 20 := by omega
            have hwz : IntKind.i64.wrap ((j : Int) + 1) = (j : Int) + 1 := by rw [IntKind.wrap_i64]; omega
            obtain ⟨ad, st, ea, hcell, hints, hnode⟩ := W1.out.2 j h1
            subst ea
            have LDS := Lib.hid (show ∀ X, RowKit.Below w.heap.size w X → Sem.run Try.prog (loadStep (.pointer (some (ad.add (j * 19))))) X = .ok (.agg st.cs) X from fun X hX => run_loadStep fun jj hjj => by
              have hc := hcell jj hjj
              have hb : ((ad.add (j * 19)).add jj).block < w.heap.size := by
                cases hv : st.cs[jj]? with
                | none =>
                  have hsz : st.cs.size = 19 := rfl
                  rw [Array.getElem?_eq_getElem (by rw [hsz]; exact hjj)] at hv; cases hv
                | some v => rw [hv] at hc; exact block_of_cell' hc
              exact (hX.cell hb).trans hc)
            have HCH := Lib.hid (show ∀ X, RowKit.Below w.heap.size w X → ∀ jj, jj < st.cl → ∃ ad z, st.cA = some ad ∧ ad.block < X.heap.size ∧ X.cell? (ad.add jj) = some (.int .i64 z) from fun X hX jj hjj => by
              obtain ⟨ad2, zz, e2, hc2⟩ := hints.2 jj hjj
              have hb := block_of_cell' hc2
              have hb' := hb
              rw [block_add] at hb'
              exact ⟨ad2, zz, e2, Nat.lt_of_lt_of_le hb' hX.size, (hX.cell hb).trans hc2⟩)
            have HCL := Lib.hid hints.1
            clear hcell hints hnode
            have BD := Lib.hid (show RowKit.Below wr.heap.size wr wr.drew from ⟨rfl, rfl, rfl, Nat.le_refl _, fun _ _ => rfl⟩)
            have OD := Lib.hid (O.out.up BD.out)
            have BWD := Lib.hid (KP.out.2.2.trans (BD.out.mono KP.out.2.2.size))
            have A2 := Lib.hid (a2_any 0 qa s x wr.drew OD.out)
            go_upto_region 18 with (fail)
            go_region_held3 (fun w' => Sem.run Try.prog (loadStep (.pointer (some (ad.add (j * 19))))) w' = .ok (.agg st.cs) w')
              (first | exact LDS.out _ BV2.out | exact LDS.out _ BV1.out | exact LDS.out _ BWD.out)
              (first
                | (go_at_call 17; refine APC.out.mono ?_; rintro e v2 ⟨rfl, s', t', x', y', hApp⟩; have HA := Lib.hid hApp; have BV2 := Lib.hid (show RowKit.Below w.heap.size w v2 from BV1.out.trans (hApp.fr.below BV1.out.size (fun k hk => hk.elim (OF2.out.2.1 k) (fun h => Nat.le_trans BWD.out.size (MQ.out k h))))); clear hApp)
                | (go_at_call 28; refine A2.out.mono ?_; rintro e v1 ⟨q2, t, rfl, hl, hc, hg, hm, hf, hb⟩; have MQ := Lib.hid (fun k (hk : Mu q2 t k) => (hm.mu_lt hk).1); have BV1 := Lib.hid (BWD.out.trans (hb.mono BWD.out.size)); have SB := Lib.hid hb; have LT := Lib.hid (⟨hl.1, hc, hg⟩ : s.ns.length = t.ns.length ∧ t.cs = s.cs ∧ t.gen = s.gen); have APC := Lib.hid (apply_any qa q2 s t x 0 st v1 (two_later OD.out hb hm hf hl hc hg) ⟨NB.out.2.2.2.2.2.2.1, by have := NB.out.2.2.2.2.2.2.2; omega⟩ ⟨Int.le_refl 0, by omega⟩ (by rw [hg]; have := NB.out; omega) (by rw [← hl.1]; exact NB.out.2.1) (by rw [← hl.1]; have := NB.out; omega) (by rw [hc]; have := NB.out; omega) HCL.out (HCH.out v1 BV1.out)); clear hl hc hg hm hf hb))
            all_goals
              go_wp2_with fail
              go_roundg (20 - (j + 1))
              case measure => omega
              case rel =>
                have hw := HA.out.went
                have hlen := hw.len
                have hcs := hw.cs
                have hgn := hw.gen
                have hac := hw.acc
                have hn := NB.out
                have hs1 : wr.heap.size ≤ v1.heap.size := SB.out.size
                refine ⟨j + 1, s', x', by go_num, by omega, by omega, HA.out.two.a, (⟨hw.get hn.1, by omega, by omega, by omega, by omega, by omega, by omega, by omega⟩ : _ ∧ _ ∧ _ ∧ _ ∧ _ ∧ _ ∧ _ ∧ _), (⟨fun k hk ha => ?_, fun k hk => ?_, fun nn hn' => (HA.out.la nn hn').elim (OF2.out.2.2 nn) (fun hf => ⟨fun ad e ha => by have := hf.1 ad e; have := APL.out _ ha; have := XS.out; have := KP.out.2.1; omega, fun ad e ha => by have := hf.2 ad e; have := APL.out _ ha; have := XS.out; have := KP.out.2.1; omega⟩)⟩ : _ ∧ _ ∧ _), (⟨fun k ha => ?_, ?_, BV2.out⟩ : _ ∧ _ ∧ _)⟩
                · rcases HA.out.mua k hk with h | h
                  · exact OF2.out.1 k h ha
                  · have := APL.out k ha; have := XS.out; have := KP.out.2.1; omega
                · rcases HA.out.mua k hk with h | h
                  · exact OF2.out.2.1 k h
                  · have := BV1.out.size; omega
                · have hk1 := APL.out k ha
                  have hk2 : k < wr.heap.size := by have := XS.out; have := KP.out.2.1; omega
                  have h1 := HA.out.keeps (k := k) (by omega) (fun h => OF2.out.1 k h ha) (fun h => by have := MQ.out k h; have hd : wr.drew.heap.size = wr.heap.size := rfl; omega)
                  exact h1.trans ((SB.out.block k hk2).trans (KP.out.1 k ha))
                · have := KP.out.2.1; have := HA.out.fr.size; omega
          · have hz : (¬ (j : Int) < (len1 : Int)) ∨ ((j : Int) < (len1 : Int) ∧ ¬ (j : Int) < 20) := by omega
            have NG2 := Lib.hid (node_get 0 qa s x ((R : Int) + 1) wr O.out)
            have RL := Lib.hid (show R < s.ns.length from (List.getElem?_eq_some_iff.1 NB.out.1).1)
            have NV2 := Lib.hid (show nodeV s ((R : Int) + 1) = z by
              rw [nodeV, if_pos ⟨by omega, by have := RL.out; omega⟩, show ((R : Int) + 1 - 1).toNat = R by omega, NB.out.1]; rfl)
            rcases hz with h1z | ⟨h1z, h2z⟩
            all_goals
              clear hcond
              go_upto_region 19 with (fail)
              go_upto_region 20 with (go_at_call 27; refine NG2.out.mono ?_; rintro e v3 ⟨y2, rfl, hy, hfr, hb⟩; have YS2 := Lib.hid (show sameN z y2 by rw [← NV2.out]; exact hy); have YF2 := Lib.hid hfr; have B19 := Lib.hid hb; clear hy hfr hb)
              obtain ⟨Y0, rfl⟩ : ∃ Y0, Y0 = wr := ⟨wr, rfl⟩
              obtain ⟨V10, hV⟩ : ∃ X, X = v3.alloc (.cells y2.cs 44) := ⟨_, rfl⟩
              have BG := Lib.hid (show RowKit.Below Y0.heap.size Y0 V10 by rw [hV]; exact B19.out.alloc B19.out.size _)
              have HG := Lib.hid (show V10.heap[v3.heap.size]? = some (.cells y2.cs 44 (0, 0)) by rw [hV]; exact heap_alloc_new v3 _)
              have ZB := Lib.hid (show Y0.heap.size ≤ v3.heap.size from B19.out.size)
              have KV := Lib.hid (show ∀ k, k < v3.heap.size → V10.heap[k]? = v3.heap[k]? by rw [hV]; exact fun k hk => RowKit.Below.heap_alloc v3 _ k hk)
              rw [← hV]
              clear hV
              obtain ⟨L2', hL2⟩ : ∃ L, L = y2.bs.length := ⟨_, rfl⟩
              obtain ⟨L3, hL3⟩ : ∃ L, L = y2.ps.length := ⟨_, rfl⟩
              have hLL : L2' ≤ 1000 ∧ L3 ≤ 1000 := by rw [hL2, hL3]; exact ⟨YF2.out.bl, YF2.out.pl⟩
              obtain ⟨hLa, hLb⟩ := hLL
              obtain ⟨g2, hg2⟩ : ∃ g, 0 < L2' → y2.bA = some ⟨g, 0, none⟩ ∧ Y0.heap.size ≤ g ∧ g < v3.heap.size ∧ RowC V10 g 42 L2' := by
                by_cases hp : 0 < L2'
                · obtain ⟨g, e, h1, h2, hr⟩ := YF2.out.a.row (by rw [← hL2]; exact hp)
                  exact ⟨g, fun _ => ⟨e, h1, h2, by rw [hL2]; exact hr.keep (KV.out g h2)⟩⟩
                · exact ⟨0, fun h => absurd h hp⟩
              obtain ⟨g3, hg3⟩ : ∃ g, 0 < L3 → y2.pA = some ⟨g, 0, none⟩ ∧ Y0.heap.size ≤ g ∧ g < v3.heap.size ∧ RowC V10 g 66 (L3 * 2) := by
                by_cases hp : 0 < L3
                · obtain ⟨g, e, h1, h2, hr⟩ := YF2.out.p.row (by rw [← hL3]; exact hp)
                  exact ⟨g, fun _ => ⟨e, h1, h2, by rw [hL3]; exact hr.keep (KV.out g h2)⟩⟩
                · exact ⟨0, fun h => absurd h hp⟩
              have GA := Lib.hid hg2
              have GB := Lib.hid hg3
              have GNE := Lib.hid (show 0 < L2' → 0 < L3 → g2 ≠ g3 from fun h2 h3 e => by
                obtain ⟨c1, e1, _⟩ := (hg2 h2).2.2.2
                obtain ⟨c2, e2, _⟩ := (hg3 h3).2.2.2
                rw [e, e2] at e1
                injection e1 with e1
                injection e1 with _ e1
                cases e1)
              clear hg2 hg3
              have e4 : ∀ X : World, X.heap[v3.heap.size]? = some (.cells y2.cs 44 (0, 0)) → X.cell? ⟨v3.heap.size, 4, none⟩ = some (.slice y2.bA L2' y2.bc) ∧ X.cell? ⟨v3.heap.size, 8, none⟩ = some (.slice y2.pA L3 y2.pc) := fun X hX => by
                rw [hL2, hL3]; exact ⟨node_cellA hX rfl, node_cellA hX rfl⟩
              have E4 := Lib.hid e4
              have c4 := (E4.out V10 HG.out).1
              clear e4 hL2 hL3
              generalize v3.heap.size = bg at HG E4 ZB GA GB c4 ⊢
              go_wp2_with fail
              go_loopg [113] L2' (fun kx s113 wq => ∃ i : Nat, s113 = .int .i64 i ∧ i ≤ L2' ∧ L2' - i ≤ kx ∧ Aside (RowKit.Below Y0.heap.size Y0 wq ∧ wq.heap[bg]? = some (.cells y2.cs 44 (0, 0)) ∧ (0 < L2' → RowC wq g2 42 L2') ∧ (0 < L3 → RowC wq g3 66 (L3 * 2))))
              case atStart => exact ⟨0, rfl, Nat.zero_le _, by omega, (⟨BG.out, HG.out, fun h => (GA.out h).2.2.2, fun h => (GB.out h).2.2.2⟩ : _ ∧ _ ∧ _ ∧ _)⟩
              case round =>
                obtain ⟨i, rfl, hi, hix, I⟩ := hrel
                clear c4
                by_cases hlt : i < L2'
                · have hp : 0 < L2' := by omega
                  obtain ⟨eA, ga1, ga2, _⟩ := GA.out hp
                  obtain ⟨⟨v, hv⟩, hfz⟩ := (I.out.2.2.1 hp).cell hlt
                  have c4 := (E4.out wr I.out.2.1).1
                  rw [eA] at c4
                  have hlz : (i : Int) < (L2' : Int) := by omega
                  have hwz : IntKind.i64.wrap ((i : Int) + 1) = (i : Int) + 1 := by rw [IntKind.wrap_i64]; omega
                  have hgb : g2 ≠ bg := by omega
                  clear eA
                  go_wp2_with fail
                  go_roundg (L2' - (i + 1))
                  case measure => omega
                  case rel => exact ⟨i + 1, by go_num, by omega, by omega, (⟨I.out.1.setCell (by exact ga1) _, (RowKit.Below.heap_setCell wr ⟨g2, i, none⟩ _ bg (fun e => hgb e.symm)).trans I.out.2.1, fun h => (I.out.2.2.1 h).set i _, fun h => (I.out.2.2.2 h).keep (RowKit.Below.heap_setCell wr ⟨g2, i, none⟩ _ g3 (fun e => GNE.out hp h e.symm))⟩ : _ ∧ _ ∧ _ ∧ _)⟩
                · obtain rfl : i = L2' := by omega
                  have c8 := (E4.out wr I.out.2.1).2
                  go_wp2_with fail
                  go_loopg [124] L3 (fun kx s124 wq => ∃ i : Nat, s124 = .int .i64 i ∧ i ≤ L3 ∧ L3 - i ≤ kx ∧ Aside (RowKit.Below Y0.heap.size Y0 wq ∧ wq.heap[bg]? = some (.cells y2.cs 44 (0, 0)) ∧ (0 < L3 → RowC wq g3 66 (L3 * 2))))
                  case atStart => exact ⟨0, rfl, Nat.zero_le _, by omega, (⟨I.out.1, I.out.2.1, I.out.2.2.2⟩ : _ ∧ _ ∧ _)⟩
                  case round =>
                    clear I c8
                    obtain ⟨i, rfl, hi, hix, I⟩ := hrel
                    by_cases hlt : i < L3
                    · have hp : 0 < L3 := by omega
                      obtain ⟨eA, ga1, ga2, _⟩ := GB.out hp
                      obtain ⟨⟨v, hv⟩, hfz⟩ := (I.out.2.2 hp).cell (i := i * 2) (by omega)
                      have c8 := (E4.out wr I.out.2.1).2
                      rw [eA] at c8
                      have hlz : (i : Int) < (L3 : Int) := by omega
                      have hwz : IntKind.i64.wrap ((i : Int) + 1) = (i : Int) + 1 := by rw [IntKind.wrap_i64]; omega
                      have hgb : g3 ≠ bg := by omega
                      clear eA
                      go_wp2_with fail
                      go_roundg (L3 - (i + 1))
                      case measure => omega
                      case rel => exact ⟨i + 1, by go_num, by omega, by omega, (⟨I.out.1.setCell (by exact ga1) _, (RowKit.Below.heap_setCell wr ⟨g3, i * 2, none⟩ _ bg (fun e => hgb e.symm)).trans I.out.2.1, fun h => (I.out.2.2 h).set (i * 2) _⟩ : _ ∧ _ ∧ _)⟩
                    · obtain rfl : i = L3 := by omega
                      have IB := Lib.hid I.out.1
                      clear I
                      obtain ⟨Z0, rfl⟩ : ∃ Z0, Z0 = wr := ⟨wr, rfl⟩
                      have OZ := Lib.hid (O.out.up IB.out)
                      have APY := Lib.hid (show ∀ k, AP k → k < Y0.heap.size from fun k hk => by have := APL.out k hk; have := XS.out; have := KP.out.2.1; omega)
                      have SYZ := Lib.hid (SYX.out.keep (w' := Z0) (fun k hk => (IB.out.block k (APY.out k hk)).trans (KP.out.1 k hk)) (by have := KP.out.2.1; have := IB.out.size; omega))
                      have SNZ := Lib.hid (SNX.out.keep (w' := Z0) (fun k hk => (IB.out.block k (APY.out k hk)).trans (KP.out.1 k hk)) (by have := KP.out.2.1; have := IB.out.size; omega))
                      have BZ := Lib.hid (KP.out.2.2.trans (IB.out.mono KP.out.2.2.size))
                      have SO := Lib.hid (state_own 0 qa s x Z0 OZ.out)
                      go_upto_region 31 with (go_at_call 23; refine SO.out.mono ?_; rintro e v5 ⟨t5, rfl, hl, hc, hg, hcp, hb⟩; have K5 := Lib.hid (⟨hl, hcp, hb⟩ : _ ∧ _ ∧ _); unfold Sd.vals; clear hl hc hg hcp hb)
                      obtain ⟨V11, hV⟩ : ∃ X, X = v5.alloc (.cells #[.slice t5.nA t5.ns.length t5.nc, .slice t5.cA t5.cs.length t5.cc, .int .i64 t5.gen] 35) := ⟨_, rfl⟩
                      have B11 := Lib.hid (show RowKit.Below Z0.heap.size Z0 V11 by rw [hV]; exact K5.out.2.2.alloc K5.out.2.2.size _)
                      have HS11 := Lib.hid (show V11.heap[v5.heap.size]? = some (.cells #[.slice t5.nA t5.ns.length t5.nc, .slice t5.cA t5.cs.length t5.cc, .int .i64 t5.gen] 35 (0, 0)) by rw [hV]; exact heap_alloc_new v5 _)
                      have B511 := Lib.hid (show RowKit.Below v5.heap.size v5 V11 by rw [hV]; exact (RowKit.Below.refl _ v5).alloc (Nat.le_refl _) _)
                      have GT := Lib.hid (show Z0.heap.size ≤ v5.heap.size from K5.out.2.2.size)
                      rw [← hV]
                      clear hV
                      have T5L := Lib.hid (show s.ns.length = t5.ns.length from K5.out.1.1)
                      have hRt : R < t5.ns.length := by rw [← T5L.out]; exact RL.out
                      obtain ⟨z5, hz5⟩ : ∃ z5, t5.ns[R]? = some z5 := ⟨t5.ns[R], List.getElem?_eq_getElem hRt⟩
                      have Z5S := Lib.hid (show sameN z z5 from K5.out.1.2 R z z5 NB.out.1 hz5)
                      obtain ⟨g5, eg5, hg5a, hg5b, hrow⟩ := ownN_row K5.out.2.1.nod (by omega)
                      have ROW := Lib.hid (hrow.keep (w' := V11) (B511.out.block g5 hg5b))
                      have N5 := Lib.hid (show NRd V11 V11.heap.size z5 from (K5.out.2.1.l z5 (List.mem_of_getElem? hz5)).1.rd.up B511.out)
                      have LD5 := Lib.hid (show ∀ X, RowKit.Below V11.heap.size V11 X → Sem.run Try.prog (loadNode (.pointer (some ⟨g5, R * 14, none⟩))) X = .ok (.agg z5.cs) X from fun X hX => by
                        obtain ⟨A', c', ex, hr, _⟩ := K5.out.2.1.nod.open2
                        injection ex with e1 _ _
                        rw [← e1, eg5] at hr
                        have hr2 : RdN X v5.heap.size (some ⟨g5, 0, none⟩) t5.ns := hr.below (B511.out.trans (hX.mono B511.out.size))
                        have := hr2.load hz5
                        rwa [Nat.zero_add] at this)
                      have hlt5 : ¬ (t5.ns.length : Int) < (R : Int) + 1 := by omega
                      have hR0 : (0 : Int) ≤ (R : Int) := by omega
                      have hR1 : (R : Int) < (t5.ns.length : Int) := by omega
                      have hRb : R ≤ 1000 := by have := K5.out.2.1.nl; omega
                      have wz4 : IntKind.i64.wrap (R : Int) = (R : Int) := by rw [IntKind.wrap_i64]; omega
                      have SY11 := Lib.hid (SYZ.out.keep (w' := V11) (fun k hk => B11.out.block k (by have := APY.out k hk; have := IB.out.size; omega)) B11.out.size)
                      have SN11 := Lib.hid (SNZ.out.keep (w' := V11) (fun k hk => B11.out.block k (by have := APY.out k hk; have := IB.out.size; omega)) B11.out.size)
                      have OZ11 := Lib.hid (OZ.out.up B11.out)
                      have KS := Lib.hid (show ∀ X, RowKit.Below V11.heap.size V11 X → X.cell? ⟨v5.heap.size, 0, none⟩ = some (.slice (some ⟨g5, 0, none⟩) t5.ns.length t5.nc) ∧ Sem.run Try.prog (loadNode (.pointer (some ⟨g5, R * 14, none⟩))) X = .ok (.agg z5.cs) X ∧ Sem.run Try.prog (loadNode (.pointer (some ⟨bf, 0, none⟩))) X = .ok (.agg y.cs) X from fun X hX =>
                        ⟨by
                          have := block_cell ((hX.block _ (Array.getElem?_eq_some_iff.1 HS11.out).1).trans HS11.out) (i := 0) (v := .slice t5.nA t5.ns.length t5.nc) rfl
                          rwa [eg5] at this, LD5.out X hX, run_loadNode ((hX.block _ (Array.getElem?_eq_some_iff.1 SY11.out.blk).1).trans SY11.out.blk)⟩)
                      have BD11 := Lib.hid (show RowKit.Below V11.heap.size V11 V11.drew from ⟨rfl, rfl, rfl, Nat.le_refl _, fun _ _ => rfl⟩)
                      have EQ1 := Lib.hid (requal_any z5 y V11.heap.size V11.drew (N5.out.below BD11.out) (SY11.out.rd.below BD11.out) (Nat.le_refl _))
                      rw [same_eq Z5S.out YS.out] at EQ1
                      have ND3 := Lib.hid (fun X (hX : RowKit.Below V11.heap.size V11 X) => node_get 0 qa s x ((R : Int) + 1) X (OZ11.out.up hX))
                      clear hz5 hrow eg5
                      generalize v5.heap.size = bs5 at HS11 KS hg5b GT ⊢
                      go_region_held3 (fun w' => w'.cell? ⟨bs5, 0, none⟩ = some (.slice (some ⟨g5, 0, none⟩) t5.ns.length t5.nc) ∧ Sem.run Try.prog (loadNode (.pointer (some ⟨g5, R * 14, none⟩))) w' = .ok (.agg z5.cs) w' ∧ Sem.run Try.prog (loadNode (.pointer (some ⟨bf, 0, none⟩))) w' = .ok (.agg y.cs) w')
                        (first | exact KS.out _ BT3.out | exact KS.out _ BT2.out | exact KS.out _ BT1.out | exact KS.out _ BD11.out)
                        (first
                          | (go_at_call 29; (with_reducible refine EQ2.out.mono ?_); rintro e r3 ⟨rfl, hg⟩; have BT3 := Lib.hid (BT2.out.trans (hg.b.mono BT2.out.size)); clear hg)
                          | (go_at_call 27; refine (ND3.out _ BT1.out).mono ?_; rintro e r2 ⟨y3, rfl, hy, hfr, hb⟩; have Y3S := Lib.hid (show sameN z y3 by rw [← NV2.out]; exact hy); have BT2 := Lib.hid (BT1.out.trans (hb.mono BT1.out.size)); have EQ2 := Lib.hid (requal_any y3 y r2.heap.size r2 hfr.nrd.1 ((SY11.out.rd.below BT2.out).more BT2.out.size) (Nat.le_refl _)); rw [same_eq Y3S.out YS.out] at EQ2; clear hy hfr hb)
                          | (go_at_call 29; (with_reducible refine EQ1.out.mono ?_); rintro e r1 ⟨rfl, hg⟩; have BT1 := Lib.hid (show RowKit.Below V11.heap.size V11 r1 from ⟨hg.b.os, hg.b.tape, hg.b.output, hg.b.size, hg.b.block⟩); clear hg))
                      all_goals
                        have c0 := (KS.out _ BT3.out).1
                        have ROW3 := Lib.hid (ROW.out.keep (w' := r3) (BT3.out.block g5 (by have := (Array.getElem?_eq_some_iff.1 HS11.out).1; omega)))
                        obtain ⟨⟨v7, hv7⟩, hf7⟩ := ROW3.out.cell (i := R * 14) (by omega)
                        go_upto_region 34 with (fail)
                        obtain ⟨r4, hr4⟩ : ∃ X, X = r3.setCell ⟨g5, R * 14, none⟩ (.int .i64 77) := ⟨_, rfl⟩
                        have B4 := Lib.hid (show RowKit.Below Z0.heap.size Z0 r4 by rw [hr4]; exact (B11.out.trans (BT3.out.mono B11.out.size)).setCell hg5a _)
                        rw [← hr4]
                        clear hr4 hv7 hf7 c0
                        have SY4 := Lib.hid (SYZ.out.keep (w' := r4) (fun k hk => B4.out.block k (by have := APY.out k hk; have := IB.out.size; omega)) B4.out.size)
                        have SN4 := Lib.hid (SNZ.out.keep (w' := r4) (fun k hk => B4.out.block k (by have := APY.out k hk; have := IB.out.size; omega)) B4.out.size)
                        have c2 := node_cellA SY4.out.blk (i := 2) (v := .int .i64 y.main) rfl
                        have c9 := node_cellA SY4.out.blk (i := 9) (v := .int .i64 y.prev) rfl
                        have c13 := node_cellA SY4.out.blk (i := 13) (v := .int .i64 y.status) rfl
                        have f2 := node_frozen SY4.out.blk 2
                        have f9 := node_frozen SY4.out.blk 9
                        have f13 := node_frozen SY4.out.blk 13
                        go_upto_region 35 with (fail)
                        obtain ⟨r5, hr5⟩ : ∃ X, X = ((r4.setCell ⟨bf, 2, none⟩ (.int .i64 0)).setCell ⟨bf, 9, none⟩ (.int .i64 0)).setCell ⟨bf, 13, none⟩ (.int .i64 0) := ⟨_, rfl⟩
                        have Q5 := set3 SY4.out.blk
                        rw [← hr5] at Q5
                        have HK5 := Lib.hid Q5.1
                        have HF5 := Lib.hid Q5.2.1
                        have S5 := Lib.hid Q5.2.2.1
                        have FR5 := Lib.hid Q5.2.2.2
                        clear Q5
                        rw [← hr5]
                        clear hr5 c2 c9 c13 f2 f9 f13
                        have hbn : bn < bf := Nat.lt_of_lt_of_le (Nat.lt_of_lt_of_eq (Nat.lt_succ_self bn) U4.out) BFL.out
                        have HN5 := Lib.hid ((HK5.out bn (Nat.ne_of_lt hbn)).trans SN4.out.blk)
                        have NF5 := Lib.hid (first_rd SY4.out.rd YNE.out.1 YNE.out.2 HK5.out S5.out)
                        have NN5 := Lib.hid (nrd_set SN4.out.rd (fun ad hn e => Nat.ne_of_lt (Nat.lt_of_lt_of_le (NNE.out.1 ad hn e) BFL.out)) (fun ad hn e => Nat.ne_of_lt (Nat.lt_of_lt_of_le (NNE.out.2 ad hn e) BFL.out)) HK5.out S5.out)
                        have O5 := Lib.hid ((OZ.out.up B4.out).fr FR5.out (fun k hk e => OF2.out.1 k hk (by rw [e]; exact SYZ.out.inb)) (fun nn hn => ⟨fun ad e h => (OF2.out.2.2 nn hn).1 ad e (by have h' : ad.block = bf := h; rw [h']; exact SYZ.out.inb), fun ad e h => (OF2.out.2.2 nn hn).2 ad e (by have h' : ad.block = bf := h; rw [h']; exact SYZ.out.inb)⟩))
                        have B5 := Lib.hid (show RowKit.Below w.heap.size w r5 from (BZ.out.trans (B4.out.mono BZ.out.size)).trans (FR5.out.below (Nat.le_trans BZ.out.size B4.out.size) (fun k e => by have := BFL.out; have := BV.out.size; omega)))
                        obtain ⟨f1, hf1⟩ : ∃ f1 : Nd, f1 = { y with main := 0, prev := 0, status := 0 } := ⟨_, rfl⟩
                        have EF := Lib.hid (show eqN f1 n = true by rw [hf1]; exact first_eq HMD.out ZN.out.2.1 YS.out VNN.out.main VNN.out.prev VNN.out.status)
                        rw [← hf1] at HF5 NF5
                        clear hf1
                        have KS2 := Lib.hid (show ∀ X, RowKit.Below r5.heap.size r5 X → Sem.run Try.prog (loadNode (.pointer (some ⟨bf, 0, none⟩))) X = .ok (.agg f1.cs) X ∧ Sem.run Try.prog (loadNode (.pointer (some ⟨bn, 0, none⟩))) X = .ok (.agg n.cs) X ∧ X.cell? ⟨bn, 0, none⟩ = some (.int .i64 n.kind) from fun X hX =>
                          ⟨run_loadNode ((hX.block _ (Array.getElem?_eq_some_iff.1 HF5.out).1).trans HF5.out), run_loadNode ((hX.block _ (Array.getElem?_eq_some_iff.1 HN5.out).1).trans HN5.out), node_cellA ((hX.block _ (Array.getElem?_eq_some_iff.1 HN5.out).1).trans HN5.out) rfl⟩)
                        have BD5 := Lib.hid (show RowKit.Below r5.heap.size r5 r5.drew from ⟨rfl, rfl, rfl, Nat.le_refl _, fun _ _ => rfl⟩)
                        have AW := Lib.hid (awake_any r5.drew)
                        have EQ3 := Lib.hid (fun X (hX : RowKit.Below r5.heap.size r5 X) => requal_any f1 n X.heap.size X ((NF5.out.below hX).more hX.size) ((NN5.out.below hX).more hX.size) (Nat.le_refl _))
                        rw [EF.out] at EQ3
                        have ND4 := Lib.hid (fun X (hX : RowKit.Below r5.heap.size r5 X) => node_get 0 qa s x ((R : Int) + 1) X (O5.out.up hX))
                        go_region_held3 (fun w' => Sem.run Try.prog (loadNode (.pointer (some ⟨bf, 0, none⟩))) w' = .ok (.agg f1.cs) w' ∧ Sem.run Try.prog (loadNode (.pointer (some ⟨bn, 0, none⟩))) w' = .ok (.agg n.cs) w' ∧ w'.cell? ⟨bn, 0, none⟩ = some (.int .i64 n.kind))
                          (first | exact KS2.out _ BQ3.out | exact KS2.out _ BQ2.out | exact KS2.out _ BQ1.out | exact KS2.out _ BD5.out)
                          (first
                            | (go_at_call 27; refine (ND4.out _ BQ2.out).mono ?_; rintro e q3 ⟨y4, rfl, hy, hfr, hb⟩; have BQ3 := Lib.hid (BQ2.out.trans (hb.mono BQ2.out.size)); have KY4 := Lib.hid (kind_eq HMD.out ZN.out.2.1 (show sameN z y4 by rw [← NV2.out]; exact hy)); have hk4 := KY4.out; clear hy hfr hb)
                            | (go_at_call 29; refine (EQ3.out _ BQ1.out).mono ?_; rintro e q2 ⟨rfl, hg⟩; have BQ2 := Lib.hid (BQ1.out.trans (hg.b.mono BQ1.out.size)); clear hg)
                            | (go_at_call 19; refine AW.out.mono ?_; rintro e q1 ⟨rfl, hb⟩; have BQ1 := Lib.hid (show RowKit.Below r5.heap.size r5 q1 from ⟨hb.os, hb.tape, hb.output, hb.size, hb.block⟩); clear hb))
                        all_goals
                          go_wp2_with fail
                          go_ret
                          exact ⟨rfl, B5.out.trans (BQ3.out.mono B5.out.size)⟩

/-! ### THE ROW's STEP -/
set_option maxRecDepth 100000 in
theorem lifted (os : Os) (started : os.Started) (H : Type) (enc : TypeId × Value → H) :
    ReturnsInHanded {} Try.checked os 5 .any (Rows.arenaNodesSpec.pre6 enc Try.prog Try.f5 Rows.arenaNodesRow.domain false) (Rows.arenaNodesSpec.post enc Try.prog Try.f5 false true false false) := by
  refine returnsInHanded_of_change (C := Try.checked) own started (by kernel_rfl) Try.func5
    (ChangeSpec.witness6 (enc := enc) (C := Try.checked) false ⟨#[], #[.slice none 0 0, .slice none 0 0], []⟩ 8 (by kernel_rfl) (by kernel_rfl) (by kernel_rfl) (by kernel_rfl)) ?_
  intro W base args ds gs before hval0 hW hcnd _
  have hval : ∀ (j : Nat) t v, Try.f5.params[j]? = some t → args[j]? = some v → Value.okWide Try.prog W .any base t v := hval0
  have hW' := hW
  obtain ⟨p, q, hA0, hV, rfl, hfz, hnd⟩ := hW
  have hA : DataW.TrodAll enc Try.prog W 0 (fun _ => true) true Try.f5.params.toList args.toList ds p := hA0
  rw [Try.params5] at hA hval
  obtain ⟨v0, vs0, d0, ds0, p0, q0, hargs, rfl, rfl, h0, r0⟩ := trodAll_cons hA
  obtain ⟨v1, vs1, d1, ds1, p1, q1, rfl, rfl, rfl, h1, r1⟩ := trodAll_cons r0
  obtain ⟨rfl, rfl, rfl⟩ := trodAll_nil r1
  obtain rfl : args = #[v0, v1] := by cases args; simp_all
  obtain ⟨rfl, rfl⟩ := trodVars_none hV
  obtain ⟨a0, len0, cap0, rfl⟩ := okWide_slice Try.underlying22 (hval 0 22 v0 rfl rfl)
  have k0 := h0
  have lt0 : ∀ x ∈ p0, x.block < W.heap.size := by obtain ⟨m, hm⟩ := k0; exact DataW.trod_lt m _ _ _ hm
  have w0 := open_intsT h0
  obtain ⟨a1, len1, cap1, rfl⟩ := okWide_slice Try.underlying23 (hval 1 23 v1 rfl rfl)
  have k1 := h1
  have lt1 : ∀ x ∈ p1, x.block < W.heap.size := by obtain ⟨m, hm⟩ := k1; exact DataW.trod_lt m _ _ _ hm
  have w1 := open_steps h1
  clear hA0 hval0
  refine (walk a0 len0 cap0 a1 len1 cap1 W w0 w1).mono fun e W' ⟨he, bel⟩ => ?_
  subst he
  exact ⟨_, rfl, _, _, _, [], _, [], hW', trodAll_mk1 (shut_bool Try.underlying4 _), (trodAll_cons_mk (Below.trod laidOut (by kernel_rfl) (of_decide_eq_true (by kernel_rfl)) k0 bel lt0) (trodAll_cons_mk (Below.trod laidOut (by kernel_rfl) (of_decide_eq_true (by kernel_rfl)) k1 bel lt1) trodAll_mk0)), rfl, bel.frame _, fun h => by cases h⟩

theorem over : Rows.arenaNodesRow.holds Try.pinned (OpenSpec.ofChange Rows.arenaNodesSpec) :=
  OpenClaim.holds_of_wide 5 Try.f5 rfl rfl rfl rfl rfl rfl rfl ⟨rfl, rfl, rfl, rfl, rfl⟩ rfl rfl rfl rfl rfl (by kernel_rfl) Try.func5 (by kernel_rfl)
    (of_decide_eq_true (by kernel_rfl)) (by unfold Func.isWrapper; first | (rw [if_pos (by decide +kernel)]; kernel_rfl) | (rw [if_neg (by decide +kernel)]; exact ⟨rfl, rfl⟩))
    (fun os started H enc _ => lifted os started H enc)

/-- ████ THE STATEMENT ████ -/
theorem proved : Rows.ArenaNodesSaid := over
#print axioms proved
end Go.Proofs.Ytcmnmimkjkpimaa.arenaNodes
