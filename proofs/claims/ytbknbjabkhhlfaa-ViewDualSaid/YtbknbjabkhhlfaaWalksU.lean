/-
  The walk of the tape's node.
-/
import Derived.Test.YtbknbjabkhhlfaaWalksC1
import Derived.Test.YtbknbjabkhhlfaaWalksG
import Derived.Deep.RegionHeld3
set_option linter.unusedVariables false
set_option maxRecDepth 100000
namespace Go.Proofs.Ytbknbjabkhhlfaa
open Go.Shelf Go.RowKit Go.Lib Go.Sort


theorem grown_refl (a : World) (T : Nat) : a.grownBy a (some T) := ⟨rfl, rfl, rfl, Nat.le_refl _, fun _ _ _ => rfl⟩
def RdX (w : World) (lo hi : Nat) (A : Option Addr) (cs : List Value) : Prop :=
  0 < cs.length → ∃ ad, A = some ad ∧ lo ≤ ad.block ∧ ad.block < hi ∧ ∀ j u, cs[j]? = some u → w.cell? (ad.add j) = some u
theorem RdX.keep {w w' : World} {lo hi : Nat} {A : Option Addr} {cs : List Value} (h : RdX w lo hi A cs) (hk : ∀ k, lo ≤ k → k < hi → w'.heap[k]? = w.heap[k]?) : RdX w' lo hi A cs := fun hn => by
  obtain ⟨ad, e, h1, h2, hc⟩ := h hn
  exact ⟨ad, e, h1, h2, fun j u hu => (World.cell?_of_block (hk _ (by rw [block_add]; exact h1) (by rw [block_add]; exact h2))).trans (hc j u hu)⟩
theorem Own.rdX {w : World} {base : Nat} {A : Option Addr} {c : Nat} {xs : List Pr} (h : Own w base (.slice A xs.length c) xs) : RdX w base w.heap.size A (flat xs) := by
  rcases h.2 with ⟨hv, hn⟩ | ⟨g, cap, cur, hv, hb, hg, hnc, hcm, hcs, ht⟩
  · have : xs = [] := List.eq_nil_of_length_eq_zero hn
    subst this
    exact fun h => absurd h (by simp [flat_nil])
  · injection hv with e1 e2 e3
    subst e1
    exact fun _ => ⟨_, rfl, hb, (Array.getElem?_eq_some_iff.1 hg).1, h.cells (g := g) rfl⟩
theorem OwnR.rdX {w : World} {base : Nat} {A : Option Addr} {c : Nat} {xs : List Int} (h : OwnR w base (.slice A xs.length c) xs) : RdX w base w.heap.size A (flatR xs) := by
  rcases h.2 with ⟨hv, hn⟩ | ⟨g, cap, cur, hv, hb, hg, hnc, hcm, hcs, ht⟩
  · have : xs = [] := List.eq_nil_of_length_eq_zero hn
    subst this
    exact fun h => absurd h (by simp [flatR])
  · injection hv with e1 e2 e3
    subst e1
    exact fun _ => ⟨_, rfl, hb, (Array.getElem?_eq_some_iff.1 hg).1, h.cells (g := g) rfl⟩
theorem RdX.rd {w : World} {lo hi : Nat} {A : Option Addr} {xs : List Pr} (h : RdX w lo hi A (flat xs)) : Rd w hi A xs := fun hn => by
  obtain ⟨ad, e, h1, h2, hc⟩ := h (by rw [flat_length]; omega)
  exact ⟨ad, e, h2, hc⟩
theorem RdX.rdR {w : World} {lo hi : Nat} {A : Option Addr} {xs : List Int} (h : RdX w lo hi A (flatR xs)) : RdR w hi A xs := fun hn => by
  obtain ⟨ad, e, h1, h2, hc⟩ := h (by rw [flatR_length]; omega)
  exact ⟨ad, e, h2, hc⟩


/-- A valid node of a tape: its Refs are from 1 to rf, it has no cells yet. -/
structure VN (rf : Nat) (n : Nd) : Prop where
  val : validN n = true
  gen : n.gen ≤ 3
  main : n.main = 0
  prev : n.prev = 0
  status : n.status = 0
  bs : ∀ z ∈ n.bs, 0 ≤ z ∧ z ≤ rf
  old : 0 ≤ n.old ∧ n.old ≤ rf
  exp : 0 ≤ n.exp ∧ n.exp ≤ rf
  new : 0 ≤ n.new ∧ n.new ≤ rf
/-- Its lists lie from block lo on. -/
def FRs (lo : Nat) (n : Nd) : Prop := (∀ ad, n.bA = some ad → lo ≤ ad.block) ∧ (∀ ad, n.pA = some ad → lo ≤ ad.block)
theorem frs_none {lo : Nat} {n : Nd} (h1 : n.bA = none) (h2 : n.pA = none) : FRs lo n := ⟨fun ad e => by (rw [h1] at e; cases e), fun ad e => by (rw [h2] at e; cases e)⟩
theorem vn_I (rf q : Nat) (hq : q < 3) : VN rf { Nd.zero with kind := 2, gen := (1 : Int) + (q : Int) } := by
  refine ⟨?_, by show (1 : Int) + (q : Int) ≤ 3; omega, rfl, rfl, rfl, (fun z hz => by cases hz), ⟨Int.le_refl 0, Int.natCast_nonneg rf⟩, ⟨Int.le_refl 0, Int.natCast_nonneg rf⟩, ⟨Int.le_refl 0, Int.natCast_nonneg rf⟩⟩
  have : decide ((1 : Int) ≤ 1 + (q : Int)) = true := decide_eq_true (by omega)
  simp [validN, eqN, own, cellsB, fieldsB, Nd.zero, this]
theorem longK_short {k : ByteArray} (h : k.size ≤ 10) : longK k = false := decide_eq_false (by omega)
theorem vn_S (rf : Nat) (q p : Int) (ks : ByteArray) (hk : ks.size ≤ 3) : VN rf { Nd.zero with kind := 4, hash := q, key := ks, val := p } := by
  refine ⟨?_, by show (0 : Int) ≤ 3; omega, rfl, rfl, rfl, (fun z hz => by cases hz), ⟨Int.le_refl 0, Int.natCast_nonneg rf⟩, ⟨Int.le_refl 0, Int.natCast_nonneg rf⟩, ⟨Int.le_refl 0, Int.natCast_nonneg rf⟩⟩
  have := longK_short (Nat.le_trans hk (by omega : 3 ≤ 10))
  simp [validN, eqN, own, cellsB, fieldsB, Nd.zero, this]
theorem vn_T (rf : Nat) (q p : Int) (ks : ByteArray) (hk : ks.size ≤ 3) : VN rf { Nd.zero with kind := 5, hash := q, key := ks, val := p } := by
  refine ⟨?_, by show (0 : Int) ≤ 3; omega, rfl, rfl, rfl, (fun z hz => by cases hz), ⟨Int.le_refl 0, Int.natCast_nonneg rf⟩, ⟨Int.le_refl 0, Int.natCast_nonneg rf⟩, ⟨Int.le_refl 0, Int.natCast_nonneg rf⟩⟩
  have := longK_short (Nat.le_trans hk (by omega : 3 ≤ 10))
  simp [validN, eqN, own, cellsB, fieldsB, Nd.zero, this]
theorem lowK_pos {z : Nat} (h : 1 ≤ z) : lowK (z : Int) = false := decide_eq_false (by omega)
theorem vn_D (rf q p u : Nat) (hq : 1 ≤ q) (hp : 1 ≤ p) (hu : 1 ≤ u) (hq' : q ≤ rf) (hp' : p ≤ rf) (hu' : u ≤ rf) : VN rf { Nd.zero with kind := 8, old := (q : Int), exp := (p : Int), new := (u : Int) } := by
  refine ⟨?_, by show (0 : Int) ≤ 3; omega, rfl, rfl, rfl, (fun z hz => by cases hz), ?_, ?_, ?_⟩
  · simp [validN, eqN, own, cellsB, fieldsB, Nd.zero, lowK_pos hq, lowK_pos hp, lowK_pos hu]
  · show 0 ≤ (q : Int) ∧ (q : Int) ≤ rf; omega
  · show 0 ≤ (p : Int) ∧ (p : Int) ≤ rf; omega
  · show 0 ≤ (u : Int) ∧ (u : Int) ≤ rf; omega
theorem kl_ab (ks : ByteArray) : kl ⟨#[97]⟩ (⟨#[98]⟩ ++ ks) = true := by
  have e : (⟨#[98]⟩ ++ ks : ByteArray).data.toList = 98 :: ks.data.toList := by simp
  simp only [kl, ltStr, e]
  exact decide_eq_true (List.Lex.rel (by decide))
theorem vn_L (rf : Nat) (q p : Int) (ks : ByteArray) (hk : ks.size ≤ 3) (A : Option Addr) : VN rf { Nd.zero with kind := 6, hash := q, pA := A, pc := 2, ps := [(⟨#[97]⟩, p), (⟨#[98]⟩ ++ ks, 2)] } := by
  refine ⟨?_, by show (0 : Int) ≤ 3; omega, rfl, rfl, rfl, (fun z hz => by cases hz), ⟨Int.le_refl 0, Int.natCast_nonneg rf⟩, ⟨Int.le_refl 0, Int.natCast_nonneg rf⟩, ⟨Int.le_refl 0, Int.natCast_nonneg rf⟩⟩
  have h1 : validB [((⟨#[97]⟩ : ByteArray), p), (⟨#[98]⟩ ++ ks, 2)] = true := validB_true (by simp [Asc, kl_ab])
  have h2 : longB [((⟨#[97]⟩ : ByteArray), p), (⟨#[98]⟩ ++ ks, 2)] = false := by
    have a : longK (⟨#[97]⟩ : ByteArray) = false := by decide
    have b : longK (⟨#[98]⟩ ++ ks : ByteArray) = false := longK_short (by rw [ByteArray.size_append]; have : (⟨#[98]⟩ : ByteArray).size = 1 := rfl; omega)
    simp [longB, a, b]
  simp [validN, eqN, own, cellsB, fieldsB, Nd.zero, h1, h2]
theorem vn_C (rf : Nat) (bm : Int) (A : Option Addr) (c : Nat) (ys : List Int) (hl : (ys.length : Int) = cntI bm) (hy : ∀ z ∈ ys, 1 ≤ z ∧ z ≤ (rf : Int)) : VN rf { Nd.zero with kind := 3, bm := bm, bA := A, bc := c, bs := ys } := by
  refine ⟨?_, by show (0 : Int) ≤ 3; omega, rfl, rfl, rfl, (fun z hz => ⟨by have := (hy z hz).1; omega, (hy z hz).2⟩), ⟨Int.le_refl 0, Int.natCast_nonneg rf⟩, ⟨Int.le_refl 0, Int.natCast_nonneg rf⟩, ⟨Int.le_refl 0, Int.natCast_nonneg rf⟩⟩
  have h : lowB ys = false := lowB_false fun j z hj hz => decide_eq_false (by have := (hy z (List.mem_of_getElem? hz)).1; omega)
  have h2 : ((ys.length : Int) == cntI bm) = true := beq_iff_eq.2 hl
  simp [validN, eqN, own, cellsB, fieldsB, Nd.zero, h, h2]

theorem wrap_u64_range (y : Int) : U64 (IntKind.u64.wrap y) := by rw [IntKind.wrap_u64]; unfold U64; omega
theorem or_wrap_u64 {b : Int} (hb : U64 b) (y : Int) : U64 (bits .or .u64 b (IntKind.u64.wrap y)) := by
  rw [or_u64 hb (wrap_u64_range y)]
  exact u64_nat _ (Nat.or_lt_two_pow (nat_lt hb) (nat_lt (wrap_u64_range y)))
theorem xor_wrap_u64 {b : Int} (hb : U64 b) (y : Int) : U64 (bits .xor .u64 b (IntKind.u64.wrap y)) := by
  have e := u64_xor _ _ hb.1 hb.2 (wrap_u64_range y).1 (wrap_u64_range y).2
  rw [e]
  exact u64_nat _ (Nat.xor_lt_two_pow (nat_lt hb) (nat_lt (wrap_u64_range y)))
theorem one_rdR (w : World) (x : Int) : RdR (w.alloc (.cells #[.int .i64 x] 29)) (w.heap.size + 1) (some ⟨w.heap.size, 0, none⟩) [x] := fun _ =>
  ⟨_, rfl, Nat.lt_succ_self _, fun j u hj => by
    have := cell_of_row (w.alloc (.cells #[.int .i64 x] 29)) w.heap.size j #[.int .i64 x] 29 (0, 0) (heap_alloc_new w _)
    rw [Addr.add_lit, Nat.zero_add]
    exact this.trans (by simpa [flatR] using hj)⟩
theorem step_append_anyR {w w0 : World} {ops : Array Oper} {o : Oper} {a : Act} {K : Act → World → Prop} {Q : Exit → Act → World → Prop} {E : Prop} (hgd : o.guard = none) (s x : Operand)
    (ho : o.op = .call { callee := .builtin .append, args := #[s, x], argTypes := #[32, 32] }) (base : Nat) (v : Value) (ys : List Int) (hs : a.eval s = v) (hown : OwnR w base v ys)
    (A : Option Addr) (m c B : Nat) (ns : List Int) (hx : a.eval x = .slice A m c) (hm : m = ns.length) (hR : RdR w B A ns) (hA : A = none → c = 0)
    (hn : ys.length + ns.length ≤ 1000000) (hb : Below base w0 w) (hbase : base ≤ w.heap.size)
    (h : ∀ v' w', Hid (OwnR w' base v' (ys ++ ns)) → Below base w0 w' → K (a.put o.dst v') w') :
    if Region.wanted o (yielded ops a.tmps) = true then Oper.wp Try.prog o a w K Q else E := by
  have hw : Region.wanted o (yielded ops a.tmps) = true := by simp [Region.wanted, hgd]
  rw [if_pos hw]
  obtain ⟨v', w', hr, h2, h3⟩ := run_append_anyR o.type base v ys hown A m c B ns hm hR hA hn hbase
  unfold Oper.wp execOp
  simp only [ho, resolve, invoke, builtin, Sem.run_bind, Sem.run_pure, Result.andThen_ok, List.map_toArray, List.map_cons, List.map_nil, hs, hx, hr]
  exact h v' w' h2 (hb.trans h3)

def RefPost (T n : Nat) (w : World) (e : Ending) (w' : World) : Prop := ∃ r : Nat, 1 ≤ r ∧ r ≤ n ∧ e = .returned (.int .i64 r) ∧ Tape T w' ∧ w.grownBy w' (some T)
theorem ref_any (T n : Nat) (w : World) (h : Tape T w) (h1 : 1 ≤ n) (h2 : n ≤ 123) :
    Calls Try.prog 110 #[.pointer (some ⟨T, 0, none⟩), .int .i64 n] w (RefPost T n w) := by
  have H := Lib.hid h
  clear h
  go_enter Try.func110, Try.ntmps110
  go_wp2_with (go_at_call 19; refine (next_any T n w H.out h1 (by omega)).mono ?_; rintro e w1 ⟨r, hr, rfl, hT, hg⟩; have T1 := Lib.hid hT; have G1 := Lib.hid hg; clear hT hg)
  go_ret
  exact ⟨r + 1, by omega, by omega, ret_int (by omega), T1.out, G1.out⟩

/-- A node with short lists and a short key, whose slices are as Go makes them. -/
structure GoodN (w : World) (n : Nd) : Prop where
  rd : NRd w w.heap.size n
  ba : n.bA = none → n.bc = 0
  pa : n.pA = none → n.pc = 0
  bc : n.bs.length ≤ n.bc
  pc : n.ps.length ≤ n.pc
  bl : n.bs.length ≤ 123
  pl : n.ps.length ≤ 123
  key : n.key.size ≤ 123
def NodePost (T rf : Nat) (w : World) (e : Ending) (w' : World) : Prop := ∃ n : Nd, e = .returned (.agg n.cs) ∧ GoodN w' n ∧ Tape T w' ∧ w.grownBy w' (some T) ∧ VN rf n ∧ FRs w.heap.size n
theorem good_plain {w : World} {n : Nd} (h1 : n.bA = none) (h2 : n.bc = 0) (h3 : n.bs = []) (h4 : n.pA = none) (h5 : n.pc = 0) (h6 : n.ps = []) (h7 : n.bm = 0) (h8 : n.key.size ≤ 123) : GoodN w n := by
  obtain ⟨kind, gen, main, bm, bA, bc, bs, hash, key, val, pA, pc, ps, prev, old, exp, new, status⟩ := n
  simp only at h1 h2 h3 h4 h5 h6 h7 h8
  subst h1 h2 h3 h4 h5 h6 h7
  exact ⟨⟨RdR.nil, Rd.nil, u64_zero, Nat.zero_le _, Nat.zero_le _⟩, fun _ => rfl, fun _ => rfl, Nat.zero_le _, Nat.zero_le _, Nat.zero_le _, Nat.zero_le _, h8⟩
theorem end_tape {wk : World} {T s : Nat} (h : Tape T wk) (hs : T < s) (cs : Array Value) : Tape T (wk.setRow s cs) := h.kept (fun k hk => setRow_other _ _ _ _ (by omega)) (by simp)
theorem end_grown {w wk : World} {T s : Nat} (G : w.grownBy wk (some T)) (hs : w.heap.size ≤ s) (cs : Array Value) : w.grownBy (wk.setRow s cs) (some T) :=
  ⟨G.os, G.tape, G.output, by simpa using G.size, fun k hk hne => (setRow_other _ _ _ _ (by omega)).trans (G.block k hk hne)⟩

set_option maxRecDepth 100000 in
set_option maxHeartbeats 16000000 in
theorem node_any (T rf : Nat) (w : World) (h : Tape T w) (hr1 : 1 ≤ rf) (hr2 : rf ≤ 123) : Calls Try.prog 109 #[.pointer (some ⟨T, 0, none⟩), .int .i64 rf] w (NodePost T rf w) := by
  have mixed := mixedOrders
  have hT := h.lt
  obtain ⟨W, hW⟩ : ∃ W, W = w.alloc (.cells #[.int .i64 0, .int .i64 0, .int .i64 0, .int .u64 0, .slice none 0 0, .int .u64 0, .string ⟨#[]⟩, .int .u64 0, .slice none 0 0, .int .i64 0, .int .i64 0, .int .i64 0, .int .i64 0, .int .i64 0] 35) := ⟨_, rfl⟩
  have HG := Lib.hid (show W.heap[w.heap.size]? = some (.cells #[.int .i64 0, .int .i64 0, .int .i64 0, .int .u64 0, .slice none 0 0, .int .u64 0, .string ⟨#[]⟩, .int .u64 0, .slice none 0 0, .int .i64 0, .int .i64 0, .int .i64 0, .int .i64 0, .int .i64 0] 35 (0, 0)) by rw [hW]; exact heap_alloc_new w _)
  have HTW := Lib.hid (show Tape T W by rw [hW]; exact h.below ((Below.refl w.heap.size w).alloc (Nat.le_refl _) _) hT)
  have HGW := Lib.hid (show w.grownBy W (some T) by rw [hW]; exact grown_alloc (grown_refl w T) _)
  have HsW := Lib.hid (show W.heap.size = w.heap.size + 1 by rw [hW]; simp)
  have HW := Lib.hid hW.symm
  clear hW h
  go_enter Try.func109, Try.ntmps109
  go_wp2_with fail
  rw [HW.out]
  refine (next_any T 7 W HTW.out (by omega) (by omega)).mono ?_
  rintro e w1 ⟨r, hr, rfl, hT1, hg1⟩
  have TP := Lib.hid hT1
  have GP := Lib.hid hg1
  clear hT1 hg1
  rcases (by omega : r = 0 ∨ r = 3 ∨ r = 5 ∨ r = 6 ∨ r = 4 ∨ r = 1 ∨ r = 2) with rfl | rfl | rfl | rfl | rfl | rfl | rfl
  · go_wp2_with fail
    refine (next_any T 3 w1 TP.out (by omega) (by omega)).mono ?_
    rintro e w2 ⟨q, hq, rfl, hT1, hg1⟩
    have TP := Lib.hid hT1
    have GP := Lib.hid (grown_trans_ GP.out hg1)
    clear hT1 hg1
    have Hg := Lib.hid ((GP.out.block w.heap.size (by rw [HsW.out]; omega) (fun e => by injection e; omega)).trans HG.out)
    go_wp2_with ((refine wpList_store_row rfl 35 (.tmp 4) (.tmp 15) rfl w.heap.size #[.int .i64 2, .int .i64 ((1 : Int) + (q : Int)), .int .i64 0, .int .u64 0, .slice none 0 0, .int .u64 0, .string ⟨#[]⟩, .int .u64 0, .slice none 0 0, .int .i64 0, .int .i64 0, .int .i64 0, .int .i64 0, .int .i64 0] rfl rfl 35 _ Hg.out nodeSize rfl (by simp [Value.oneCell']) ?_))
    obtain ⟨V, hV⟩ : ∃ V, V = w2.setRow w.heap.size #[.int .i64 2, .int .i64 ((1 : Int) + (q : Int)), .int .i64 0, .int .u64 0, .slice none 0 0, .int .u64 0, .string ⟨#[]⟩, .int .u64 0, .slice none 0 0, .int .i64 0, .int .i64 0, .int .i64 0, .int .i64 0, .int .i64 0] := ⟨_, rfl⟩
    have hg := setRow_heap w2 w.heap.size _ #[.int .i64 2, .int .i64 ((1 : Int) + (q : Int)), .int .i64 0, .int .u64 0, .slice none 0 0, .int .u64 0, .string ⟨#[]⟩, .int .u64 0, .slice none 0 0, .int .i64 0, .int .i64 0, .int .i64 0, .int .i64 0, .int .i64 0] 35 (0, 0) Hg.out
    rw [← hV] at hg ⊢
    have TV := Lib.hid (show Tape T V by rw [hV]; exact end_tape TP.out hT _)
    have GV := Lib.hid (show w.grownBy V (some T) by rw [hV]; exact end_grown (grown_trans_ HGW.out GP.out) (Nat.le_refl _) _)
    clear hV
    have d0 := node_cellA hg (i := 0) (v := .int .i64 2) rfl
    have d1 := node_cellA hg (i := 1) (v := .int .i64 ((1 : Int) + (q : Int))) rfl
    have d2 := node_cellA hg (i := 2) (v := .int .i64 0) rfl
    have d3 := node_cellA hg (i := 3) (v := .int .u64 0) rfl
    have d4 := node_cellA hg (i := 4) (v := .slice none 0 0) rfl
    have d5 := node_cellA hg (i := 5) (v := .int .u64 0) rfl
    have d6 := node_cellA hg (i := 6) (v := .string ⟨#[]⟩) rfl
    have d7 := node_cellA hg (i := 7) (v := .int .u64 0) rfl
    have d8 := node_cellA hg (i := 8) (v := .slice none 0 0) rfl
    have d9 := node_cellA hg (i := 9) (v := .int .i64 0) rfl
    have d10 := node_cellA hg (i := 10) (v := .int .i64 0) rfl
    have d11 := node_cellA hg (i := 11) (v := .int .i64 0) rfl
    have d12 := node_cellA hg (i := 12) (v := .int .i64 0) rfl
    have d13 := node_cellA hg (i := 13) (v := .int .i64 0) rfl
    clear hg
    exact bodyPost_ret (v := .agg #[.int .i64 2, .int .i64 ((1 : Int) + (q : Int)), .int .i64 0, .int .u64 0, .slice none 0 0, .int .u64 0, .string ⟨#[]⟩, .int .u64 0, .slice none 0 0, .int .i64 0, .int .i64 0, .int .i64 0, .int .i64 0, .int .i64 0]) (by simp [results, Try.results109, go_sem, d0, d1, d2, d3, d4, d5, d6, d7, d8, d9, d10, d11, d12, d13]) rfl ⟨{ Nd.zero with kind := 2, gen := (1 : Int) + (q : Int) }, rfl, good_plain rfl rfl rfl rfl rfl rfl rfl (Nat.zero_le 123), TV.out, GV.out, vn_I rf q hq, frs_none rfl rfl⟩
  · go_wp2_with fail
    refine (next_any T 1048576 w1 TP.out (by omega) (by omega)).mono ?_
    rintro e w2 ⟨q, hq, rfl, hT1, hg1⟩
    have TP := Lib.hid hT1
    have GP := Lib.hid (grown_trans_ GP.out hg1)
    clear hT1 hg1
    go_wp2_with fail
    refine (key_any T w2 TP.out).mono ?_
    rintro e w3 ⟨ks, hks, rfl, hT1, hg1⟩
    have TP := Lib.hid hT1
    have GP := Lib.hid (grown_trans_ GP.out hg1)
    clear hT1 hg1
    go_wp2_with fail
    refine (next_any T 9 w3 TP.out (by omega) (by omega)).mono ?_
    rintro e w4 ⟨p, hp, rfl, hT1, hg1⟩
    have TP := Lib.hid hT1
    have GP := Lib.hid (grown_trans_ GP.out hg1)
    clear hT1 hg1
    have Hg := Lib.hid ((GP.out.block w.heap.size (by rw [HsW.out]; omega) (fun e => by injection e; omega)).trans HG.out)
    go_wp2_with ((refine wpList_store_row rfl 35 (.tmp 4) (.tmp 61) rfl w.heap.size #[.int .i64 5, .int .i64 0, .int .i64 0, .int .u64 0, .slice none 0 0, .int .u64 (q : Int), .string ks, .int .u64 (p : Int), .slice none 0 0, .int .i64 0, .int .i64 0, .int .i64 0, .int .i64 0, .int .i64 0] rfl rfl 35 _ Hg.out nodeSize rfl (by simp [Value.oneCell']) ?_))
    obtain ⟨V, hV⟩ : ∃ V, V = w4.setRow w.heap.size #[.int .i64 5, .int .i64 0, .int .i64 0, .int .u64 0, .slice none 0 0, .int .u64 (q : Int), .string ks, .int .u64 (p : Int), .slice none 0 0, .int .i64 0, .int .i64 0, .int .i64 0, .int .i64 0, .int .i64 0] := ⟨_, rfl⟩
    have hg := setRow_heap w4 w.heap.size _ #[.int .i64 5, .int .i64 0, .int .i64 0, .int .u64 0, .slice none 0 0, .int .u64 (q : Int), .string ks, .int .u64 (p : Int), .slice none 0 0, .int .i64 0, .int .i64 0, .int .i64 0, .int .i64 0, .int .i64 0] 35 (0, 0) Hg.out
    rw [← hV] at hg ⊢
    have TV := Lib.hid (show Tape T V by rw [hV]; exact end_tape TP.out hT _)
    have GV := Lib.hid (show w.grownBy V (some T) by rw [hV]; exact end_grown (grown_trans_ HGW.out GP.out) (Nat.le_refl _) _)
    clear hV
    have d0 := node_cellA hg (i := 0) (v := .int .i64 5) rfl
    have d1 := node_cellA hg (i := 1) (v := .int .i64 0) rfl
    have d2 := node_cellA hg (i := 2) (v := .int .i64 0) rfl
    have d3 := node_cellA hg (i := 3) (v := .int .u64 0) rfl
    have d4 := node_cellA hg (i := 4) (v := .slice none 0 0) rfl
    have d5 := node_cellA hg (i := 5) (v := .int .u64 (q : Int)) rfl
    have d6 := node_cellA hg (i := 6) (v := .string ks) rfl
    have d7 := node_cellA hg (i := 7) (v := .int .u64 (p : Int)) rfl
    have d8 := node_cellA hg (i := 8) (v := .slice none 0 0) rfl
    have d9 := node_cellA hg (i := 9) (v := .int .i64 0) rfl
    have d10 := node_cellA hg (i := 10) (v := .int .i64 0) rfl
    have d11 := node_cellA hg (i := 11) (v := .int .i64 0) rfl
    have d12 := node_cellA hg (i := 12) (v := .int .i64 0) rfl
    have d13 := node_cellA hg (i := 13) (v := .int .i64 0) rfl
    clear hg
    exact bodyPost_ret (v := .agg #[.int .i64 5, .int .i64 0, .int .i64 0, .int .u64 0, .slice none 0 0, .int .u64 (q : Int), .string ks, .int .u64 (p : Int), .slice none 0 0, .int .i64 0, .int .i64 0, .int .i64 0, .int .i64 0, .int .i64 0]) (by simp [results, Try.results109, go_sem, d0, d1, d2, d3, d4, d5, d6, d7, d8, d9, d10, d11, d12, d13]) rfl ⟨{ Nd.zero with kind := 5, hash := (q : Int), key := ks, val := (p : Int) }, rfl, good_plain rfl rfl rfl rfl rfl rfl rfl (Nat.le_trans hks (by omega)), TV.out, GV.out, vn_T rf _ _ ks hks, frs_none rfl rfl⟩
  · go_wp2_with fail
    refine (ref_any T rf w1 TP.out hr1 hr2).mono ?_
    rintro e w2 ⟨q, hq1, hq2, rfl, hT1, hg1⟩
    have TP := Lib.hid hT1
    have GP := Lib.hid (grown_trans_ GP.out hg1)
    clear hT1 hg1
    go_wp2_with fail
    refine (ref_any T rf w2 TP.out hr1 hr2).mono ?_
    rintro e w3 ⟨p, hp1, hp2, rfl, hT1, hg1⟩
    have TP := Lib.hid hT1
    have GP := Lib.hid (grown_trans_ GP.out hg1)
    clear hT1 hg1
    go_wp2_with fail
    refine (ref_any T rf w3 TP.out hr1 hr2).mono ?_
    rintro e w4 ⟨u, hu1, hu2, rfl, hT1, hg1⟩
    have RQ := Lib.hid (⟨hq1, hp1, hu1, hq2, hp2, hu2⟩ : 1 ≤ q ∧ 1 ≤ p ∧ 1 ≤ u ∧ q ≤ rf ∧ p ≤ rf ∧ u ≤ rf)
    clear hq1 hp1 hu1 hq2 hp2 hu2
    have TP := Lib.hid hT1
    have GP := Lib.hid (grown_trans_ GP.out hg1)
    clear hT1 hg1
    have Hg := Lib.hid ((GP.out.block w.heap.size (by rw [HsW.out]; omega) (fun e => by injection e; omega)).trans HG.out)
    go_wp2_with ((refine wpList_store_row rfl 35 (.tmp 4) (.tmp 88) rfl w.heap.size #[.int .i64 8, .int .i64 0, .int .i64 0, .int .u64 0, .slice none 0 0, .int .u64 0, .string ⟨#[]⟩, .int .u64 0, .slice none 0 0, .int .i64 0, .int .i64 (q : Int), .int .i64 (p : Int), .int .i64 (u : Int), .int .i64 0] rfl rfl 35 _ Hg.out nodeSize rfl (by simp [Value.oneCell']) ?_))
    obtain ⟨V, hV⟩ : ∃ V, V = w4.setRow w.heap.size #[.int .i64 8, .int .i64 0, .int .i64 0, .int .u64 0, .slice none 0 0, .int .u64 0, .string ⟨#[]⟩, .int .u64 0, .slice none 0 0, .int .i64 0, .int .i64 (q : Int), .int .i64 (p : Int), .int .i64 (u : Int), .int .i64 0] := ⟨_, rfl⟩
    have hg := setRow_heap w4 w.heap.size _ #[.int .i64 8, .int .i64 0, .int .i64 0, .int .u64 0, .slice none 0 0, .int .u64 0, .string ⟨#[]⟩, .int .u64 0, .slice none 0 0, .int .i64 0, .int .i64 (q : Int), .int .i64 (p : Int), .int .i64 (u : Int), .int .i64 0] 35 (0, 0) Hg.out
    rw [← hV] at hg ⊢
    have TV := Lib.hid (show Tape T V by rw [hV]; exact end_tape TP.out hT _)
    have GV := Lib.hid (show w.grownBy V (some T) by rw [hV]; exact end_grown (grown_trans_ HGW.out GP.out) (Nat.le_refl _) _)
    clear hV
    have d0 := node_cellA hg (i := 0) (v := .int .i64 8) rfl
    have d1 := node_cellA hg (i := 1) (v := .int .i64 0) rfl
    have d2 := node_cellA hg (i := 2) (v := .int .i64 0) rfl
    have d3 := node_cellA hg (i := 3) (v := .int .u64 0) rfl
    have d4 := node_cellA hg (i := 4) (v := .slice none 0 0) rfl
    have d5 := node_cellA hg (i := 5) (v := .int .u64 0) rfl
    have d6 := node_cellA hg (i := 6) (v := .string ⟨#[]⟩) rfl
    have d7 := node_cellA hg (i := 7) (v := .int .u64 0) rfl
    have d8 := node_cellA hg (i := 8) (v := .slice none 0 0) rfl
    have d9 := node_cellA hg (i := 9) (v := .int .i64 0) rfl
    have d10 := node_cellA hg (i := 10) (v := .int .i64 (q : Int)) rfl
    have d11 := node_cellA hg (i := 11) (v := .int .i64 (p : Int)) rfl
    have d12 := node_cellA hg (i := 12) (v := .int .i64 (u : Int)) rfl
    have d13 := node_cellA hg (i := 13) (v := .int .i64 0) rfl
    clear hg
    exact bodyPost_ret (v := .agg #[.int .i64 8, .int .i64 0, .int .i64 0, .int .u64 0, .slice none 0 0, .int .u64 0, .string ⟨#[]⟩, .int .u64 0, .slice none 0 0, .int .i64 0, .int .i64 (q : Int), .int .i64 (p : Int), .int .i64 (u : Int), .int .i64 0]) (by simp [results, Try.results109, go_sem, d0, d1, d2, d3, d4, d5, d6, d7, d8, d9, d10, d11, d12, d13]) rfl ⟨{ Nd.zero with kind := 8, old := (q : Int), exp := (p : Int), new := (u : Int) }, rfl, good_plain rfl rfl rfl rfl rfl rfl rfl (Nat.zero_le 123), TV.out, GV.out, vn_D rf q p u RQ.out.1 RQ.out.2.1 RQ.out.2.2.1 RQ.out.2.2.2.1 RQ.out.2.2.2.2.1 RQ.out.2.2.2.2.2, frs_none rfl rfl⟩
  · go_wp2_with fail
    refine (next_any T 1048576 w1 TP.out (by omega) (by omega)).mono ?_
    rintro e w2 ⟨q, hq, rfl, hT1, hg1⟩
    have TP := Lib.hid hT1
    have GP := Lib.hid (grown_trans_ GP.out hg1)
    clear hT1 hg1
    go_wp2_with fail
    refine (key_any T w2 TP.out).mono ?_
    rintro e w3 ⟨ks, hks, rfl, hT1, hg1⟩
    have TP := Lib.hid hT1
    have GP := Lib.hid (grown_trans_ GP.out hg1)
    clear hT1 hg1
    go_wp2_with fail
    refine (next_any T 9 w3 TP.out (by omega) (by omega)).mono ?_
    rintro e w4 ⟨p, hp, rfl, hT1, hg1⟩
    have TP := Lib.hid hT1
    have GP := Lib.hid (grown_trans_ GP.out hg1)
    clear hT1 hg1
    have Hg := Lib.hid ((GP.out.block w.heap.size (by rw [HsW.out]; omega) (fun e => by injection e; omega)).trans HG.out)
    go_wp2_with ((refine wpList_store_row rfl 35 (.tmp 4) (.tmp 97) rfl w.heap.size #[.int .i64 4, .int .i64 0, .int .i64 0, .int .u64 0, .slice none 0 0, .int .u64 (q : Int), .string ks, .int .u64 (p : Int), .slice none 0 0, .int .i64 0, .int .i64 0, .int .i64 0, .int .i64 0, .int .i64 0] rfl rfl 35 _ Hg.out nodeSize rfl (by simp [Value.oneCell']) ?_))
    obtain ⟨V, hV⟩ : ∃ V, V = w4.setRow w.heap.size #[.int .i64 4, .int .i64 0, .int .i64 0, .int .u64 0, .slice none 0 0, .int .u64 (q : Int), .string ks, .int .u64 (p : Int), .slice none 0 0, .int .i64 0, .int .i64 0, .int .i64 0, .int .i64 0, .int .i64 0] := ⟨_, rfl⟩
    have hg := setRow_heap w4 w.heap.size _ #[.int .i64 4, .int .i64 0, .int .i64 0, .int .u64 0, .slice none 0 0, .int .u64 (q : Int), .string ks, .int .u64 (p : Int), .slice none 0 0, .int .i64 0, .int .i64 0, .int .i64 0, .int .i64 0, .int .i64 0] 35 (0, 0) Hg.out
    rw [← hV] at hg ⊢
    have TV := Lib.hid (show Tape T V by rw [hV]; exact end_tape TP.out hT _)
    have GV := Lib.hid (show w.grownBy V (some T) by rw [hV]; exact end_grown (grown_trans_ HGW.out GP.out) (Nat.le_refl _) _)
    clear hV
    have d0 := node_cellA hg (i := 0) (v := .int .i64 4) rfl
    have d1 := node_cellA hg (i := 1) (v := .int .i64 0) rfl
    have d2 := node_cellA hg (i := 2) (v := .int .i64 0) rfl
    have d3 := node_cellA hg (i := 3) (v := .int .u64 0) rfl
    have d4 := node_cellA hg (i := 4) (v := .slice none 0 0) rfl
    have d5 := node_cellA hg (i := 5) (v := .int .u64 (q : Int)) rfl
    have d6 := node_cellA hg (i := 6) (v := .string ks) rfl
    have d7 := node_cellA hg (i := 7) (v := .int .u64 (p : Int)) rfl
    have d8 := node_cellA hg (i := 8) (v := .slice none 0 0) rfl
    have d9 := node_cellA hg (i := 9) (v := .int .i64 0) rfl
    have d10 := node_cellA hg (i := 10) (v := .int .i64 0) rfl
    have d11 := node_cellA hg (i := 11) (v := .int .i64 0) rfl
    have d12 := node_cellA hg (i := 12) (v := .int .i64 0) rfl
    have d13 := node_cellA hg (i := 13) (v := .int .i64 0) rfl
    clear hg
    exact bodyPost_ret (v := .agg #[.int .i64 4, .int .i64 0, .int .i64 0, .int .u64 0, .slice none 0 0, .int .u64 (q : Int), .string ks, .int .u64 (p : Int), .slice none 0 0, .int .i64 0, .int .i64 0, .int .i64 0, .int .i64 0, .int .i64 0]) (by simp [results, Try.results109, go_sem, d0, d1, d2, d3, d4, d5, d6, d7, d8, d9, d10, d11, d12, d13]) rfl ⟨{ Nd.zero with kind := 4, hash := (q : Int), key := ks, val := (p : Int) }, rfl, good_plain rfl rfl rfl rfl rfl rfl rfl (Nat.le_trans hks (by omega)), TV.out, GV.out, vn_S rf _ _ ks hks, frs_none rfl rfl⟩
  · go_wp2_with fail
    refine (next_any T 1048576 w1 TP.out (by omega) (by omega)).mono ?_
    rintro e w2 ⟨q, hq, rfl, hT1, hg1⟩
    have TP := Lib.hid hT1
    have GP := Lib.hid (grown_trans_ GP.out hg1)
    clear hT1 hg1
    go_wp2_with fail
    refine (next_any T 5 w2 TP.out (by omega) (by omega)).mono ?_
    rintro e w3 ⟨p, hp, rfl, hT1, hg1⟩
    have TP := Lib.hid hT1
    have GP := Lib.hid (grown_trans_ GP.out hg1)
    clear hT1 hg1
    go_wp2_with fail
    refine (key_any T w3 TP.out).mono ?_
    rintro e w4 ⟨ks, hks, rfl, hT1, hg1⟩
    have TP := Lib.hid hT1
    have GP := Lib.hid (grown_trans_ GP.out hg1)
    clear hT1 hg1
    have Hg := Lib.hid ((GP.out.block w.heap.size (by rw [HsW.out]; omega) (fun e => by injection e; omega)).trans HG.out)
    have HL := Lib.hid (show w.heap.size < w4.heap.size by have := GP.out.size; rw [HsW.out] at this; omega)
    go_wp2_with ((refine wpList_store_row rfl 35 (.tmp 4) (.tmp 76) rfl w.heap.size #[.int .i64 6, .int .i64 0, .int .i64 0, .int .u64 0, .slice none 0 0, .int .u64 (q : Int), .string ⟨#[]⟩, .int .u64 0, .slice (some ⟨w4.heap.size, 0, none⟩) 2 2, .int .i64 0, .int .i64 0, .int .i64 0, .int .i64 0, .int .i64 0] rfl rfl 35 _ ((Below.heap_alloc w4 _ _ HL.out).trans Hg.out) nodeSize rfl (by simp [Value.oneCell']) ?_))
    obtain ⟨U, hU⟩ : ∃ U, U = w4.alloc (.cells #[.string ⟨#[97]⟩, .int .u64 (p : Int), .string (⟨#[98]⟩ ++ ks), .int .u64 2] 56) := ⟨_, rfl⟩
    rw [← hU]
    have HgU := Lib.hid (show U.heap[w.heap.size]? = some (.cells #[.int .i64 0, .int .i64 0, .int .i64 0, .int .u64 0, .slice none 0 0, .int .u64 0, .string ⟨#[]⟩, .int .u64 0, .slice none 0 0, .int .i64 0, .int .i64 0, .int .i64 0, .int .i64 0, .int .i64 0] 35 (0, 0)) by rw [hU]; exact (Below.heap_alloc w4 _ _ HL.out).trans Hg.out)
    have TU := Lib.hid (show Tape T U by rw [hU]; exact TP.out.below ((Below.refl w4.heap.size w4).alloc (Nat.le_refl _) _) TP.out.lt)
    have GU := Lib.hid (show w.grownBy U (some T) by rw [hU]; exact grown_alloc (grown_trans_ HGW.out GP.out) _)
    have XU := Lib.hid (show RdX U (w.heap.size + 1) U.heap.size (some ⟨w4.heap.size, 0, none⟩) (flat [(⟨#[97]⟩, (p : Int)), (⟨#[98]⟩ ++ ks, 2)]) by
      rw [hU]
      exact fun _ => ⟨_, rfl, HL.out, by simp, fun j u hu => by
        have := cell_of_row (w4.alloc (.cells (flat [(⟨#[97]⟩, (p : Int)), (⟨#[98]⟩ ++ ks, 2)]).toArray 56)) w4.heap.size j (flat [(⟨#[97]⟩, (p : Int)), (⟨#[98]⟩ ++ ks, 2)]).toArray 56 (0, 0) (heap_alloc_new w4 _)
        rw [Addr.add_lit, Nat.zero_add]
        exact this.trans (by simpa using hu)⟩)
    clear hU
    obtain ⟨V, hV⟩ : ∃ V, V = U.setRow w.heap.size #[.int .i64 6, .int .i64 0, .int .i64 0, .int .u64 0, .slice none 0 0, .int .u64 (q : Int), .string ⟨#[]⟩, .int .u64 0, .slice (some ⟨w4.heap.size, 0, none⟩) 2 2, .int .i64 0, .int .i64 0, .int .i64 0, .int .i64 0, .int .i64 0] := ⟨_, rfl⟩
    have hg := setRow_heap U w.heap.size _ #[.int .i64 6, .int .i64 0, .int .i64 0, .int .u64 0, .slice none 0 0, .int .u64 (q : Int), .string ⟨#[]⟩, .int .u64 0, .slice (some ⟨w4.heap.size, 0, none⟩) 2 2, .int .i64 0, .int .i64 0, .int .i64 0, .int .i64 0, .int .i64 0] 35 (0, 0) HgU.out
    rw [← hV] at hg ⊢
    have TV := Lib.hid (show Tape T V by rw [hV]; exact end_tape TU.out hT _)
    have GV := Lib.hid (show w.grownBy V (some T) by rw [hV]; exact end_grown GU.out (Nat.le_refl _) _)
    have XV := Lib.hid (show RdX V (w.heap.size + 1) V.heap.size (some ⟨w4.heap.size, 0, none⟩) (flat [(⟨#[97]⟩, (p : Int)), (⟨#[98]⟩ ++ ks, 2)]) by rw [hV, setRow_size]; exact XU.out.keep fun k hk _ => setRow_other _ _ _ _ (by omega))
    clear hV
    have d0 := node_cellA hg (i := 0) (v := .int .i64 6) rfl
    have d1 := node_cellA hg (i := 1) (v := .int .i64 0) rfl
    have d2 := node_cellA hg (i := 2) (v := .int .i64 0) rfl
    have d3 := node_cellA hg (i := 3) (v := .int .u64 0) rfl
    have d4 := node_cellA hg (i := 4) (v := .slice none 0 0) rfl
    have d5 := node_cellA hg (i := 5) (v := .int .u64 (q : Int)) rfl
    have d6 := node_cellA hg (i := 6) (v := .string ⟨#[]⟩) rfl
    have d7 := node_cellA hg (i := 7) (v := .int .u64 0) rfl
    have d8 := node_cellA hg (i := 8) (v := .slice (some ⟨w4.heap.size, 0, none⟩) 2 2) rfl
    have d9 := node_cellA hg (i := 9) (v := .int .i64 0) rfl
    have d10 := node_cellA hg (i := 10) (v := .int .i64 0) rfl
    have d11 := node_cellA hg (i := 11) (v := .int .i64 0) rfl
    have d12 := node_cellA hg (i := 12) (v := .int .i64 0) rfl
    have d13 := node_cellA hg (i := 13) (v := .int .i64 0) rfl
    clear hg
    exact bodyPost_ret (v := .agg #[.int .i64 6, .int .i64 0, .int .i64 0, .int .u64 0, .slice none 0 0, .int .u64 (q : Int), .string ⟨#[]⟩, .int .u64 0, .slice (some ⟨w4.heap.size, 0, none⟩) 2 2, .int .i64 0, .int .i64 0, .int .i64 0, .int .i64 0, .int .i64 0]) (by simp [results, Try.results109, go_sem, d0, d1, d2, d3, d4, d5, d6, d7, d8, d9, d10, d11, d12, d13]) rfl ⟨{ Nd.zero with kind := 6, hash := (q : Int), pA := some ⟨w4.heap.size, 0, none⟩, pc := 2, ps := [(⟨#[97]⟩, (p : Int)), (⟨#[98]⟩ ++ ks, 2)] }, rfl, ⟨⟨RdR.nil, XV.out.rd, u64_zero, Nat.zero_le _, by show (2 : Nat) ≤ 1000; omega⟩, fun _ => rfl, (fun e => by cases e), Nat.zero_le _, Nat.le_refl 2, Nat.zero_le _, by show (2 : Nat) ≤ 123; omega, Nat.zero_le 123⟩, TV.out, GV.out, vn_L rf _ _ ks hks _, ⟨fun ad e => (by cases e), fun ad e => by (injection e with e; subst e; exact Nat.le_of_lt HL.out)⟩⟩
  · obtain ⟨W1, hW1⟩ : ∃ W1, W1 = w1.alloc (.cells #[.int .i64 3, .int .i64 0, .int .i64 0, .int .u64 0, .slice none 0 0, .int .u64 0, .string ⟨#[]⟩, .int .u64 0, .slice none 0 0, .int .i64 0, .int .i64 0, .int .i64 0, .int .i64 0, .int .i64 0] 35) := ⟨_, rfl⟩
    have hl1 : w.heap.size < w1.heap.size := by have := GP.out.size; rw [HsW.out] at this; omega
    have I1 := Lib.hid (show CI T w.heap.size w1.heap.size w 0 none 0 [] W1 by
      rw [hW1]
      exact ⟨TP.out.below ((Below.refl w1.heap.size w1).alloc (Nat.le_refl _) _) TP.out.lt, grown_alloc (grown_trans_ HGW.out GP.out) _, (Below.heap_alloc w1 _ _ hl1).trans ((GP.out.block w.heap.size (by rw [HsW.out]; omega) (fun e => by injection e; omega)).trans HG.out), heap_alloc_new w1 _, OwnR.nil_ _ _, u64_zero, hT, hl1, Nat.le_refl _⟩)
    have HW1 := Lib.hid hW1.symm
    clear hW1
    go_wp2_with fail
    rw [HW1.out]
    refine (next_any T 5 W1 I1.out.tape (by omega) (by omega)).mono ?_
    rintro e w2 ⟨kk, hkk, rfl, hT1, hg1⟩
    have I2 := Lib.hid (I1.out.call hT1 hg1)
    clear hT1 hg1 TP GP HTW HGW HG
    generalize w1.heap.size = b at hl1 I2 ⊢
    go_wp2_with fail
    go_loopg [6] kk (fun kx s6 wr => ∃ (k : Nat) (bm : Int), s6 = .int .i64 k ∧ k ≤ kx ∧ k ≤ 5 ∧ Aside (CI T w.heap.size b w bm none 0 [] wr))
    case atStart => exact ⟨kk, 0, rfl, Nat.le_refl _, by omega, I2.out⟩
    case round =>
      clear I2
      obtain ⟨k, bm, rfl, hk, hk5, I⟩ := hrel
      by_cases h0 : 0 < k
      · have hz : (k : Int) > 0 := by omega
        obtain ⟨m, rfl⟩ : ∃ m, k = m + 1 := ⟨k - 1, by omega⟩
        have c3 := I.out.cell (i := 3) (v := .int .u64 bm) rfl
        have f3 := I.out.froz 3
        go_wp2_with fail
        go_region_with (first
          | (go_at_call 19
             refine (next_any T 64 wr.drew (I.out.tape.kept (fun _ _ => rfl) (Nat.le_refl _)) (by omega) (by omega)).mono ?_
             rintro e w5 ⟨q, hq, rfl, hT1, hg1⟩
             have I5 := Lib.hid (I.out.call hT1 ⟨hg1.os, hg1.tape, hg1.output, hg1.size, hg1.block⟩)
             have c3' := I5.out.cell (i := 3) (v := .int .u64 bm) rfl
             have f3' := I5.out.froz 3
             clear hT1 hg1))
        all_goals
          go_wp2
          go_roundg m
          case measure => omega
          case rel => exact ⟨m, _, by go_num, Nat.le_refl _, by omega, I5.out.setBm (or_wrap_u64 I5.out.u _)⟩
      · obtain rfl : k = 0 := by omega
        have c3 := I.out.cell (i := 3) (v := .int .u64 bm) rfl
        have hu := Lib.hid I.out.u
        have hcnt := Lib.hid (cnt_range bm)
        go_wp2_with fail
        go_loopg [7] (cntI bm).toNat (fun kx s7 wq => ∃ (m : Int) (A : Option Addr) (c : Nat) (ys : List Int), s7 = .int .u64 m ∧ Aside (U64 m) ∧ Aside (cntI m ≤ kx ∧ (ys.length : Int) + cntI m ≤ 64 ∧ (ys.length : Int) + cntI m = cntI bm) ∧ Aside (∀ z ∈ ys, 1 ≤ z ∧ z ≤ (rf : Int)) ∧ Aside (ys.length ≤ c ∧ (A = none → c = 0)) ∧ Aside (CI T w.heap.size b w bm A c ys wq))
        case atStart => exact ⟨bm, none, 0, [], rfl, hu.out, (by have := hcnt.out; simp; omega : _ ∧ _ ∧ _), (fun z hz => by cases hz), (⟨Nat.le_refl _, fun _ => rfl⟩ : _ ∧ _), I.out⟩
        case round =>
          clear hu hcnt c3 I
          obtain ⟨m, A, c, ys, rfl, U, N, YB, AC, I⟩ := hrel
          by_cases h0 : 0 < m
          · have W := Lib.hid (wl_walk U.out h0)
            have hm1 : 1 ≤ m := h0
            have hm2 : m < 18446744073709551616 := U.out.2
            have CS := Lib.hid (cnt_step U.out h0)
            have c4 := I.out.cell (i := 4) (v := .slice A ys.length c) rfl
            have f4 := I.out.froz 4
            have hyl : ys.length ≤ 64 := by have := N.out.2.1; have := (cnt_range m).1; omega
            go_wp2_with fail
            go_region_law (first
              | (refine step_append_anyR (w0 := w5) rfl (.tmp 43) (.tmp 47) rfl (b + 1) _ ys rfl (I5.out.own.alloc _) _ 1 1 _ [(q : Int)] rfl rfl (one_rdR w5 q) (fun e => by cases e) (by simp; omega) ((Below.refl _ w5).alloc I5.out.lt _) (by have := I5.out.lt; simp; omega) ?_
                 intro va wa HOa HBa
                 obtain ⟨A', c', rfl, _, hA', hc'⟩ := HOa.out.open2
                 have c4b := (HBa.cell (p := ⟨b, 4, none⟩) (Nat.lt_succ_self b)).trans c4'
                 have f4b := (HBa.frozen (p := ⟨b, 4, none⟩) (Nat.lt_succ_self b)).trans f4'
                 have AC' := Lib.hid (⟨hc', hA'⟩ : _ ∧ _)
                 clear hA' hc')
              | (go_simp
                 go_at_call 110
                 refine (ref_any T rf wr.drew (I.out.tape.kept (fun _ _ => rfl) (Nat.le_refl _)) hr1 hr2).mono ?_
                 rintro e w5 ⟨q, hq1, hq2, rfl, hT1, hg1⟩
                 have RQ := Lib.hid (show (1 : Int) ≤ (q : Int) ∧ (q : Int) ≤ (rf : Int) by omega)
                 clear hq1 hq2
                 have I5 := Lib.hid (I.out.call hT1 ⟨hg1.os, hg1.tape, hg1.output, hg1.size, hg1.block⟩)
                 have c4' := I5.out.cell (i := 4) (v := .slice A ys.length c) rfl
                 have f4' := I5.out.froz 4
                 have hb5 : ¬ b = w5.heap.size := by have := I5.out.lt; omega
                 have hb5' : b < w5.heap.size := I5.out.lt
                 clear hT1 hg1))
            all_goals
              have J := I5.out.setBr HOa.out HBa
              rw [List.length_append, List.length_singleton] at J
              have J' := Lib.hid J
              clear J c4 f4 c4' f4' c4b f4b
              go_wp2
              go_roundg ((cntI m).toNat - 1)
              case measure => have := N.out.1; have := CS.out; have := (cnt_range (wlI m)).1; omega
              case rel =>
                refine ⟨wlI m, A', c', ys ++ [(q : Int)], ?_, wl_u64 U.out, (⟨?_, ?_, ?_⟩ : _ ∧ _ ∧ _), ?_, AC'.out, J'.out⟩
                · first | rfl | (rw [W.out])
                · have := N.out.1; have := CS.out; have := (cnt_range (wlI m)).1; omega
                · have := N.out.2.1; have := CS.out; simp; omega
                · have := N.out.2.2; have := CS.out; simp; omega
                · exact fun z hz => (List.mem_append.1 hz).elim (YB.out z) fun hz => by (have := List.mem_singleton.1 hz; subst this; exact RQ.out)
          · have hm0 : m = 0 := by have := U.out.1; omega
            subst hm0
            have hyl : ys.length ≤ 64 := by have := N.out.2.1; have := (cnt_range 0).1; omega
            have e0 := I.out.cell (i := 0) (v := .int .i64 3) rfl
            have e1 := I.out.cell (i := 1) (v := .int .i64 0) rfl
            have e2 := I.out.cell (i := 2) (v := .int .i64 0) rfl
            have e3 := I.out.cell (i := 3) (v := .int .u64 bm) rfl
            have e4 := I.out.cell (i := 4) (v := .slice A ys.length c) rfl
            have e5 := I.out.cell (i := 5) (v := .int .u64 0) rfl
            have e6 := I.out.cell (i := 6) (v := .string ⟨#[]⟩) rfl
            have e7 := I.out.cell (i := 7) (v := .int .u64 0) rfl
            have e8 := I.out.cell (i := 8) (v := .slice none 0 0) rfl
            have e9 := I.out.cell (i := 9) (v := .int .i64 0) rfl
            have e10 := I.out.cell (i := 10) (v := .int .i64 0) rfl
            have e11 := I.out.cell (i := 11) (v := .int .i64 0) rfl
            have e12 := I.out.cell (i := 12) (v := .int .i64 0) rfl
            have e13 := I.out.cell (i := 13) (v := .int .i64 0) rfl
            have Hs := Lib.hid I.out.sblk
            go_wp2_with ((refine wpList_store_row rfl 35 (.tmp 4) (.tmp 50) rfl w.heap.size #[.int .i64 3, .int .i64 0, .int .i64 0, .int .u64 bm, .slice A ys.length c, .int .u64 0, .string ⟨#[]⟩, .int .u64 0, .slice none 0 0, .int .i64 0, .int .i64 0, .int .i64 0, .int .i64 0, .int .i64 0] rfl rfl 35 _ Hs.out nodeSize rfl (by simp [Value.oneCell']) ?_))
            obtain ⟨V, hV⟩ : ∃ V, V = wr.setRow w.heap.size #[.int .i64 3, .int .i64 0, .int .i64 0, .int .u64 bm, .slice A ys.length c, .int .u64 0, .string ⟨#[]⟩, .int .u64 0, .slice none 0 0, .int .i64 0, .int .i64 0, .int .i64 0, .int .i64 0, .int .i64 0] := ⟨_, rfl⟩
            have hg := setRow_heap wr w.heap.size _ #[.int .i64 3, .int .i64 0, .int .i64 0, .int .u64 bm, .slice A ys.length c, .int .u64 0, .string ⟨#[]⟩, .int .u64 0, .slice none 0 0, .int .i64 0, .int .i64 0, .int .i64 0, .int .i64 0, .int .i64 0] 35 (0, 0) Hs.out
            rw [← hV] at hg ⊢
            have TV := Lib.hid (show Tape T V by rw [hV]; exact end_tape I.out.tape hT _)
            have GV := Lib.hid (show w.grownBy V (some T) by rw [hV]; exact end_grown I.out.grown (Nat.le_refl _) _)
            have FA := Lib.hid (show ∀ ad, A = some ad → w.heap.size ≤ ad.block from fun ad e => by
              rcases I.out.own.2 with ⟨hv, _⟩ | ⟨g, cap, cur, hv, hbg, _⟩
              · rw [e] at hv; cases hv
              · rw [e] at hv; injection hv with hv _ _; injection hv with hv; subst hv; have := I.out.tb; have : b + 1 ≤ g := hbg; simp; omega)
            have XV := Lib.hid (show RdX V (b + 1) V.heap.size A (flatR ys) by rw [hV, setRow_size]; exact I.out.own.rdX.keep fun k hk _ => setRow_other _ _ _ _ (by omega))
            clear hV e0 e1 e2 e3 e4 e5 e6 e7 e8 e9 e10 e11 e12 e13
            have d0 := node_cellA hg (i := 0) (v := .int .i64 3) rfl
            have d1 := node_cellA hg (i := 1) (v := .int .i64 0) rfl
            have d2 := node_cellA hg (i := 2) (v := .int .i64 0) rfl
            have d3 := node_cellA hg (i := 3) (v := .int .u64 bm) rfl
            have d4 := node_cellA hg (i := 4) (v := .slice A ys.length c) rfl
            have d5 := node_cellA hg (i := 5) (v := .int .u64 0) rfl
            have d6 := node_cellA hg (i := 6) (v := .string ⟨#[]⟩) rfl
            have d7 := node_cellA hg (i := 7) (v := .int .u64 0) rfl
            have d8 := node_cellA hg (i := 8) (v := .slice none 0 0) rfl
            have d9 := node_cellA hg (i := 9) (v := .int .i64 0) rfl
            have d10 := node_cellA hg (i := 10) (v := .int .i64 0) rfl
            have d11 := node_cellA hg (i := 11) (v := .int .i64 0) rfl
            have d12 := node_cellA hg (i := 12) (v := .int .i64 0) rfl
            have d13 := node_cellA hg (i := 13) (v := .int .i64 0) rfl
            clear hg
            exact bodyPost_ret (v := .agg #[.int .i64 3, .int .i64 0, .int .i64 0, .int .u64 bm, .slice A ys.length c, .int .u64 0, .string ⟨#[]⟩, .int .u64 0, .slice none 0 0, .int .i64 0, .int .i64 0, .int .i64 0, .int .i64 0, .int .i64 0]) (by simp [results, Try.results109, go_sem, d0, d1, d2, d3, d4, d5, d6, d7, d8, d9, d10, d11, d12, d13]) rfl ⟨{ Nd.zero with kind := 3, bm := bm, bA := A, bc := c, bs := ys }, rfl, ⟨⟨XV.out.rdR, Rd.nil, I.out.u, Nat.le_trans hyl (by omega), Nat.zero_le _⟩, AC.out.2, fun _ => rfl, AC.out.1, Nat.zero_le _, Nat.le_trans hyl (by omega), Nat.zero_le _, Nat.zero_le 123⟩, TV.out, GV.out, vn_C rf bm A c ys (by have := N.out.2.2; have := cnt_zero; omega) YB.out, ⟨fun ad e => FA.out ad e, fun ad e => by cases e⟩⟩
  · obtain ⟨W1, hW1⟩ : ∃ W1, W1 = w1.alloc (.cells #[.int .i64 3, .int .i64 0, .int .i64 0, .int .u64 0, .slice none 0 0, .int .u64 0, .string ⟨#[]⟩, .int .u64 0, .slice none 0 0, .int .i64 0, .int .i64 0, .int .i64 0, .int .i64 0, .int .i64 0] 35) := ⟨_, rfl⟩
    have hl1 : w.heap.size < w1.heap.size := by have := GP.out.size; rw [HsW.out] at this; omega
    have I1 := Lib.hid (show CI T w.heap.size w1.heap.size w 0 none 0 [] W1 by
      rw [hW1]
      exact ⟨TP.out.below ((Below.refl w1.heap.size w1).alloc (Nat.le_refl _) _) TP.out.lt, grown_alloc (grown_trans_ HGW.out GP.out) _, (Below.heap_alloc w1 _ _ hl1).trans ((GP.out.block w.heap.size (by rw [HsW.out]; omega) (fun e => by injection e; omega)).trans HG.out), heap_alloc_new w1 _, OwnR.nil_ _ _, u64_zero, hT, hl1, Nat.le_refl _⟩)
    have HW1 := Lib.hid hW1.symm
    clear hW1
    go_wp2_with fail
    rw [HW1.out]
    refine (next_any T 5 W1 I1.out.tape (by omega) (by omega)).mono ?_
    rintro e w2 ⟨kk, hkk, rfl, hT1, hg1⟩
    have I2 := Lib.hid (I1.out.call hT1 hg1)
    clear hT1 hg1 TP GP HTW HGW HG
    generalize w1.heap.size = b at hl1 I2 ⊢
    go_wp2_with fail
    go_loopg [6] kk (fun kx s6 wr => ∃ (k : Nat) (bm : Int), s6 = .int .i64 k ∧ k ≤ kx ∧ k ≤ 5 ∧ Aside (CI T w.heap.size b w bm none 0 [] wr))
    case atStart => exact ⟨kk, 0, rfl, Nat.le_refl _, by omega, I2.out⟩
    case round =>
      clear I2
      obtain ⟨k, bm, rfl, hk, hk5, I⟩ := hrel
      by_cases h0 : 0 < k
      · have hz : (k : Int) > 0 := by omega
        obtain ⟨m, rfl⟩ : ∃ m, k = m + 1 := ⟨k - 1, by omega⟩
        have c3 := I.out.cell (i := 3) (v := .int .u64 bm) rfl
        have f3 := I.out.froz 3
        go_wp2_with fail
        go_region_with (first
          | (go_at_call 19
             refine (next_any T 64 wr.drew (I.out.tape.kept (fun _ _ => rfl) (Nat.le_refl _)) (by omega) (by omega)).mono ?_
             rintro e w5 ⟨q, hq, rfl, hT1, hg1⟩
             have I5 := Lib.hid (I.out.call hT1 ⟨hg1.os, hg1.tape, hg1.output, hg1.size, hg1.block⟩)
             have c3' := I5.out.cell (i := 3) (v := .int .u64 bm) rfl
             have f3' := I5.out.froz 3
             clear hT1 hg1))
        all_goals
          go_wp2
          go_roundg m
          case measure => omega
          case rel => exact ⟨m, _, by go_num, Nat.le_refl _, by omega, I5.out.setBm (or_wrap_u64 I5.out.u _)⟩
      · obtain rfl : k = 0 := by omega
        have c3 := I.out.cell (i := 3) (v := .int .u64 bm) rfl
        have hu := Lib.hid I.out.u
        have hcnt := Lib.hid (cnt_range bm)
        go_wp2_with fail
        go_loopg [7] (cntI bm).toNat (fun kx s7 wq => ∃ (m : Int) (A : Option Addr) (c : Nat) (ys : List Int), s7 = .int .u64 m ∧ Aside (U64 m) ∧ Aside (cntI m ≤ kx ∧ (ys.length : Int) + cntI m ≤ 64 ∧ (ys.length : Int) + cntI m = cntI bm) ∧ Aside (∀ z ∈ ys, 1 ≤ z ∧ z ≤ (rf : Int)) ∧ Aside (ys.length ≤ c ∧ (A = none → c = 0)) ∧ Aside (CI T w.heap.size b w bm A c ys wq))
        case atStart => exact ⟨bm, none, 0, [], rfl, hu.out, (by have := hcnt.out; simp; omega : _ ∧ _ ∧ _), (fun z hz => by cases hz), (⟨Nat.le_refl _, fun _ => rfl⟩ : _ ∧ _), I.out⟩
        case round =>
          clear hu hcnt c3 I
          obtain ⟨m, A, c, ys, rfl, U, N, YB, AC, I⟩ := hrel
          by_cases h0 : 0 < m
          · have W := Lib.hid (wl_walk U.out h0)
            have hm1 : 1 ≤ m := h0
            have hm2 : m < 18446744073709551616 := U.out.2
            have CS := Lib.hid (cnt_step U.out h0)
            have c4 := I.out.cell (i := 4) (v := .slice A ys.length c) rfl
            have f4 := I.out.froz 4
            have hyl : ys.length ≤ 64 := by have := N.out.2.1; have := (cnt_range m).1; omega
            go_wp2_with fail
            go_region_law (first
              | (refine step_append_anyR (w0 := w5) rfl (.tmp 43) (.tmp 47) rfl (b + 1) _ ys rfl (I5.out.own.alloc _) _ 1 1 _ [(q : Int)] rfl rfl (one_rdR w5 q) (fun e => by cases e) (by simp; omega) ((Below.refl _ w5).alloc I5.out.lt _) (by have := I5.out.lt; simp; omega) ?_
                 intro va wa HOa HBa
                 obtain ⟨A', c', rfl, _, hA', hc'⟩ := HOa.out.open2
                 have c4b := (HBa.cell (p := ⟨b, 4, none⟩) (Nat.lt_succ_self b)).trans c4'
                 have f4b := (HBa.frozen (p := ⟨b, 4, none⟩) (Nat.lt_succ_self b)).trans f4'
                 have AC' := Lib.hid (⟨hc', hA'⟩ : _ ∧ _)
                 clear hA' hc')
              | (go_simp
                 go_at_call 110
                 refine (ref_any T rf wr.drew (I.out.tape.kept (fun _ _ => rfl) (Nat.le_refl _)) hr1 hr2).mono ?_
                 rintro e w5 ⟨q, hq1, hq2, rfl, hT1, hg1⟩
                 have RQ := Lib.hid (show (1 : Int) ≤ (q : Int) ∧ (q : Int) ≤ (rf : Int) by omega)
                 clear hq1 hq2
                 have I5 := Lib.hid (I.out.call hT1 ⟨hg1.os, hg1.tape, hg1.output, hg1.size, hg1.block⟩)
                 have c4' := I5.out.cell (i := 4) (v := .slice A ys.length c) rfl
                 have f4' := I5.out.froz 4
                 have hb5 : ¬ b = w5.heap.size := by have := I5.out.lt; omega
                 have hb5' : b < w5.heap.size := I5.out.lt
                 clear hT1 hg1))
            all_goals
              have J := I5.out.setBr HOa.out HBa
              rw [List.length_append, List.length_singleton] at J
              have J' := Lib.hid J
              clear J c4 f4 c4' f4' c4b f4b
              go_wp2
              go_roundg ((cntI m).toNat - 1)
              case measure => have := N.out.1; have := CS.out; have := (cnt_range (wlI m)).1; omega
              case rel =>
                refine ⟨wlI m, A', c', ys ++ [(q : Int)], ?_, wl_u64 U.out, (⟨?_, ?_, ?_⟩ : _ ∧ _ ∧ _), ?_, AC'.out, J'.out⟩
                · first | rfl | (rw [W.out])
                · have := N.out.1; have := CS.out; have := (cnt_range (wlI m)).1; omega
                · have := N.out.2.1; have := CS.out; simp; omega
                · have := N.out.2.2; have := CS.out; simp; omega
                · exact fun z hz => (List.mem_append.1 hz).elim (YB.out z) fun hz => by (have := List.mem_singleton.1 hz; subst this; exact RQ.out)
          · have hm0 : m = 0 := by have := U.out.1; omega
            subst hm0
            have hyl : ys.length ≤ 64 := by have := N.out.2.1; have := (cnt_range 0).1; omega
            have e0 := I.out.cell (i := 0) (v := .int .i64 3) rfl
            have e1 := I.out.cell (i := 1) (v := .int .i64 0) rfl
            have e2 := I.out.cell (i := 2) (v := .int .i64 0) rfl
            have e3 := I.out.cell (i := 3) (v := .int .u64 bm) rfl
            have e4 := I.out.cell (i := 4) (v := .slice A ys.length c) rfl
            have e5 := I.out.cell (i := 5) (v := .int .u64 0) rfl
            have e6 := I.out.cell (i := 6) (v := .string ⟨#[]⟩) rfl
            have e7 := I.out.cell (i := 7) (v := .int .u64 0) rfl
            have e8 := I.out.cell (i := 8) (v := .slice none 0 0) rfl
            have e9 := I.out.cell (i := 9) (v := .int .i64 0) rfl
            have e10 := I.out.cell (i := 10) (v := .int .i64 0) rfl
            have e11 := I.out.cell (i := 11) (v := .int .i64 0) rfl
            have e12 := I.out.cell (i := 12) (v := .int .i64 0) rfl
            have e13 := I.out.cell (i := 13) (v := .int .i64 0) rfl
            have Hs := Lib.hid I.out.sblk
            go_wp2_with ((refine wpList_store_row rfl 35 (.tmp 4) (.tmp 50) rfl w.heap.size #[.int .i64 3, .int .i64 0, .int .i64 0, .int .u64 bm, .slice A ys.length c, .int .u64 0, .string ⟨#[]⟩, .int .u64 0, .slice none 0 0, .int .i64 0, .int .i64 0, .int .i64 0, .int .i64 0, .int .i64 0] rfl rfl 35 _ Hs.out nodeSize rfl (by simp [Value.oneCell']) ?_))
            obtain ⟨V, hV⟩ : ∃ V, V = wr.setRow w.heap.size #[.int .i64 3, .int .i64 0, .int .i64 0, .int .u64 bm, .slice A ys.length c, .int .u64 0, .string ⟨#[]⟩, .int .u64 0, .slice none 0 0, .int .i64 0, .int .i64 0, .int .i64 0, .int .i64 0, .int .i64 0] := ⟨_, rfl⟩
            have hg := setRow_heap wr w.heap.size _ #[.int .i64 3, .int .i64 0, .int .i64 0, .int .u64 bm, .slice A ys.length c, .int .u64 0, .string ⟨#[]⟩, .int .u64 0, .slice none 0 0, .int .i64 0, .int .i64 0, .int .i64 0, .int .i64 0, .int .i64 0] 35 (0, 0) Hs.out
            rw [← hV] at hg ⊢
            have TV := Lib.hid (show Tape T V by rw [hV]; exact end_tape I.out.tape hT _)
            have GV := Lib.hid (show w.grownBy V (some T) by rw [hV]; exact end_grown I.out.grown (Nat.le_refl _) _)
            have FA := Lib.hid (show ∀ ad, A = some ad → w.heap.size ≤ ad.block from fun ad e => by
              rcases I.out.own.2 with ⟨hv, _⟩ | ⟨g, cap, cur, hv, hbg, _⟩
              · rw [e] at hv; cases hv
              · rw [e] at hv; injection hv with hv _ _; injection hv with hv; subst hv; have := I.out.tb; have : b + 1 ≤ g := hbg; simp; omega)
            have XV := Lib.hid (show RdX V (b + 1) V.heap.size A (flatR ys) by rw [hV, setRow_size]; exact I.out.own.rdX.keep fun k hk _ => setRow_other _ _ _ _ (by omega))
            clear hV e0 e1 e2 e3 e4 e5 e6 e7 e8 e9 e10 e11 e12 e13
            have d0 := node_cellA hg (i := 0) (v := .int .i64 3) rfl
            have d1 := node_cellA hg (i := 1) (v := .int .i64 0) rfl
            have d2 := node_cellA hg (i := 2) (v := .int .i64 0) rfl
            have d3 := node_cellA hg (i := 3) (v := .int .u64 bm) rfl
            have d4 := node_cellA hg (i := 4) (v := .slice A ys.length c) rfl
            have d5 := node_cellA hg (i := 5) (v := .int .u64 0) rfl
            have d6 := node_cellA hg (i := 6) (v := .string ⟨#[]⟩) rfl
            have d7 := node_cellA hg (i := 7) (v := .int .u64 0) rfl
            have d8 := node_cellA hg (i := 8) (v := .slice none 0 0) rfl
            have d9 := node_cellA hg (i := 9) (v := .int .i64 0) rfl
            have d10 := node_cellA hg (i := 10) (v := .int .i64 0) rfl
            have d11 := node_cellA hg (i := 11) (v := .int .i64 0) rfl
            have d12 := node_cellA hg (i := 12) (v := .int .i64 0) rfl
            have d13 := node_cellA hg (i := 13) (v := .int .i64 0) rfl
            clear hg
            exact bodyPost_ret (v := .agg #[.int .i64 3, .int .i64 0, .int .i64 0, .int .u64 bm, .slice A ys.length c, .int .u64 0, .string ⟨#[]⟩, .int .u64 0, .slice none 0 0, .int .i64 0, .int .i64 0, .int .i64 0, .int .i64 0, .int .i64 0]) (by simp [results, Try.results109, go_sem, d0, d1, d2, d3, d4, d5, d6, d7, d8, d9, d10, d11, d12, d13]) rfl ⟨{ Nd.zero with kind := 3, bm := bm, bA := A, bc := c, bs := ys }, rfl, ⟨⟨XV.out.rdR, Rd.nil, I.out.u, Nat.le_trans hyl (by omega), Nat.zero_le _⟩, AC.out.2, fun _ => rfl, AC.out.1, Nat.zero_le _, Nat.le_trans hyl (by omega), Nat.zero_le _, Nat.zero_le 123⟩, TV.out, GV.out, vn_C rf bm A c ys (by have := N.out.2.2; have := cnt_zero; omega) YB.out, ⟨fun ad e => FA.out ad e, fun ad e => by cases e⟩⟩

end Go.Proofs.Ytbknbjabkhhlfaa
