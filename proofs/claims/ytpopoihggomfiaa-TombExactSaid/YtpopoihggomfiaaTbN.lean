/-
  Layer 7: the law's list.
-/
import Derived.Test.YtpopoihggomfiaaTbM
import Derived.Test.YtpopoihggomfiaaTbH
import Derived.Test.YtpopoihggomfiaaWalksU
set_option linter.unusedVariables false
set_option maxRecDepth 100000
namespace Go.Proofs.Ytpopoihggomfiaa
open Go.Shelf Go.RowKit Go.Lib Go.Sort
attribute [local go_sem ↓] exec_load28 exec_storeN
attribute [local go_sem] run_storeNode_new

def kM : ByteArray := ⟨#[109]⟩
def kN : ByteArray := ⟨#[110]⟩
/-- A valid collision list of few short keys. -/
structure LN (n : Nd) : Prop where
  isL : isL n = true
  len : n.ps.length ≤ 8
  keys : ∀ p ∈ n.ps, p.1.size ≤ 3
  asc : Asc n.ps
  two : 2 ≤ n.ps.length
def lN (h : Int) (A : Option Addr) (c : Nat) (L : List Pr) (pv : Int) : Nd := { Nd.zero with kind := 6, hash := h, pA := A, pc := c, ps := L, prev := pv }
theorem lN_lit (h : Int) (A : Option Addr) (c : Nat) (L : List Pr) (pv : Int) : (lN h A c L pv).cs = #[.int .i64 6, .int .i64 0, .int .i64 0, .int .u64 0, .slice none 0 0, .int .u64 h, .string ⟨#[]⟩, .int .u64 0, .slice A L.length c, .int .i64 pv, .int .i64 0, .int .i64 0, .int .i64 0, .int .i64 0] := rfl
theorem mem_of_lk {xs : List Pr} (ha : Asc xs) {k : ByteArray} {v : Int} (h : lk xs k = some v) : (k, v) ∈ xs := (lk_mem ha k v).2 h
theorem lk_ex {xs : List Pr} {k : ByteArray} (h : (lk xs k).isSome = true) : ∃ p ∈ xs, p.1 = k := by
  refine Classical.byContradiction fun hn => ?_
  have : lk xs k = none := lk_none fun p hp e => hn ⟨p, hp, e⟩
  rw [this] at h; cases h
theorem isL_mk {n : Nd} (hk : n.kind = 6) (h1 : n.gen = 0) (h2 : n.main = 0) (h3 : n.bm = 0) (h4 : n.bs = []) (h5 : n.key = ⟨#[]⟩) (h6 : n.val = 0) (h7 : n.old = 0) (h8 : n.exp = 0) (h9 : n.new = 0) (h10 : n.status = 0) (hp : 0 ≤ n.prev) (ha : Asc n.ps) (hl : 2 ≤ n.ps.length) (hs : ∀ p ∈ n.ps, p.1.size ≤ 64) : isL n = true := by
  obtain ⟨kind, gen, main, bm, bA, bc, bs, hash, key, val, pA, pc, ps, prev, old, exp, new, status⟩ := n
  simp only at hk h1 h2 h3 h4 h5 h6 h7 h8 h9 h10 hp ha hl hs
  subst hk h1 h2 h3 h4 h5 h6 h7 h8 h9 h10
  have e2 : longB ps = false := by
    unfold longB
    rw [List.any_eq_false]
    intro p hm
    have := hs p hm
    simp [longK]; omega
  simp [isL, validN, eqN, own, cellsB, fieldsB, Nd.zero, validB_true ha, e2, hl, hp]
theorem ln_mk {h pv : Int} {A : Option Addr} {c : Nat} {xs L : List Pr} (hx : xs.length ≤ 6) (hxs : ∀ p ∈ xs, p.1.size ≤ 3) (hO : OfOf (xs ++ [(kM, 0), (kN, 2)]) L) (hp : 0 ≤ pv) : LN (lN h A c L pv) := by
  have hall : ∀ p ∈ xs ++ [(kM, 0), (kN, 2)], p.1.size ≤ 3 := fun p hp => (List.mem_append.1 hp).elim (hxs p) fun hp => by
    simp at hp
    rcases hp with rfl | rfl
    · show kM.size ≤ 3; decide
    · show kN.size ≤ 3; decide
  have hk : ∀ p ∈ L, p.1.size ≤ 3 := fun p hp => by
    have h1 := (lk_mem hO.1 p.1 p.2).1 hp
    rw [hO.2.1] at h1
    obtain ⟨q, hq, e⟩ := lk_ex (by rw [h1]; rfl)
    rw [← e]; exact hall q hq
  have hm : (kM, 0) ∈ L := mem_of_lk hO.1 (by rw [hO.2.1, lk_append]; rfl)
  have hn : (kN, 2) ∈ L := mem_of_lk hO.1 (by rw [hO.2.1, lk_append]; rfl)
  have h2 : 2 ≤ L.length := by
    match L, hm, hn with
    | [x], hm, hn =>
      rw [List.mem_singleton] at hm hn
      rw [← hm] at hn
      exact absurd (congrArg Prod.fst hn) (by show kN ≠ kM; decide)
    | x :: y :: r, _, _ => simp
  have hl : L.length ≤ 8 := by have := hO.2.2; simp at this; omega
  exact ⟨isL_mk rfl rfl rfl rfl rfl rfl rfl rfl rfl rfl rfl hp hO.1 h2 (fun p hp => by have := hk p hp; omega), hl, hk, hO.1, h2⟩
theorem Own.fresh_ {w : World} {base : Nat} {A : Option Addr} {n c : Nat} {L : List Pr} (h : Own w base (.slice A n c) L) : ∀ ad, A = some ad → base ≤ ad.block := fun ad e => by
  rcases h.2 with ⟨hv, _⟩ | ⟨g, cap, cur, hv, hb, _⟩
  · injection hv with e1; rw [e1] at e; cases e
  · injection hv with e1; rw [e1] at e; injection e with e; subst e; exact hb
def ListP (w : World) (e : Ending) (w' : World) : Prop := ∃ n : Nd, e = .returned (.agg n.cs) ∧ LN n ∧ GN w' n ∧ Below w.heap.size w w'
set_option maxHeartbeats 16000000 in
theorem mklist_any (a : Option Addr) (len cap : Nat) (w : World) (hl : len ≤ maxLen) (hz : ∀ j, j < len → ∃ ad z, a = some ad ∧ w.cell? (ad.add j) = some (.int .i64 z)) :
    Calls Try.prog 13 #[.slice a len cap] w (ListP w) := by
  obtain ⟨W, hW⟩ : ∃ W, W = w.alloc (.cells #[.int .i64 0, .int .i64 0, .int .i64 0, .int .u64 0, .slice none 0 0, .int .u64 0, .string ⟨#[]⟩, .int .u64 0, .slice none 0 0, .int .i64 0, .int .i64 0, .int .i64 0, .int .i64 0, .int .i64 0] 28) := ⟨_, rfl⟩
  have BW := Lib.hid (show Below w.heap.size w W by rw [hW]; exact alloc_below w _)
  have H3 := Lib.hid (show W.heap[w.heap.size]? = some (.cells #[.int .i64 0, .int .i64 0, .int .i64 0, .int .u64 0, .slice none 0 0, .int .u64 0, .string ⟨#[]⟩, .int .u64 0, .slice none 0 0, .int .i64 0, .int .i64 0, .int .i64 0, .int .i64 0, .int .i64 0] 28 (0, 0)) by rw [hW]; exact heap_alloc_new w _)
  have WS := Lib.hid (show W.heap.size = w.heap.size + 1 by rw [hW]; simp)
  have NW := Lib.hid (new_any a len cap W hl (fun j hj => by
    obtain ⟨ad, z, e, hc⟩ := hz j hj
    exact ⟨ad, z, e, by rw [hW, World.cell?_alloc_lt _ _ _ (block_of_cell' hc)]; exact hc⟩))
  have HW := Lib.hid hW.symm
  clear hW hz hl
  have st := fun (X : World) (p q : Nat) => run_storeNode_new X (lN p none 0 [] q)
  simp only [lN_lit, List.length_nil] at st
  go_enter Try.func13, Try.ntmps13
  go_upto_region 1 with (fail)
  rw [HW.out]
  go_upto_region 2 with (go_at_call 7; refine NW.out.mono ?_; rintro e w1 ⟨rfl, ht, hb⟩; have T1 := Lib.hid ht; have B1 := Lib.hid hb; clear ht hb)
  go_upto_region 3 with (first
    | (go_at_call 22; refine (next_any W.heap.size 4 w2 T2.out (by omega) (by omega)).mono ?_; rintro e w3 ⟨q, hq, rfl, hT, hg⟩; have T3 := Lib.hid hT; have G3 := Lib.hid (grown_trans_ G2.out hg); clear hT hg)
    | (go_at_call 22; refine (next_any W.heap.size 1000 w1 T1.out (by omega) (by omega)).mono ?_; rintro e w2 ⟨p, hp, rfl, hT, hg⟩; have T2 := Lib.hid hT; have G2 := Lib.hid hg; clear hT hg))
  clear st
  obtain ⟨V, hV⟩ : ∃ V, V = w3.alloc (.cells (lN p none 0 [] q).cs 28) := ⟨_, rfl⟩
  have hV' := hV
  simp only [lN_lit, List.length_nil] at hV'
  rw [← hV']
  have S1 := Lib.hid (show w.heap.size + 1 < w1.heap.size by have := T1.out.lt; have := WS.out; omega)
  have S3 := Lib.hid (show w1.heap.size ≤ w3.heap.size from G3.out.size)
  have N3 := Lib.hid (show V.heap[w3.heap.size]? = some (.cells (lN p none 0 [] q).cs 28 (0, 0)) by rw [hV]; exact heap_alloc_new w3 _)
  have TV := Lib.hid (show Tape W.heap.size V by rw [hV]; exact T3.out.kept (fun k hk => Below.heap_alloc w3 _ k (Nat.lt_of_le_of_lt hk T3.out.lt)) (by simp))
  have BV := Lib.hid (show Below W.heap.size W V by
    rw [hV]
    exact (B1.out.trans (below_of_grown G3.out (Nat.le_refl _) B1.out.size)).alloc (Nat.le_trans B1.out.size S3.out) _)
  have SV := Lib.hid (show w3.heap.size < V.heap.size by rw [hV]; simp)
  have H4 := Lib.hid (heap_up H3.out BV.out)
  clear hV hV' T1 T2 G2 T3
  generalize w3.heap.size = b at N3 SV S3 ⊢
  have PA := Lib.hid (pairs_any W.heap.size V TV.out)
  have hbT : ¬ b = W.heap.size := by have := WS.out; have := S1.out; have := S3.out; omega
  have KV := Lib.hid (show Below w.heap.size w V from BW.out.trans (BV.out.mono BW.out.size))
  have HBB := Lib.hid (show w.heap.size < b ∧ w.heap.size < V.heap.size by have := WS.out; have := S1.out; have := S3.out; have := SV.out; omega)
  have LR := Lib.hid (fun X : World => (lit_rd X [(kM, 0), (kN, 2)] : Rd (X.alloc (.cells #[.string ⟨#[109]⟩, .int .u64 0, .string ⟨#[110]⟩, .int .u64 2] 54)) _ _ _))
  go_upto_region 4 with (first
    | (go_at_call 28; refine (refOf_any A5 c5 ZS w5 R5.out (by have := Z5.out; omega)).mono ?_; rintro e w6 ⟨L, hof, v6, rfl, ho, hb⟩; obtain ⟨A6, c6, rfl, hr, ha, hc⟩ := ho.open2; have Y6 := Lib.hid (⟨hof, hr, ha, hc⟩ : _ ∧ _ ∧ _ ∧ _); have F6 := Lib.hid (ho.fresh_); have N6 := Lib.hid (heap_up N5.out hb); have H6 := Lib.hid (heap_up H5.out hb); have B6 := Lib.hid (B5.out.trans (hb.mono B5.out.size)); have c8 := node_cellA N6.out (i := 8) (v := .slice none 0 0) rfl; have f8 := node_frozen N6.out 8; clear hof ho hr ha hc hb)
    | (go_at_call 29; refine PA.out.mono ?_; rintro e w4 ⟨A4, c4, xs, rfl, hl, hk, ho, hcm, ht, hg⟩; have X4 := Lib.hid (⟨hl, hk⟩ : _ ∧ _); have O4 := Lib.hid ho; have S4 := Lib.hid hg.size; have N4 := Lib.hid ((hg.block b SV.out (fun e => by injection e with e; exact hbT e)).trans N3.out); have H4b := Lib.hid ((hg.block w.heap.size HBB.out.2 (fun e => by injection e with e; have := WS.out; omega)).trans H4.out); have B4 := Lib.hid (show Below w.heap.size w w4 from KV.out.trans (below_of_grown hg (by have := WS.out; omega) (by have := HBB.out; omega))); clear hl hk ho hcm ht hg)
    | (at_builtin; refine wpList_append_list (w0 := w4) rfl (.tmp 14) (.tmp 17) rfl V.heap.size _ xs rfl (O4.out.alloc _) (some ⟨w4.heap.size, 0, none⟩) 2 2 _ [(kM, 0), (kN, 2)] rfl rfl (LR.out w4) (fun e => by cases e) (by have := X4.out.1; simp; omega) ((Below.refl _ w4).alloc S4.out _) (by have := S4.out; simp; omega) ?_; intro v5 w5 HO5 hB5; obtain ⟨ZS, hZ⟩ : ∃ ZS, ZS = xs ++ [(kM, 0), (kN, 2)] := ⟨_, rfl⟩; rw [← hZ] at HO5; obtain ⟨A5, c5, rfl, hr, ha, hc⟩ := HO5.out.open2; have R5 := Lib.hid hr; have HZ := Lib.hid hZ; have Z5 := Lib.hid (show ZS.length ≤ 8 by rw [hZ]; have := X4.out.1; simp; omega); have N5 := Lib.hid ((hB5.block b SV.out).trans N4.out); have H5 := Lib.hid ((hB5.block _ HBB.out.2).trans H4b.out); have B5 := Lib.hid (B4.out.trans (hB5.mono (by have := HBB.out; omega))); clear hZ hr ha hc HO5 hB5))
  obtain ⟨U, hU⟩ : ∃ U, U = w6.setCell ⟨b, 8, none⟩ (.slice A6 L.length c6) := ⟨_, rfl⟩
  have HU := Lib.hid (show U.heap[b]? = some (.cells (lN p A6 c6 L q).cs 28 (0, 0)) by rw [hU]; exact set_field N6.out 8 _)
  have OU := Lib.hid (show ∀ k, k ≠ b → U.heap[k]? = w6.heap[k]? from fun k hk => by rw [hU]; exact Below.heap_setCell w6 ⟨b, 8, none⟩ _ k hk)
  have SU := Lib.hid (show U.heap.size = w6.heap.size by rw [hU]; simp)
  have BU := Lib.hid (show Below w.heap.size w U by rw [hU]; exact B6.out.setCell (p := ⟨b, 8, none⟩) (Nat.le_of_lt HBB.out.1) _)
  have BY := Lib.hid (show b < w5.heap.size from (Array.getElem?_eq_some_iff.1 N5.out).1)
  rw [← hU]
  have ld := run_loadNode HU.out
  have HS := Lib.hid (show U.heap[w.heap.size]? = some (.cells #[.int .i64 0, .int .i64 0, .int .i64 0, .int .u64 0, .slice none 0 0, .int .u64 0, .string ⟨#[]⟩, .int .u64 0, .slice none 0 0, .int .i64 0, .int .i64 0, .int .i64 0, .int .i64 0, .int .i64 0] 28 (0, 0)) from by
    exact (OU.out _ (by have := HBB.out; omega)).trans H6.out)
  have st := run_storeNode (lN p A6 c6 L q) HS.out rfl
  clear hU c8 f8
  go_wp2_with fail
  obtain ⟨X, hX⟩ : ∃ X, X = U.setRow w.heap.size (lN p A6 c6 L q).cs := ⟨_, rfl⟩
  have hg : X.heap[w.heap.size]? = some (.cells (lN p A6 c6 L q).cs 28 (0, 0)) := by rw [hX]; exact setRow_heap U _ _ _ 28 (0, 0) HS.out
  have BX := Lib.hid (show Below w.heap.size w X by rw [hX]; exact below_setRow BU.out (Nat.le_refl _) _)
  have GX := Lib.hid (show GN X (lN p A6 c6 L q) by
    rw [hX]
    have hL : L.length ≤ 1000 := by have := Y6.out.1.2.2; have := Z5.out; omega
    refine gn_setRow (n := lN p A6 c6 L q) ⟨⟨RdR.nil, ?_, u64_zero, Nat.zero_le _, hL⟩, fun _ => rfl, Y6.out.2.2.1, Nat.le_refl _, Y6.out.2.2.2⟩ (fun ad e => by cases e) (fun ad e => by have := F6.out ad e; have := BY.out; have := HBB.out; omega) _
    refine fun hn => ?_
    obtain ⟨ad, e, hlt, hc⟩ := Y6.out.2.1 hn
    exact ⟨ad, e, by rw [SU.out]; exact hlt, fun j u hu => (World.cell?_of_block (OU.out _ (by rw [block_add]; have := F6.out ad e; have := BY.out; omega))).trans (hc j u hu)⟩)
  have LL := Lib.hid (show LN (lN p A6 c6 L q) from ln_mk X4.out.1 X4.out.2 (by rw [← HZ.out]; exact Y6.out.1) (by omega))
  rw [← hX]
  clear hX st ld
  obtain ⟨d0, d1, d2, d3, d4, d5, d6, d7, d8, d9, d10, d11, d12, d13⟩ := node_vals hg
  clear hg
  exact bodyPost_ret (v := .agg (lN p A6 c6 L q).cs) (by simp [results, Try.results13, go_sem, d0, d1, d2, d3, d4, d5, d6, d7, d8, d9, d10, d11, d12, d13, Nd.cs]) rfl ⟨_, rfl, LL.out, GX.out, BX.out⟩
end Go.Proofs.Ytpopoihggomfiaa
