/-
  Layer 7: the walks of Shrunk, the program's and the reference's.
-/
import Derived.Test.YtpopoihggomfiaaTbK
import Derived.Deep.RegionHeld3
set_option linter.unusedVariables false
set_option maxRecDepth 100000
namespace Go.Proofs.Ytpopoihggomfiaa
open Go.Shelf Go.RowKit Go.Lib Go.Sort
attribute [local go_sem ↓] exec_load28 exec_storeN
attribute [local go_sem] run_storeNode_new

theorem drop_l (A : Option Addr) (c : Nat) (xs L : List Pr) (k : ByteArray) (B : Nat) (w : World) (h : Rd w B A xs) (hB : B ≤ w.heap.size) (ha : Asc xs) (hc : xs.length ≤ c) (hn : xs.length ≤ 1000) (hL : L = wo xs k) :
    Calls Try.prog 43 #[.slice A xs.length c, .string k] w fun e w' => L.length ≤ 1000 ∧ LPost L w e w' :=
  (drop_any A c xs k B w h hB ha hc (by omega)).mono fun e w' ⟨ys, hp, ho⟩ => by
    have e1 : ys = L := by rw [hL]; exact drop_ref ha hp
    subst e1
    exact ⟨by rw [hL]; have := wo_le xs k; omega, ho.lpost⟩
theorem rdrop_l (A : Option Addr) (c : Nat) (xs L : List Pr) (k : ByteArray) (w : World) (h : Rd w w.heap.size A xs) (ha : Asc xs) (hn : xs.length ≤ 1000) (hL : L = wo xs k) :
    Calls Try.prog 47 #[.slice A xs.length c, .string k] w fun e w' => L.length ≤ 1000 ∧ LPost L w e w' :=
  (refDrop_any A c xs k w h ha (by omega)).mono fun e w' ho => by
    rw [hL]
    exact ⟨by have := wo_le xs k; omega, OwnPost.lpost ho⟩
theorem rfind_l (A : Option Addr) (c : Nat) (xs : List Pr) (k : ByteArray) (w : World) (h : Rd w w.heap.size A xs) (hn : xs.length ≤ 1000) :
    ∃ (g : Int) (s : Bool), (Asc xs → s = (lk xs k).isSome) ∧ Calls Try.prog 18 #[.slice A xs.length c, .string k] w fun e w' => e = .returned (.tuple #[.int .u64 g, .bool s]) ∧ Below w.heap.size w w' := by
  by_cases ha : Asc xs
  · exact ⟨_, _, fun _ => rfl, refFind_any A c xs k w h ha (by omega) _ _ rfl rfl⟩
  · exact ⟨0, false, fun h => absurd h ha, refFind_bad A c xs k w h ha (by omega)⟩
def tombX (h : Int) (x : Pr) : Nd := { Nd.zero with kind := 5, hash := h, key := x.1, val := x.2 }
theorem tombX_lit (h : Int) (x : Pr) : (tombX h x).cs = #[.int .i64 5, .int .i64 0, .int .i64 0, .int .u64 0, .slice none 0 0, .int .u64 h, .string x.1, .int .u64 x.2, .slice none 0 0, .int .i64 0, .int .i64 0, .int .i64 0, .int .i64 0, .int .i64 0] := rfl
theorem gn_tombX (w : World) (h : Int) (x : Pr) : GN w (tombX h x) := ⟨⟨RdR.nil, Rd.nil, u64_zero, Nat.zero_le _, Nat.zero_le _⟩, fun _ => rfl, fun _ => rfl, Nat.le_refl _, Nat.le_refl _⟩
theorem tomb_x (h : Int) (x : Pr) (w : World) : Calls Try.prog 33 #[.int .u64 h, .string x.1, .int .u64 x.2] w fun e w' => e = .returned (.agg (tombX h x).cs) ∧ Gr w w' := tomb_any h x.1 x.2 w
noncomputable def shrB (n : Nd) (k : ByteArray) : Bool := isL n && (lk n.ps k).isSome
noncomputable def restV (h : Int) (L : List Pr) : Nd := if L.length = 1 then tombX h (L.getD 0 (⟨#[]⟩, 0)) else { Nd.zero with kind := 6, hash := h, ps := L }
noncomputable def shrV (n : Nd) (k : ByteArray) : Nd := if shrB n k then restV n.hash (wo n.ps k) else Nd.zero
set_option maxHeartbeats 16000000 in
theorem shrunk_any (n : Nd) (k : ByteArray) (w : World) (hc : GN w n) : Calls Try.prog 20 #[.agg n.cs, .string k] w (TPost (shrB n k) (shrV n k) w) := by
  obtain ⟨W, hW⟩ : ∃ W, W = (w.alloc (.cells n.cs 28)).alloc (.cells #[.int .i64 0, .int .i64 0, .int .i64 0, .int .u64 0, .slice none 0 0, .int .u64 0, .string ⟨#[]⟩, .int .u64 0, .slice none 0 0, .int .i64 0, .int .i64 0, .int .i64 0, .int .i64 0, .int .i64 0] 28) := ⟨_, rfl⟩
  have BW := Lib.hid (show Below w.heap.size w W by rw [hW]; exact (alloc_below w _).alloc (by simp) _)
  have H1 := Lib.hid (show W.heap[w.heap.size]? = some (.cells n.cs 28 (0, 0)) by rw [hW]; exact (Below.heap_alloc _ _ _ (by simp)).trans (heap_alloc_new w _))
  have H3 := Lib.hid (show W.heap[w.heap.size + 1]? = some (.cells #[.int .i64 0, .int .i64 0, .int .i64 0, .int .u64 0, .slice none 0 0, .int .u64 0, .string ⟨#[]⟩, .int .u64 0, .slice none 0 0, .int .i64 0, .int .i64 0, .int .i64 0, .int .i64 0, .int .i64 0] 28 (0, 0)) by rw [hW]; have := heap_alloc_new (w.alloc (.cells n.cs 28)) (.cells #[.int .i64 0, .int .i64 0, .int .i64 0, .int .u64 0, .slice none 0 0, .int .u64 0, .string ⟨#[]⟩, .int .u64 0, .slice none 0 0, .int .i64 0, .int .i64 0, .int .i64 0, .int .i64 0, .int .i64 0] 28); simpa using this)
  have GC := Lib.hid (hc.up BW.out)
  have WS := Lib.hid (show W.heap.size = w.heap.size + 2 by rw [hW]; simp)
  have HW := Lib.hid hW.symm
  clear hW hc
  have l1 := run_loadNode H1.out
  have SO := Lib.hid (validL_any n W.heap.size W GC.out.rd (Nat.le_refl _))
  cases hb : isL n with
  | false =>
    have EE := Lib.hid (show shrB n k = false by simp [shrB, hb])
    have EV := Lib.hid (show shrV n k = Nd.zero by simp [shrV, EE.out])
    rw [hb] at SO
    go_enter Try.func20, Try.ntmps20
    go_upto_region 1 with (fail)
    rw [HW.out]
    go_upto_region 2 with (go_at_call 35; refine SO.out.mono ?_; rintro e w1 ⟨rfl, hg⟩; have G1 := Lib.hid hg; clear hg)
    have K3 := Lib.hid (heap_up H3.out G1.out.b)
    have B1 := Lib.hid (BW.out.trans (G1.out.b.mono BW.out.size))
    have st := run_storeNode Nd.zero K3.out rfl
    rw [zero_lit] at st
    go_wp2_with fail
    obtain ⟨X, hX⟩ : ∃ X, X = w1.setRow (w.heap.size + 1) #[.int .i64 0, .int .i64 0, .int .i64 0, .int .u64 0, .slice none 0 0, .int .u64 0, .string ⟨#[]⟩, .int .u64 0, .slice none 0 0, .int .i64 0, .int .i64 0, .int .i64 0, .int .i64 0, .int .i64 0] := ⟨_, rfl⟩
    have hg : X.heap[w.heap.size + 1]? = some (.cells Nd.zero.cs 28 (0, 0)) := by rw [hX]; exact setRow_heap w1 _ _ _ 28 (0, 0) K3.out
    have BX := Lib.hid (show Below w.heap.size w X by rw [hX]; exact below_setRow B1.out (Nat.le_add_right _ 1) _)
    rw [← hX]
    clear hX st
    obtain ⟨d0, d1, d2, d3, d4, d5, d6, d7, d8, d9, d10, d11, d12, d13⟩ := node_vals hg
    clear hg
    exact bodyPost_ret (v := .tuple #[.agg Nd.zero.cs, .bool false]) (by simp [results, Try.results20, go_sem, d0, d1, d2, d3, d4, d5, d6, d7, d8, d9, d10, d11, d12, d13, Nd.cs]) rfl ⟨_, by rw [EE.out], by rw [EV.out]; exact Vw.refl _, gn_zero _, BX.out⟩
  | true =>
    rw [hb] at SO
    have ok := isL_ok hb
    have AS := Lib.hid ok.2.1
    have HBL := Lib.hid hb
    clear ok hb
    go_enter Try.func20, Try.ntmps20
    go_upto_region 1 with (fail)
    rw [HW.out]
    go_upto_region 3 with (go_at_call 35; refine SO.out.mono ?_; rintro e w1 ⟨rfl, hg⟩; have G1 := Lib.hid hg; clear hg)
    clear SO l1 HW
    have K1 := Lib.hid (heap_up H1.out G1.out.b)
    have K3 := Lib.hid (heap_up H3.out G1.out.b)
    have GC1 := Lib.hid (GC.out.up G1.out.b)
    have B1 := Lib.hid (BW.out.trans (G1.out.b.mono BW.out.size))
    have S1 := Lib.hid (show w.heap.size + 2 ≤ w1.heap.size by have := G1.out.size; have := WS.out; omega)
    clear GC H1 H3
    have d8 := node_cellA K1.out (i := 8) (v := .slice n.pA n.ps.length n.pc) rfl
    have FI := Lib.hid (find_any n.pA n.pc n.ps k w1.heap.size w1 GC1.out.rd.p (Nat.le_refl _) AS.out (by have := GC1.out.rd.pl; omega))
    unfold FindPost at FI
    obtain ⟨g, hg⟩ : ∃ g, g = (lk n.ps k).getD 0 := ⟨_, rfl⟩
    obtain ⟨b, hb⟩ : ∃ b, b = (lk n.ps k).isSome := ⟨_, rfl⟩
    rw [← hg, ← hb] at FI
    have EB := Lib.hid hb
    clear hg hb
    go_upto_region 4 with (go_at_call 42; refine FI.out.mono ?_; rintro e w2 ⟨rfl, hb⟩; have B2 := Lib.hid hb; clear hb)
    have L1 := Lib.hid (heap_up K1.out B2.out)
    have L3 := Lib.hid (heap_up K3.out B2.out)
    have GC2 := Lib.hid (GC1.out.up B2.out)
    have C2 := Lib.hid (B1.out.trans (B2.out.mono B1.out.size))
    have S2 := Lib.hid (show w.heap.size + 2 ≤ w2.heap.size by have := S1.out; have := B2.out.size; omega)
    clear GC1 K1 K3 FI d8
    cases b with
    | false =>
      have EE := Lib.hid (show shrB n k = false by simp [shrB, ← EB.out])
      have EV := Lib.hid (show shrV n k = Nd.zero by simp [shrV, EE.out])
      have st := run_storeNode Nd.zero L3.out rfl
      rw [zero_lit] at st
      go_wp2_with fail
      obtain ⟨X, hX⟩ : ∃ X, X = w2.setRow (w.heap.size + 1) #[.int .i64 0, .int .i64 0, .int .i64 0, .int .u64 0, .slice none 0 0, .int .u64 0, .string ⟨#[]⟩, .int .u64 0, .slice none 0 0, .int .i64 0, .int .i64 0, .int .i64 0, .int .i64 0, .int .i64 0] := ⟨_, rfl⟩
      have hg : X.heap[w.heap.size + 1]? = some (.cells Nd.zero.cs 28 (0, 0)) := by rw [hX]; exact setRow_heap w2 _ _ _ 28 (0, 0) L3.out
      have BX := Lib.hid (show Below w.heap.size w X by rw [hX]; exact below_setRow C2.out (Nat.le_add_right _ 1) _)
      rw [← hX]
      clear hX st
      obtain ⟨d0, d1, d2, d3, d4, d5, d6, d7, d8, d9, d10, d11, d12, d13⟩ := node_vals hg
      clear hg
      exact bodyPost_ret (v := .tuple #[.agg Nd.zero.cs, .bool false]) (by simp [results, Try.results20, go_sem, d0, d1, d2, d3, d4, d5, d6, d7, d8, d9, d10, d11, d12, d13, Nd.cs]) rfl ⟨_, by rw [EE.out], by rw [EV.out]; exact Vw.refl _, gn_zero _, BX.out⟩
    | true =>
      have EE := Lib.hid (show shrB n k = true by simp [shrB, ← EB.out, HBL.out])
      obtain ⟨L, hL⟩ : ∃ L, L = wo n.ps k := ⟨_, rfl⟩
      have HL := Lib.hid hL
      have EV := Lib.hid (show shrV n k = restV n.hash L by simp [shrV, EE.out, hL])
      clear hL
      have d8 := node_cellA L1.out (i := 8) (v := .slice n.pA n.ps.length n.pc) rfl
      have DR := Lib.hid (drop_l n.pA n.pc n.ps L k w2.heap.size w2 GC2.out.rd.p (Nat.le_refl _) AS.out GC2.out.pc GC2.out.rd.pl HL.out)
      go_upto_region 7 with (go_at_call 43; refine DR.out.mono ?_; rintro e w3 ⟨hl, A3, c3, rfl, hr, ha, hc, hf, hb⟩; have P3 := Lib.hid (⟨hr, ha, hc, hl, hf⟩ : _ ∧ _ ∧ _ ∧ _ ∧ _); have B3 := Lib.hid hb; clear hl hr ha hc hf hb)
      clear d8 DR
      have M1 := Lib.hid (heap_up L1.out B3.out)
      have M3 := Lib.hid (heap_up L3.out B3.out)
      have C3 := Lib.hid (C2.out.trans (B3.out.mono C2.out.size))
      by_cases hl1 : L.length = 1
      · match L, hl1, P3, HL, EV with
        | [x], _, P3, HL, EV =>
          have ER := Lib.hid (show restV n.hash [x] = tombX n.hash x from rfl)
          obtain ⟨ad, p, x', hA, hp, hpb, hx, c0, c1⟩ := P3.out.1.at2 (i := 0) (by simp)
          simp at hx
          subst hx hA
          rw [Nat.zero_mul, add_zero_] at hp
          subst hp
          have hlo := Lib.hid (P3.out.2.2.2.2 ad rfl)
          have KS := Lib.hid (show ∀ V, Below w3.heap.size w3 V → V.cell? ⟨w.heap.size, 5, none⟩ = some (.int .u64 n.hash) ∧ V.cell? ad = some (.string x.1) ∧ V.cell? ⟨ad.block, ad.off + 1, none⟩ = some (.int .u64 x.2) from fun V hV =>
            ⟨node_cellA (heap_up M1.out hV) (i := 5) rfl, (hV.cell (p := ad) hpb).trans c0, (hV.cell (p := ⟨ad.block, ad.off + 1, none⟩) hpb).trans c1⟩)
          have KR := Lib.hid (show ∀ V cs, Below w3.heap.size w3 V → (V.setRow (w.heap.size + 1) cs).cell? ⟨w.heap.size, 5, none⟩ = some (.int .u64 n.hash) ∧ (V.setRow (w.heap.size + 1) cs).cell? ad = some (.string x.1) ∧ (V.setRow (w.heap.size + 1) cs).cell? ⟨ad.block, ad.off + 1, none⟩ = some (.int .u64 x.2) from fun V cs hV => by
            have e : (V.setRow (w.heap.size + 1) cs).heap[w.heap.size]? = V.heap[w.heap.size]? := setRow_other _ _ _ _ (by omega)
            have e2 : (V.setRow (w.heap.size + 1) cs).heap[ad.block]? = V.heap[ad.block]? := setRow_other _ _ _ _ (by have := hlo.out; have := S2.out; omega)
            exact ⟨(World.cell?_of_block e).trans (KS.out V hV).1, (World.cell?_of_block e2).trans (KS.out V hV).2.1, (World.cell?_of_block (a := ⟨ad.block, ad.off + 1, none⟩) e2).trans (KS.out V hV).2.2⟩)
          have BD := Lib.hid (show Below w3.heap.size w3 w3.drew from ⟨rfl, rfl, rfl, Nat.le_refl _, fun _ _ => rfl⟩)
          have TX := Lib.hid (tomb_x n.hash x w3.drew)
          clear c0 c1
          simp only [List.length_cons, List.length_nil, Nat.zero_add] at *
          go_upto_region 8 with (fail)
          go_region_held3 (fun w' => w'.cell? ⟨w.heap.size, 5, none⟩ = some (.int .u64 n.hash) ∧ w'.cell? ad = some (.string x.1) ∧ w'.cell? ⟨ad.block, ad.off + 1, none⟩ = some (.int .u64 x.2))
            (first | exact KR.out _ _ B4.out | exact KS.out _ (by first | exact B4.out | exact BD.out))
            (first
              | (go_at_call 33; refine TX.out.mono ?_; rintro e w4 ⟨rfl, hg⟩; have B4 := Lib.hid (BD.out.trans (hg.b.mono BD.out.size)); have F4 := Lib.hid (heap_up M3.out B4.out); have st := run_storeNode (tombX n.hash x) F4.out rfl; clear hg))
          all_goals
            go_wp2_with fail
            obtain ⟨X, hX⟩ : ∃ X, X = w4.setRow (w.heap.size + 1) (tombX n.hash x).cs := ⟨_, rfl⟩
            have hg : X.heap[w.heap.size + 1]? = some (.cells (tombX n.hash x).cs 28 (0, 0)) := by rw [hX]; exact setRow_heap w4 _ _ _ 28 (0, 0) F4.out
            have BX := Lib.hid (show Below w.heap.size w X by rw [hX]; exact below_setRow (C3.out.trans (B4.out.mono C3.out.size)) (Nat.le_add_right _ 1) _)
            have GX := Lib.hid (show GN X (tombX n.hash x) by rw [hX]; exact gn_tombX _ _ _)
            rw [← hX]
            clear hX st
            obtain ⟨d0, d1, d2, d3, d4, d5, d6, d7, d8, d9, d10, d11, d12, d13⟩ := node_vals hg
            clear hg
            exact bodyPost_ret (v := .tuple #[.agg (tombX n.hash x).cs, .bool true]) (by simp [results, Try.results20, go_sem, d0, d1, d2, d3, d4, d5, d6, d7, d8, d9, d10, d11, d12, d13, Nd.cs]) rfl ⟨_, by rw [EE.out], by rw [EV.out, ER.out]; exact Vw.refl _, GX.out, BX.out⟩
      · have hl' : ¬ (L.length : Int) = 1 := by omega
        have ER := Lib.hid (show restV n.hash L = { Nd.zero with kind := 6, hash := n.hash, ps := L } by unfold restV; rw [if_neg hl1])
        have d5 := node_cellA M1.out (i := 5) (v := .int .u64 n.hash) rfl
        have LI := Lib.hid (list_l n.hash A3 c3 L w3 P3.out.1 P3.out.2.1 P3.out.2.2.2.1)
        clear hl1
        go_upto_region 9 with (fail)
        go_wp2_with (go_at_call 36; refine LI.out.mono ?_; rintro e w4 ⟨A4, c4, rfl, hgn, hf, hb⟩; have Y := Lib.hid (⟨hgn, hf⟩ : _ ∧ _); have B4 := Lib.hid hb; have F4 := Lib.hid (heap_up M3.out hb); have st := run_storeNode (mkL n.hash A4 c4 L) F4.out rfl; clear hgn hf hb)
        obtain ⟨X, hX⟩ : ∃ X, X = w4.setRow (w.heap.size + 1) (mkL n.hash A4 c4 L).cs := ⟨_, rfl⟩
        have hg : X.heap[w.heap.size + 1]? = some (.cells (mkL n.hash A4 c4 L).cs 28 (0, 0)) := by rw [hX]; exact setRow_heap w4 _ _ _ 28 (0, 0) F4.out
        have BX := Lib.hid (show Below w.heap.size w X by rw [hX]; exact below_setRow (C3.out.trans (B4.out.mono C3.out.size)) (Nat.le_add_right _ 1) _)
        have GX := Lib.hid (show GN X (mkL n.hash A4 c4 L) by rw [hX]; exact gn_setRow Y.out.1 (fun ad e => by cases e) (fun ad e => by have := Y.out.2 ad e; have := S2.out; have := B3.out.size; omega) _)
        rw [← hX]
        clear hX st
        obtain ⟨d0, d1, d2, d3, d4, d5, d6, d7, d8, d9, d10, d11, d12, d13⟩ := node_vals hg
        clear hg
        exact bodyPost_ret (v := .tuple #[.agg (mkL n.hash A4 c4 L).cs, .bool true]) (by simp [results, Try.results20, go_sem, d0, d1, d2, d3, d4, d5, d6, d7, d8, d9, d10, d11, d12, d13, Nd.cs]) rfl ⟨_, by rw [EE.out], by rw [EV.out, ER.out]; exact ⟨none, 0, A4, c4, rfl⟩, GX.out, BX.out⟩
end Go.Proofs.Ytpopoihggomfiaa
