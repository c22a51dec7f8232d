/-
  Layer 7: the walks of Grown, the program's and the reference's.
-/
import Derived.Test.YtpopoihggomfiaaTbJ
import Derived.Deep.RegionHeld3
set_option linter.unusedVariables false
set_option maxRecDepth 100000
namespace Go.Proofs.Ytpopoihggomfiaa
open Go.Shelf Go.RowKit Go.Lib Go.Sort
attribute [local go_sem ↓] exec_load28 exec_storeN
attribute [local go_sem] run_storeNode_new

open Classical in
noncomputable def putL (xs : List Pr) (k : ByteArray) (v : Int) : List Pr := if h : ∃ ys, PutOf xs k v ys then Classical.choose h else []
theorem putL_of {xs : List Pr} {k : ByteArray} {v : Int} {ys : List Pr} (h : PutOf xs k v ys) : ys = putL xs k v := by
  have hx : ∃ ys, PutOf xs k v ys := ⟨ys, h⟩
  unfold putL
  rw [dif_pos hx]
  exact h.unique (Classical.choose_spec hx)
theorem putL_put {xs : List Pr} {k : ByteArray} {v : Int} {ys : List Pr} (h : PutOf xs k v ys) : PutOf xs k v (putL xs k v) := by rw [← putL_of h]; exact h
/-- A list that was made. -/
def LPost (xs : List Pr) (w : World) (e : Ending) (w' : World) : Prop := ∃ A c, e = .returned (.slice A xs.length c) ∧ Rd w' w'.heap.size A xs ∧ (A = none → c = 0) ∧ xs.length ≤ c ∧ (∀ ad, A = some ad → w.heap.size ≤ ad.block) ∧ Below w.heap.size w w'
theorem OwnPost.lpost {xs : List Pr} {w : World} {e : Ending} {w' : World} (h : OwnPost xs w e w') : LPost xs w e w' := by
  obtain ⟨v, he, ho, hb⟩ := h
  obtain ⟨A, c, rfl, h1, h2, h3⟩ := ho.open2
  refine ⟨A, c, he, h1, h2, h3, fun ad e => ?_, hb⟩
  rcases ho.2 with ⟨hv, _⟩ | ⟨g, cap, cur, hv, hb, _⟩
  · injection hv with e1; rw [e1] at e; cases e
  · injection hv with e1; rw [e1] at e; injection e with e; subst e; exact hb
theorem put_l (A : Option Addr) (c : Nat) (xs L : List Pr) (k : ByteArray) (v : Int) (B : Nat) (w : World) (h : Rd w B A xs) (hB : B ≤ w.heap.size) (ha : Asc xs) (hc : xs.length ≤ c) (hn : xs.length ≤ 900) (hL : L = putL xs k v) :
    Calls Try.prog 37 #[.slice A xs.length c, .string k, .int .u64 v] w fun e w' => L.length ≤ 1000 ∧ LPost L w e w' :=
  (put_any A c xs k v B w h hB ha hc (by omega)).mono fun e w' ⟨ys, hp, ho⟩ => by
    have e1 : ys = L := by rw [hL]; exact putL_of hp
    subst e1
    exact ⟨by have := hp.le; omega, ho.lpost⟩
theorem cut_ex (k : ByteArray) : ∀ xs : List Pr, Asc xs → ∃ i, i ≤ xs.length ∧ (∀ t x, t < i → xs[t]? = some x → kl x.1 k = true) ∧ (∀ t x, i ≤ t → xs[t]? = some x → kl x.1 k = false)
  | [], _ => ⟨0, Nat.le_refl _, fun t x ht => by omega, fun t x _ hx => by simp at hx⟩
  | y :: r, h => by
    have hp := List.pairwise_cons.1 h
    cases hy : kl y.1 k with
    | true =>
      obtain ⟨i, hi, h1, h2⟩ := cut_ex k r hp.2
      refine ⟨i + 1, by simp; omega, fun t x ht hx => ?_, fun t x ht hx => ?_⟩
      · cases t with
        | zero => simp at hx; subst hx; exact hy
        | succ t => exact h1 t x (by omega) (by simpa using hx)
      · cases t with
        | zero => omega
        | succ t => exact h2 t x (by omega) (by simpa using hx)
    | false =>
      refine ⟨0, Nat.zero_le _, fun t x ht => by omega, fun t x _ hx => ?_⟩
      cases t with
      | zero => simp at hx; subst hx; exact hy
      | succ t =>
        have hx' : r[t]? = some x := by simpa using hx
        have hl := hp.1 x (List.mem_of_getElem? hx')
        cases hk : kl x.1 k with
        | false => rfl
        | true => rw [kl_trans hl hk] at hy; cases hy
theorem put_ex (xs : List Pr) (ha : Asc xs) (k : ByteArray) (v : Int) : ∃ ys, PutOf xs k v ys := by
  obtain ⟨i, hi, h1, h2⟩ := cut_ex k xs ha
  rcases split_of ha hi h1 h2 with ⟨u, _, hs⟩ | ⟨_, hs⟩
  · exact ⟨_, hs.put ha v⟩
  · exact ⟨_, hs.put ha v⟩
theorem rput_l (A : Option Addr) (c : Nat) (xs L : List Pr) (k : ByteArray) (v : Int) (w : World) (h : Rd w w.heap.size A xs) (ha : Asc xs) (hn : xs.length ≤ 900) (hL : L = putL xs k v) :
    Calls Try.prog 46 #[.slice A xs.length c, .string k, .int .u64 v] w fun e w' => L.length ≤ 1000 ∧ LPost L w e w' :=
  (refPut_any A c xs k v w h ha (by omega)).mono fun e w' ⟨ys, hp, ho⟩ => by
    obtain ⟨zs, hz⟩ := put_ex xs ha k v
    have e1 : L = ys := by rw [hL, ← putL_of hz]; exact put_ref hz hp
    subst e1
    have e2 := put_ref hz hp
    exact ⟨by rw [← e2]; have := hz.le; omega, ho.lpost⟩
def mkL (h : Int) (A : Option Addr) (c : Nat) (L : List Pr) : Nd := { Nd.zero with kind := 6, hash := h, pA := A, pc := c, ps := L }
theorem mkL_lit (h : Int) (A : Option Addr) (c : Nat) (L : List Pr) : (mkL h A c L).cs = #[.int .i64 6, .int .i64 0, .int .i64 0, .int .u64 0, .slice none 0 0, .int .u64 h, .string ⟨#[]⟩, .int .u64 0, .slice A L.length c, .int .i64 0, .int .i64 0, .int .i64 0, .int .i64 0, .int .i64 0] := rfl
theorem list_l (h : Int) (A : Option Addr) (c : Nat) (L : List Pr) (w : World) (hr : Rd w w.heap.size A L) (hA : A = none → c = 0) (hn : L.length ≤ 1000) :
    Calls Try.prog 36 #[.int .u64 h, .slice A L.length c] w fun e w' => ∃ A' c', e = .returned (.agg (mkL h A' c' L).cs) ∧ GN w' (mkL h A' c' L) ∧ (∀ ad, A' = some ad → w.heap.size ≤ ad.block) ∧ Below w.heap.size w w' :=
  (list_any h A c L w hr hA hn).mono fun e w' ⟨A', c', he, ho, hb⟩ => by
    have fP : ∀ ad, A' = some ad → w.heap.size ≤ ad.block := fun ad e => by
      rcases ho.2 with ⟨hv, _⟩ | ⟨g, cap, cur, hv, hb, _⟩
      · injection hv with e1; rw [e1] at e; cases e
      · injection hv with e1; rw [e1] at e; injection e with e; subst e; exact hb
    obtain ⟨P', d', e2, r2, a2, l2⟩ := ho.open2
    injection e2 with y1 _ y2
    subst y1 y2
    exact ⟨A', c', he, ⟨⟨RdR.nil, r2, u64_zero, Nat.zero_le _, hn⟩, fun _ => rfl, a2, Nat.le_refl _, l2⟩, fP, hb⟩

noncomputable def groB (n : Nd) (k : ByteArray) : Bool := isL n && !longK k
noncomputable def groV (n : Nd) (k : ByteArray) (v : Int) : Nd := if groB n k then { Nd.zero with kind := 6, hash := n.hash, ps := putL n.ps k v } else Nd.zero
set_option maxHeartbeats 16000000 in
theorem grown_any (n : Nd) (k : ByteArray) (v : Int) (w : World) (hc : GN w n) (hn : n.ps.length ≤ 900) (hks : k.size ≤ maxLen) : Calls Try.prog 17 #[.agg n.cs, .string k, .int .u64 v] w (TPost (groB n k) (groV n k v) w) := by
  obtain ⟨W, hW⟩ : ∃ W, W = (w.alloc (.cells n.cs 28)).alloc (.cells #[.int .i64 0, .int .i64 0, .int .i64 0, .int .u64 0, .slice none 0 0, .int .u64 0, .string ⟨#[]⟩, .int .u64 0, .slice none 0 0, .int .i64 0, .int .i64 0, .int .i64 0, .int .i64 0, .int .i64 0] 28) := ⟨_, rfl⟩
  have BW := Lib.hid (show Below w.heap.size w W by rw [hW]; exact (alloc_below w _).alloc (by simp) _)
  have H1 := Lib.hid (show W.heap[w.heap.size]? = some (.cells n.cs 28 (0, 0)) by rw [hW]; exact (Below.heap_alloc _ _ _ (by simp)).trans (heap_alloc_new w _))
  have H3 := Lib.hid (show W.heap[w.heap.size + 1]? = some (.cells #[.int .i64 0, .int .i64 0, .int .i64 0, .int .u64 0, .slice none 0 0, .int .u64 0, .string ⟨#[]⟩, .int .u64 0, .slice none 0 0, .int .i64 0, .int .i64 0, .int .i64 0, .int .i64 0, .int .i64 0] 28 (0, 0)) by rw [hW]; have := heap_alloc_new (w.alloc (.cells n.cs 28)) (.cells #[.int .i64 0, .int .i64 0, .int .i64 0, .int .u64 0, .slice none 0 0, .int .u64 0, .string ⟨#[]⟩, .int .u64 0, .slice none 0 0, .int .i64 0, .int .i64 0, .int .i64 0, .int .i64 0, .int .i64 0] 28); simpa using this)
  have GC := Lib.hid (hc.up BW.out)
  have WS := Lib.hid (show W.heap.size = w.heap.size + 2 by rw [hW]; simp)
  have HW := Lib.hid hW.symm
  clear hW hc
  have l1 := run_loadNode H1.out
  have SO := Lib.hid (validL_any n W.heap.size W GC.out.rd (Nat.le_refl _))
  obtain ⟨b, hb⟩ : ∃ b, b = isL n := ⟨_, rfl⟩
  rw [← hb] at SO
  have EB := Lib.hid hb
  clear hb
  have hkz : (k.size : Int) ≤ 9223372036854775807 := by unfold maxLen at hks; omega
  by_cases h1 : b = true ∧ ¬ 64 < (k.size : Int)
  · obtain ⟨rfl, hk⟩ := h1
    have hk0 : decide ((k.size : Int) > 64) = false := decide_eq_false hk
    have ok := isL_ok EB.out.symm
    have AS := Lib.hid ok.2.1
    obtain ⟨L, hL⟩ : ∃ L, L = putL n.ps k v := ⟨_, rfl⟩
    have HL := Lib.hid hL
    have EE := Lib.hid (show groB n k = true by simp [groB, ← EB.out, longK, hk])
    have EV := Lib.hid (show groV n k v = { Nd.zero with kind := 6, hash := n.hash, ps := L } by simp only [groV, EE.out, hL, if_true])
    clear hL ok
    go_enter Try.func17, Try.ntmps17
    go_upto_region 1 with (fail)
    rw [HW.out]
    clear HW
    go_upto_region 3 with (go_at_call 35; refine SO.out.mono ?_; rintro e w1 ⟨rfl, hg⟩; have G1 := Lib.hid hg; clear hg)
    clear SO l1
    have K1 := Lib.hid (heap_up H1.out G1.out.b)
    have K3 := Lib.hid (heap_up H3.out G1.out.b)
    have GC1 := Lib.hid (GC.out.up G1.out.b)
    have B1 := Lib.hid (BW.out.trans (G1.out.b.mono BW.out.size))
    have S1 := Lib.hid (show w.heap.size + 2 ≤ w1.heap.size by have := G1.out.size; have := WS.out; omega)
    have KS := Lib.hid (show ∀ V, Below w1.heap.size w1 V → V.cell? ⟨w.heap.size, 5, none⟩ = some (.int .u64 n.hash) ∧ V.cell? ⟨w.heap.size, 8, none⟩ = some (.slice n.pA n.ps.length n.pc) from fun V hV =>
      ⟨node_cellA (heap_up K1.out hV) (i := 5) rfl, node_cellA (heap_up K1.out hV) (i := 8) rfl⟩)
    have KR := Lib.hid (show ∀ V cs, Below w1.heap.size w1 V → (V.setRow (w.heap.size + 1) cs).cell? ⟨w.heap.size, 5, none⟩ = some (.int .u64 n.hash) ∧ (V.setRow (w.heap.size + 1) cs).cell? ⟨w.heap.size, 8, none⟩ = some (.slice n.pA n.ps.length n.pc) from fun V cs hV =>
      by
      have e : (V.setRow (w.heap.size + 1) cs).heap[w.heap.size]? = V.heap[w.heap.size]? := setRow_other _ _ _ _ (by omega)
      exact ⟨(World.cell?_of_block e).trans (KS.out V hV).1, (World.cell?_of_block e).trans (KS.out V hV).2⟩)
    have BD := Lib.hid (show Below w1.heap.size w1 w1.drew from ⟨rfl, rfl, rfl, Nat.le_refl _, fun _ _ => rfl⟩)
    have GD := Lib.hid (show GN w1.drew n from GC1.out.up BD.out)
    clear GC GC1 H1 H3
    have PU := Lib.hid (put_l n.pA n.pc n.ps L k v w1.drew.heap.size w1.drew GD.out.rd.p (Nat.le_refl _) AS.out GD.out.pc hn HL.out)
    go_region_held3 (fun w' => w'.cell? ⟨w.heap.size, 5, none⟩ = some (.int .u64 n.hash) ∧ w'.cell? ⟨w.heap.size, 8, none⟩ = some (.slice n.pA n.ps.length n.pc))
      (first | exact KR.out _ _ B3.out | exact KS.out _ (by first | exact B3.out | exact B2.out | exact BD.out))
      (first
        | (go_at_call 36; refine (list_l n.hash A2 c2 L w2 P2.out.1 P2.out.2.1 P2.out.2.2).mono ?_; rintro e w3 ⟨A3, c3, rfl, hgn, hf, hb⟩; have Y := Lib.hid (⟨hgn, hf⟩ : _ ∧ _); have B3 := Lib.hid (B2.out.trans (hb.mono B2.out.size)); have F3 := Lib.hid (heap_up K3.out B3.out); have st := run_storeNode (mkL n.hash A3 c3 L) F3.out rfl; clear hgn hf hb)
        | (go_at_call 37; refine PU.out.mono ?_; rintro e w2 ⟨hl, A2, c2, rfl, hr, ha, hc, hf2, hb⟩; have P2 := Lib.hid (⟨hr, ha, hl⟩ : _ ∧ _ ∧ _); have B2 := Lib.hid (BD.out.trans (hb.mono BD.out.size)); clear hl hr ha hc hf2 hb))
    all_goals
      go_wp2_with fail
      obtain ⟨X, hX⟩ : ∃ X, X = w3.setRow (w.heap.size + 1) (mkL n.hash A3 c3 L).cs := ⟨_, rfl⟩
      have hg : X.heap[w.heap.size + 1]? = some (.cells (mkL n.hash A3 c3 L).cs 28 (0, 0)) := by rw [hX]; exact setRow_heap w3 _ _ _ 28 (0, 0) F3.out
      have BX := Lib.hid (show Below w.heap.size w X by rw [hX]; exact below_setRow (B1.out.trans (B3.out.mono B1.out.size)) (Nat.le_add_right _ 1) _)
      have GX := Lib.hid (show GN X (mkL n.hash A3 c3 L) by rw [hX]; exact gn_setRow Y.out.1 (fun ad e => by cases e) (fun ad e => by have := Y.out.2 ad e; have := S1.out; have := B2.out.size; omega) _)
      rw [← hX]
      clear hX st
      obtain ⟨d0, d1, d2, d3, d4, d5, d6, d7, d8, d9, d10, d11, d12, d13⟩ := node_vals hg
      clear hg
      exact bodyPost_ret (v := .tuple #[.agg (mkL n.hash A3 c3 L).cs, .bool true]) (by simp [results, Try.results17, go_sem, d0, d1, d2, d3, d4, d5, d6, d7, d8, d9, d10, d11, d12, d13, Nd.cs]) rfl ⟨_, by rw [EE.out], by rw [EV.out]; exact ⟨none, 0, A3, c3, rfl⟩, GX.out, BX.out⟩
  · have EE := Lib.hid (show groB n k = false by
      simp only [groB, ← EB.out, longK]
      cases hb : b
      · rfl
      · simp; by_cases h : 64 < (k.size : Int)
        · omega
        · exact absurd ⟨hb, h⟩ h1)
    have EV := Lib.hid (show groV n k v = Nd.zero by simp [groV, EE.out])
    have hh : b = false ∨ (b = true ∧ decide ((k.size : Int) > 64) = true) := by
      cases b with
      | false => exact .inl rfl
      | true => exact .inr ⟨rfl, decide_eq_true (Classical.byContradiction fun h => h1 ⟨rfl, h⟩)⟩
    clear h1
    rcases hh with rfl | ⟨rfl, hk⟩
    all_goals
      go_enter Try.func17, Try.ntmps17
      go_upto_region 1 with (fail)
      rw [HW.out]
      go_upto_region 2 with (go_at_call 35; refine SO.out.mono ?_; rintro e w1 ⟨rfl, hg⟩; have G1 := Lib.hid hg; clear hg)
      have K3 := Lib.hid (heap_up H3.out G1.out.b)
      have B1 := Lib.hid (BW.out.trans (G1.out.b.mono BW.out.size))
      have st := run_storeNode Nd.zero K3.out rfl
      rw [zero_lit] at st
      go_wp2_with fail
      obtain ⟨X, hX⟩ : ∃ X, X = w1.setRow (w.heap.size + 1) #[.int .i64 0, .int .i64 0, .int .i64 0, .int .u64 0, .slice none 0 0, .int .u64 0, .string ⟨#[]⟩, .int .u64 0, .slice none 0 0, .int .i64 0, .int .i64 0, .int .i64 0, .int .i64 0, .int .i64 0] := ⟨_, rfl⟩
      have hg : X.heap[w.heap.size + 1]? = some (.cells Nd.zero.cs 28 (0, 0)) := by rw [hX]; exact setRow_heap w1 _ _ _ 28 (0, 0) K3.out
      have BX := Lib.hid (show Below w.heap.size w X by rw [hX]; exact below_setRow B1.out (Nat.le_add_right _ 1) _)
      rw [← hX]
      clear hX st
      obtain ⟨d0, d1, d2, d3, d4, d5, d6, d7, d8, d9, d10, d11, d12, d13⟩ := node_vals hg
      clear hg
      exact bodyPost_ret (v := .tuple #[.agg Nd.zero.cs, .bool false]) (by simp [results, Try.results17, go_sem, d0, d1, d2, d3, d4, d5, d6, d7, d8, d9, d10, d11, d12, d13, Nd.cs]) rfl ⟨_, by rw [EE.out], by rw [EV.out]; exact Vw.refl _, gn_zero _, BX.out⟩
set_option maxHeartbeats 16000000 in
theorem rgrown_any (n : Nd) (k : ByteArray) (v : Int) (w : World) (hc : GN w n) (hn : n.ps.length ≤ 900) (hks : k.size ≤ maxLen) : Calls Try.prog 25 #[.agg n.cs, .string k, .int .u64 v] w (TPost (groB n k) (groV n k v) w) := by
  obtain ⟨W, hW⟩ : ∃ W, W = (w.alloc (.cells n.cs 28)).alloc (.cells #[.int .i64 0, .int .i64 0, .int .i64 0, .int .u64 0, .slice none 0 0, .int .u64 0, .string ⟨#[]⟩, .int .u64 0, .slice none 0 0, .int .i64 0, .int .i64 0, .int .i64 0, .int .i64 0, .int .i64 0] 28) := ⟨_, rfl⟩
  have BW := Lib.hid (show Below w.heap.size w W by rw [hW]; exact (alloc_below w _).alloc (by simp) _)
  have H1 := Lib.hid (show W.heap[w.heap.size]? = some (.cells n.cs 28 (0, 0)) by rw [hW]; exact (Below.heap_alloc _ _ _ (by simp)).trans (heap_alloc_new w _))
  have H3 := Lib.hid (show W.heap[w.heap.size + 1]? = some (.cells #[.int .i64 0, .int .i64 0, .int .i64 0, .int .u64 0, .slice none 0 0, .int .u64 0, .string ⟨#[]⟩, .int .u64 0, .slice none 0 0, .int .i64 0, .int .i64 0, .int .i64 0, .int .i64 0, .int .i64 0] 28 (0, 0)) by rw [hW]; have := heap_alloc_new (w.alloc (.cells n.cs 28)) (.cells #[.int .i64 0, .int .i64 0, .int .i64 0, .int .u64 0, .slice none 0 0, .int .u64 0, .string ⟨#[]⟩, .int .u64 0, .slice none 0 0, .int .i64 0, .int .i64 0, .int .i64 0, .int .i64 0, .int .i64 0] 28); simpa using this)
  have GC := Lib.hid (hc.up BW.out)
  have WS := Lib.hid (show W.heap.size = w.heap.size + 2 by rw [hW]; simp)
  have HW := Lib.hid hW.symm
  clear hW hc
  have l1 := run_loadNode H1.out
  have SO := Lib.hid (rlist_any n W.heap.size W GC.out.rd (Nat.le_refl _))
  obtain ⟨b, hb⟩ : ∃ b, b = isL n := ⟨_, rfl⟩
  rw [← hb] at SO
  have EB := Lib.hid hb
  clear hb
  have hkz : (k.size : Int) ≤ 9223372036854775807 := by unfold maxLen at hks; omega
  by_cases h1 : b = true ∧ ¬ 64 < (k.size : Int)
  · obtain ⟨rfl, hk⟩ := h1
    have hk0 : decide ((k.size : Int) > 64) = false := decide_eq_false hk
    have ok := isL_ok EB.out.symm
    have AS := Lib.hid ok.2.1
    obtain ⟨L, hL⟩ : ∃ L, L = putL n.ps k v := ⟨_, rfl⟩
    have HL := Lib.hid hL
    have EE := Lib.hid (show groB n k = true by simp [groB, ← EB.out, longK, hk])
    have EV := Lib.hid (show groV n k v = { Nd.zero with kind := 6, hash := n.hash, ps := L } by simp only [groV, EE.out, hL, if_true])
    clear hL ok
    go_enter Try.func25, Try.ntmps25
    go_upto_region 1 with (fail)
    rw [HW.out]
    clear HW
    go_upto_region 3 with (go_at_call 45; refine SO.out.mono ?_; rintro e w1 ⟨rfl, hg⟩; have G1 := Lib.hid hg; clear hg)
    clear SO l1
    have K1 := Lib.hid (heap_up H1.out G1.out.b)
    have K3 := Lib.hid (heap_up H3.out G1.out.b)
    have GC1 := Lib.hid (GC.out.up G1.out.b)
    have B1 := Lib.hid (BW.out.trans (G1.out.b.mono BW.out.size))
    have S1 := Lib.hid (show w.heap.size + 2 ≤ w1.heap.size by have := G1.out.size; have := WS.out; omega)
    have KS := Lib.hid (show ∀ V, Below w1.heap.size w1 V → V.cell? ⟨w.heap.size, 5, none⟩ = some (.int .u64 n.hash) ∧ V.cell? ⟨w.heap.size, 8, none⟩ = some (.slice n.pA n.ps.length n.pc) from fun V hV =>
      ⟨node_cellA (heap_up K1.out hV) (i := 5) rfl, node_cellA (heap_up K1.out hV) (i := 8) rfl⟩)
    have KR := Lib.hid (show ∀ V cs, Below w1.heap.size w1 V → (V.setRow (w.heap.size + 1) cs).cell? ⟨w.heap.size, 5, none⟩ = some (.int .u64 n.hash) ∧ (V.setRow (w.heap.size + 1) cs).cell? ⟨w.heap.size, 8, none⟩ = some (.slice n.pA n.ps.length n.pc) from fun V cs hV =>
      by
      have e : (V.setRow (w.heap.size + 1) cs).heap[w.heap.size]? = V.heap[w.heap.size]? := setRow_other _ _ _ _ (by omega)
      exact ⟨(World.cell?_of_block e).trans (KS.out V hV).1, (World.cell?_of_block e).trans (KS.out V hV).2⟩)
    have BD := Lib.hid (show Below w1.heap.size w1 w1.drew from ⟨rfl, rfl, rfl, Nat.le_refl _, fun _ _ => rfl⟩)
    have GD := Lib.hid (show GN w1.drew n from GC1.out.up BD.out)
    clear GC GC1 H1 H3
    have PU := Lib.hid (rput_l n.pA n.pc n.ps L k v w1.drew GD.out.rd.p AS.out hn HL.out)
    have LIT := Lib.hid (fun A c => mkL_lit n.hash A c L)
    go_region_held3 (fun w' => w'.cell? ⟨w.heap.size, 5, none⟩ = some (.int .u64 n.hash) ∧ w'.cell? ⟨w.heap.size, 8, none⟩ = some (.slice n.pA n.ps.length n.pc))
      (first | exact KR.out _ _ B2.out | exact KS.out _ (by first | exact B2.out | exact BD.out))
      (first
        | (go_at_call 46; refine PU.out.mono ?_; rintro e w2 ⟨hl, A2, c2, rfl, hr, ha, hc, hf2, hb⟩; have P2 := Lib.hid (⟨hr, ha, hc, hl, hf2⟩ : _ ∧ _ ∧ _ ∧ _ ∧ _); have B2 := Lib.hid (BD.out.trans (hb.mono BD.out.size)); have F3 := Lib.hid (heap_up K3.out B2.out); have st := run_storeNode (mkL n.hash A2 c2 L) F3.out rfl; rw [LIT.out] at st; clear hl hr ha hc hf2 hb))
    all_goals
      go_wp2_with fail
      rw [← LIT.out]
      obtain ⟨X, hX⟩ : ∃ X, X = w2.setRow (w.heap.size + 1) (mkL n.hash A2 c2 L).cs := ⟨_, rfl⟩
      have hg : X.heap[w.heap.size + 1]? = some (.cells (mkL n.hash A2 c2 L).cs 28 (0, 0)) := by rw [hX]; exact setRow_heap w2 _ _ _ 28 (0, 0) F3.out
      have BX := Lib.hid (show Below w.heap.size w X by rw [hX]; exact below_setRow (B1.out.trans (B2.out.mono B1.out.size)) (Nat.le_add_right _ 1) _)
      have GX := Lib.hid (show GN X (mkL n.hash A2 c2 L) by rw [hX]; exact gn_setRow (n := mkL n.hash A2 c2 L) ⟨⟨RdR.nil, P2.out.1, u64_zero, Nat.zero_le _, P2.out.2.2.2.1⟩, fun _ => rfl, P2.out.2.1, Nat.le_refl _, P2.out.2.2.1⟩ (fun ad e => by cases e) (fun ad e => by have h9 : w1.heap.size ≤ ad.block := P2.out.2.2.2.2 ad e; have := S1.out; omega) _)
      rw [← hX]
      clear hX st
      obtain ⟨d0, d1, d2, d3, d4, d5, d6, d7, d8, d9, d10, d11, d12, d13⟩ := node_vals hg
      clear hg
      exact bodyPost_ret (v := .tuple #[.agg (mkL n.hash A2 c2 L).cs, .bool true]) (by simp [results, Try.results25, go_sem, d0, d1, d2, d3, d4, d5, d6, d7, d8, d9, d10, d11, d12, d13, Nd.cs]) rfl ⟨_, by rw [EE.out], by rw [EV.out]; exact ⟨none, 0, A2, c2, rfl⟩, GX.out, BX.out⟩
  · have EE := Lib.hid (show groB n k = false by
      simp only [groB, ← EB.out, longK]
      cases hb : b
      · rfl
      · simp; by_cases h : 64 < (k.size : Int)
        · omega
        · exact absurd ⟨hb, h⟩ h1)
    have EV := Lib.hid (show groV n k v = Nd.zero by simp [groV, EE.out])
    have hh : b = false ∨ (b = true ∧ decide ((k.size : Int) > 64) = true) := by
      cases b with
      | false => exact .inl rfl
      | true => exact .inr ⟨rfl, decide_eq_true (Classical.byContradiction fun h => h1 ⟨rfl, h⟩)⟩
    clear h1
    rcases hh with rfl | ⟨rfl, hk⟩
    all_goals
      go_enter Try.func25, Try.ntmps25
      go_upto_region 1 with (fail)
      rw [HW.out]
      go_upto_region 2 with (go_at_call 45; refine SO.out.mono ?_; rintro e w1 ⟨rfl, hg⟩; have G1 := Lib.hid hg; clear hg)
      have K3 := Lib.hid (heap_up H3.out G1.out.b)
      have B1 := Lib.hid (BW.out.trans (G1.out.b.mono BW.out.size))
      have st := run_storeNode Nd.zero K3.out rfl
      rw [zero_lit] at st
      go_wp2_with fail
      obtain ⟨X, hX⟩ : ∃ X, X = w1.setRow (w.heap.size + 1) #[.int .i64 0, .int .i64 0, .int .i64 0, .int .u64 0, .slice none 0 0, .int .u64 0, .string ⟨#[]⟩, .int .u64 0, .slice none 0 0, .int .i64 0, .int .i64 0, .int .i64 0, .int .i64 0, .int .i64 0] := ⟨_, rfl⟩
      have hg : X.heap[w.heap.size + 1]? = some (.cells Nd.zero.cs 28 (0, 0)) := by rw [hX]; exact setRow_heap w1 _ _ _ 28 (0, 0) K3.out
      have BX := Lib.hid (show Below w.heap.size w X by rw [hX]; exact below_setRow B1.out (Nat.le_add_right _ 1) _)
      rw [← hX]
      clear hX st
      obtain ⟨d0, d1, d2, d3, d4, d5, d6, d7, d8, d9, d10, d11, d12, d13⟩ := node_vals hg
      clear hg
      exact bodyPost_ret (v := .tuple #[.agg Nd.zero.cs, .bool false]) (by simp [results, Try.results25, go_sem, d0, d1, d2, d3, d4, d5, d6, d7, d8, d9, d10, d11, d12, d13, Nd.cs]) rfl ⟨_, by rw [EE.out], by rw [EV.out]; exact Vw.refl _, gn_zero _, BX.out⟩
end Go.Proofs.Ytpopoihggomfiaa
