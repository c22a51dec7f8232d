/-
  Layer 6: results as maps; the walks of the law's put and agrees.
-/
import Derived.Test.YtcigljjnopfohaaBrL
set_option linter.unusedVariables false
set_option maxRecDepth 100000
namespace Go.Proofs.Ytcigljjnopfohaa
open Go.Shelf Go.RowKit Go.Lib Go.Sort
attribute [local go_sem ↓] exec_load28 exec_storeN
attribute [local go_sem] run_storeNode_new

/-! ### Nodes as maps -/
/-- A C-node as the constructors make it, whose branches are f. -/
def IsMap (m : Nd) (f : Int → Option Int) : Prop := ∃ bm A c L, m = mkC bm A c L ∧ Ok bm L ∧ (∀ z ∈ L, 1 ≤ z) ∧ ∀ j : Nat, j < 64 → lk bm L j = f j
def fN (n : Nd) (j : Int) : Option Int := lk n.bm n.bs j
theorem IsMap.isC {m : Nd} {f : Int → Option Int} (h : IsMap m f) : isC m = true := by
  obtain ⟨bm, A, c, L, rfl, hO, hp, _⟩ := h
  exact isC_mkC hO.2 hp
theorem IsMap.fN {m : Nd} {f : Int → Option Int} (h : IsMap m f) (j : Nat) (hj : j < 64) : fN m j = f j := by
  obtain ⟨bm, A, c, L, rfl, hO, hp, hf⟩ := h
  exact hf j hj
theorem eqN_mk {bm : Int} {A A' : Option Addr} {c c' : Nat} {L : List Int} : eqN (mkC bm A c L) (mkC bm A' c' L) = true := by simp [eqN, mkC, Nd.zero]
theorem IsMap.eq {m m' : Nd} {f f' : Int → Option Int} (h : IsMap m f) (h' : IsMap m' f') (e : ∀ j : Nat, j < 64 → f j = f' j) : eqN m m' = true := by
  obtain ⟨bm, A, c, L, rfl, hO, _, hf⟩ := h
  obtain ⟨bm', A', c', L', rfl, hO', _, hf'⟩ := h'
  obtain ⟨e1, e2⟩ := ok_ext hO hO' fun j hj => (hf j hj).trans ((e j hj).trans (hf' j hj).symm)
  subst e1 e2
  exact eqN_mk
/-- The node with n's bitmap and branches alone. -/
theorem map_plain {n : Nd} {w : World} {B : Nat} (hc : isC n = true) (hR : NRd w B n) (A : Option Addr) (c : Nat) : IsMap (mkC n.bm A c n.bs) (fN n) := ⟨n.bm, A, c, n.bs, rfl, isC_Ok hc hR, (isC_ok hc).2.2, fun j _ => rfl⟩
theorem has_fN {n : Nd} {w : World} {B : Nat} (hc : isC n = true) (hR : NRd w B n) (j : Int) : hasB n.bm j = (fN n j).isSome := hasB_lk (isC_Ok hc hR) j
theorem look_fN {n : Nd} {w : World} {B : Nat} (hc : isC n = true) (hR : NRd w B n) (j : Int) : lookB n j = (fN n j).isSome ∧ lookV n j = (fN n j).getD 0 := by
  cases e : fN n j with
  | none => 
    have := lookB_lk hc hR e
    exact ⟨this, by unfold lookV; rw [this]; rfl⟩
  | some z => exact ⟨(lookV_lk hc e).2.1, (lookV_lk hc e).2.2⟩
theorem fN_pos {n : Nd} {j z : Int} (hc : isC n = true) (h : fN n j = some z) : 1 ≤ z := by
  unfold fN lk at h
  split at h
  · exact (isC_ok hc).2.2 z (List.mem_of_getElem? h)
  · cases h
theorem map_ins {ok : Bool} {n m : Nd} {i r : Int} {w : World} {B : Nat} (hc : isC n = true) (hR : NRd w B n) (hi : inr i = true) (hn : fN n i = none) (hr : 1 ≤ r) (hm : insOk n i r = true → ∃ A c, m = mkC (withI n.bm i) A c (insL n.bm n.bs i r)) :
    insOk n i r = true ∧ IsMap m (fun j => if j = i then some r else fN n j) := by
  have hO := isC_Ok hc hR
  have hh : hasB n.bm i = false := by rw [has_fN hc hR, hn]; rfl
  have hk : insOk n i r = true := by unfold insOk; rw [hc, hi, hh, show decide (1 ≤ r) = true from decide_eq_true hr]; rfl
  obtain ⟨A, c, rfl⟩ := hm hk
  refine ⟨hk, _, A, c, _, rfl, ok_ins hO hi hh, fun z hz => ?_, fun j hj => lk_ins hO hi hh j hj⟩
  unfold insL at hz
  rcases List.mem_append.1 hz with h | h
  · exact (isC_ok hc).2.2 z (List.mem_of_mem_take h)
  · rcases List.mem_cons.1 h with h | h
    · omega
    · exact (isC_ok hc).2.2 z (List.mem_of_mem_drop h)
theorem map_upd {n m : Nd} {i r : Int} {w : World} {B : Nat} (hc : isC n = true) (hR : NRd w B n) (hn : (fN n i).isSome = true) (hr : 1 ≤ r) (hm : updOk n i r = true → ∃ A c, m = mkC n.bm A c (updL n.bm n.bs i r)) :
    updOk n i r = true ∧ IsMap m (fun j => if j = i then some r else fN n j) := by
  have hO := isC_Ok hc hR
  have hh : hasB n.bm i = true := by rw [has_fN hc hR, hn]
  have hk : updOk n i r = true := by unfold updOk; rw [hc, hh, show decide (1 ≤ r) = true from decide_eq_true hr]; rfl
  obtain ⟨A, c, rfl⟩ := hm hk
  refine ⟨hk, _, A, c, _, rfl, ok_upd hO hh, fun z hz => ?_, fun j hj => lk_upd hO hh j hj⟩
  unfold updL at hz
  rcases List.mem_append.1 hz with h | h
  · exact (isC_ok hc).2.2 z (List.mem_of_mem_take h)
  · rcases List.mem_cons.1 h with h | h
    · omega
    · exact (isC_ok hc).2.2 z (List.mem_of_mem_drop h)
theorem map_rem {n m : Nd} {i : Int} {w : World} {B : Nat} (hc : isC n = true) (hR : NRd w B n) (hn : (fN n i).isSome = true) (hm : remOk n i = true → ∃ A c, m = mkC (wtoI n.bm i) A c (remL n.bm n.bs i)) :
    remOk n i = true ∧ IsMap m (fun j => if j = i then none else fN n j) := by
  have hO := isC_Ok hc hR
  have hh : hasB n.bm i = true := by rw [has_fN hc hR, hn]
  have hk : remOk n i = true := by unfold remOk; rw [hc, hh]; rfl
  obtain ⟨A, c, rfl⟩ := hm hk
  refine ⟨hk, _, A, c, _, rfl, ok_rem hO hh, fun z hz => ?_, fun j hj => lk_rem hO hh j hj⟩
  unfold remL at hz
  rcases List.mem_append.1 hz with h | h
  · exact (isC_ok hc).2.2 z (List.mem_of_mem_take h)
  · exact (isC_ok hc).2.2 z (List.mem_of_mem_drop h)
/-- Two nodes of one description are equal. -/
theorem eq_of_posts {ok : Bool} {bm : Int} {L : List Int} {x y : Nd} (hx0 : ok = false → x = Nd.zero) (hx1 : ok = true → ∃ A c, x = mkC bm A c L) (hy0 : ok = false → y = Nd.zero) (hy1 : ok = true → ∃ A c, y = mkC bm A c L) : eqN x y = true := by
  cases ok with
  | false => rw [hx0 rfl, hy0 rfl]; simp [eqN, Nd.zero]
  | true =>
    obtain ⟨A, c, rfl⟩ := hx1 rfl
    obtain ⟨A', c', rfl⟩ := hy1 rfl
    exact eqN_mk
/-- What a result is, in one word. -/
def CRes (ok : Bool) (bm : Int) (L : List Int) (x : Nd) : Prop := (ok = false → x = Nd.zero) ∧ (ok = true → ∃ A c, x = mkC bm A c L)

/-! ### put -/
def PutPost (n : Nd) (i r : Int) (w : World) (e : Ending) (w' : World) : Prop := ∃ m : Nd, e = .returned (.tuple #[.agg m.cs, .bool true]) ∧ IsMap m (fun j => if j = i then some r else fN n j) ∧ GN w' m ∧ (m.pA = none ∧ ∀ ad, m.bA = some ad → w.heap.size ≤ ad.block) ∧ Below w.heap.size w w'
theorem GN.setRow {V : World} {s : Nat} {m : Nd} (h : GN V m) (hb : ∀ ad, m.bA = some ad → ad.block ≠ s) (hp : ∀ ad, m.pA = some ad → ad.block ≠ s) (cs : Array Value) : GN (V.setRow s cs) m := by
  refine ⟨⟨rdR_setRow h.rd.r hb cs, ?_, h.rd.bm, h.rd.bl, h.rd.pl⟩, h.ba, h.pa, h.bc, h.pc⟩
  intro hn
  obtain ⟨ad, e, hb', hc⟩ := h.rd.p hn
  refine ⟨ad, e, by simpa using hb', fun j u hu => (World.cell?_of_block ?_).trans (hc j u hu)⟩
  exact setRow_other _ _ _ _ (by rw [block_add]; exact hp ad e)
set_option maxHeartbeats 8000000 in
theorem put_any (n : Nd) (i r : Int) (w : World) (h : GN w n) (hc : isC n = true) (hi : inr i = true) (hr : 1 ≤ r) : Calls Try.prog 18 #[.agg n.cs, .int .i64 i, .int .i64 r] w (PutPost n i r w) := by
  obtain ⟨W, hW⟩ : ∃ W, W = (w.alloc (.cells n.cs 28)).alloc (.cells zV 28) := ⟨_, rfl⟩
  have GW := Lib.hid (show Gr w W by rw [hW]; exact ((Gr.refl w).alloc _).alloc _)
  have hg : W.heap[w.heap.size]? = some (.cells n.cs 28 (0, 0)) := by rw [hW]; exact (Below.heap_alloc _ _ _ (by simp)).trans (heap_alloc_new w _)
  have hz : W.heap[w.heap.size + 1]? = some (.cells zV 28 (0, 0)) := by rw [hW]; have := heap_alloc_new (w.alloc (.cells n.cs 28)) (.cells zV 28); simpa using this
  have HZ := Lib.hid hz
  have HGW := Lib.hid (h.up GW.out.b)
  have lv := run_loadNode hg
  have LK := Lib.hid (lookup_any n i w.heap.size W (h.rd.gr (Nat.le_refl _) GW.out) GW.out.size)
  have LV := Lib.hid (fun V (hV : Gr W V) => run_loadNode (heap_up hg hV.b))
  have HW := Lib.hid (show (w.alloc (.cells n.cs 28)).alloc (.cells #[.int .i64 0, .int .i64 0, .int .i64 0, .int .u64 0, .slice none 0 0, .int .u64 0, .string ⟨#[]⟩, .int .u64 0, .slice none 0 0, .int .i64 0, .int .i64 0, .int .i64 0, .int .i64 0, .int .i64 0] 28) = W from hW.symm)
  have EL := Lib.hid (look_fN hc h.rd i)
  rw [EL.out.1] at LK
  have HC := Lib.hid hc
  have HI := Lib.hid hi
  have HR := Lib.hid h.rd
  clear h hg hz hW hc hi
  cases e : fN n i with
  | none =>
    rw [e, show (none : Option Int).isSome = false from rfl] at LK
    have FI := Lib.hid (fun (m : Nd) hm => map_ins (ok := true) (m := m) HC.out HR.out HI.out e hr hm)
    have IO := Lib.hid (FI.out (mkC (withI n.bm i) none 0 (insL n.bm n.bs i r)) (fun _ => ⟨none, 0, rfl⟩)).1
    have CI := Lib.hid (fun V (hV : Gr W V) => inserted_any n i r V (HGW.out.up hV.b))
    rw [IO.out] at CI FI
    clear EL
    go_enter Try.func18, Try.ntmps18
    go_upto_region 1 with (fail)
    rw [HW.out]
    go_wp2_with (first
      | (go_at_call 12; refine LK.out.mono ?_; rintro e w1 ⟨rfl, hg⟩; have G := Lib.hid hg; have lw := LV.out w1 hg; clear hg)
      | (go_at_call 13; refine (CI.out _ G.out).mono ?_; rintro e w6 ⟨m, rfl, m0, m1, gm, fm, hb6⟩; have FM := Lib.hid (FI.out m (fun _ => m1 rfl)).2; have GM := Lib.hid gm; have FR := Lib.hid fm; have B6 := Lib.hid hb6; have Z6 := Lib.hid (heap_up (heap_up HZ.out G.out.b) hb6); have st := run_storeNode m Z6.out rfl; clear m0 m1 gm fm hb6))
    have hX := setRow_heap w6 (w.heap.size + 1) _ m.cs 28 (0, 0) Z6.out
    have hs1 := (Array.getElem?_eq_some_iff.1 (heap_up HZ.out G.out.b)).1
    have GX := Lib.hid (GM.out.setRow (s := w.heap.size + 1) (fun ad e => by have := FR.out.2 ad e; omega) (fun ad e => by rw [FR.out.1] at e; cases e) m.cs)
    have BX := Lib.hid (below_setRow (w := w) (V := w6) (b := w.heap.size + 1) ((GW.out.b.trans (G.out.b.mono GW.out.size)).trans (B6.out.mono (Nat.le_trans GW.out.size G.out.size))) (by omega) m.cs)
    clear st
    generalize w6.setRow (w.heap.size + 1) m.cs = X at hX GX BX ⊢
    obtain ⟨d0, d1, d2, d3', d4, d5, d6, d7, d8, d9, d10, d11, d12, d13⟩ := node_vals (n := m) hX
    clear hX
    exact bodyPost_ret (v := .tuple #[.agg m.cs, .bool true]) (by simp [results, Try.results18, go_sem, d0, d1, d2, d3', d4, d5, d6, d7, d8, d9, d10, d11, d12, d13, Nd.cs]) rfl ⟨m, rfl, FM.out, GX.out, ⟨FR.out.1, fun ad e => Nat.le_trans (Nat.le_trans GW.out.size G.out.size) (FR.out.2 ad e)⟩, BX.out⟩
  | some z =>
    rw [e, show (some z : Option Int).isSome = true from rfl] at LK
    have FI := Lib.hid (fun (m : Nd) hm => map_upd (m := m) HC.out HR.out (by rw [e]; rfl : (fN n i).isSome = true) hr hm)
    have IO := Lib.hid (FI.out (mkC n.bm none 0 (updL n.bm n.bs i r)) (fun _ => ⟨none, 0, rfl⟩)).1
    have CI := Lib.hid (fun V (hV : Gr W V) => updated_any n i r V (HGW.out.up hV.b))
    rw [IO.out] at CI FI
    clear EL
    go_enter Try.func18, Try.ntmps18
    go_upto_region 1 with (fail)
    rw [HW.out]
    go_wp2_with (first
      | (go_at_call 12; refine LK.out.mono ?_; rintro e w1 ⟨rfl, hg⟩; have G := Lib.hid hg; have lw := LV.out w1 hg; clear hg)
      | (go_at_call 14; refine (CI.out _ G.out).mono ?_; rintro e w6 ⟨m, rfl, m0, m1, gm, fm, hb6⟩; have FM := Lib.hid (FI.out m (fun _ => m1 rfl)).2; have GM := Lib.hid gm; have FR := Lib.hid fm; have B6 := Lib.hid hb6; have Z6 := Lib.hid (heap_up (heap_up HZ.out G.out.b) hb6); have st := run_storeNode m Z6.out rfl; clear m0 m1 gm fm hb6))
    have hX := setRow_heap w6 (w.heap.size + 1) _ m.cs 28 (0, 0) Z6.out
    have hs1 := (Array.getElem?_eq_some_iff.1 (heap_up HZ.out G.out.b)).1
    have GX := Lib.hid (GM.out.setRow (s := w.heap.size + 1) (fun ad e => by have := FR.out.2 ad e; omega) (fun ad e => by rw [FR.out.1] at e; cases e) m.cs)
    have BX := Lib.hid (below_setRow (w := w) (V := w6) (b := w.heap.size + 1) ((GW.out.b.trans (G.out.b.mono GW.out.size)).trans (B6.out.mono (Nat.le_trans GW.out.size G.out.size))) (by omega) m.cs)
    clear st
    generalize w6.setRow (w.heap.size + 1) m.cs = X at hX GX BX ⊢
    obtain ⟨d0, d1, d2, d3', d4, d5, d6, d7, d8, d9, d10, d11, d12, d13⟩ := node_vals (n := m) hX
    clear hX
    exact bodyPost_ret (v := .tuple #[.agg m.cs, .bool true]) (by simp [results, Try.results18, go_sem, d0, d1, d2, d3', d4, d5, d6, d7, d8, d9, d10, d11, d12, d13, Nd.cs]) rfl ⟨m, rfl, FM.out, GX.out, ⟨FR.out.1, fun ad e => Nat.le_trans (Nat.le_trans GW.out.size G.out.size) (FR.out.2 ad e)⟩, BX.out⟩
end Go.Proofs.Ytcigljjnopfohaa
