/-
  The walk of copied.
-/
import Derived.Test.YtbknbjabkhhlfaaArC
import Derived.Deep.MidRow
import Derived.Deep.Upon
import Derived.Deep.RegionHeld3
set_option linter.unusedVariables false
set_option maxRecDepth 100000
namespace Go.Proofs.Ytbknbjabkhhlfaa
open Go.Shelf Go.RowKit Go.Lib Go.Sort
attribute [local go_sem ↓] exec_load28 exec_store44
attribute [local go_sem] run_storeNode_new

/-- The same node, its lists elsewhere. -/
def sameN (a b : Nd) : Prop := ∃ A c P d, b = { a with bA := A, bc := c, pA := P, pc := d }
theorem sameN.refl (a : Nd) : sameN a a := ⟨_, _, _, _, rfl⟩
theorem sameN_eq {a b : Nd} (h : sameN a b) : eqN a b = true := by
  obtain ⟨A, c, P, d, rfl⟩ := h
  simp [eqN]
def SameL (xs ys : List Nd) : Prop := xs.length = ys.length ∧ ∀ (i : Nat) (a b : Nd), xs[i]? = some a → ys[i]? = some b → sameN a b
/-- A node of a copy: its lists were made, in blocks from base on, away from the copy's own row. -/
structure Mine (w : World) (base g : Nat) (n : Nd) : Prop where
  a : OwnR w base (.slice n.bA n.bs.length n.bc) n.bs
  p : Own w base (.slice n.pA n.ps.length n.pc) n.ps
  ag : ∀ ad, n.bA = some ad → ad.block ≠ g
  pg : ∀ ad, n.pA = some ad → ad.block ≠ g
  bm : U64 n.bm
  bl : n.bs.length ≤ 1000
  pl : n.ps.length ≤ 1000
theorem Mine.keep {w w' : World} {base g : Nat} {n : Nd} (h : Mine w base g n) (hk : ∀ k, k ≠ g → k < w.heap.size → w'.heap[k]? = w.heap[k]?) : Mine w' base g n := by
  refine ⟨?_, ?_, h.ag, h.pg, h.bm, h.bl, h.pl⟩
  · exact h.a.keepAt fun k hk1 hk2 => hk k (fun e => by
      cases hA : n.bA with
      | none => rw [hA] at hk1; cases hk1
      | some ad => rw [hA] at hk1; injection hk1 with hk1; exact h.ag ad hA (hk1.trans e)) hk2
  · refine ⟨h.p.1, ?_⟩
    rcases h.p.2 with hn | ⟨g', cap, cur, hv, hbg, hg, rest⟩
    · exact .inl hn
    · refine .inr ⟨g', cap, cur, hv, hbg, (hk g' ?_ (Array.getElem?_eq_some_iff.1 hg).1).trans hg, rest⟩
      injection hv with hv _ _
      exact h.pg ⟨g', 0, none⟩ hv

/-! ### A store in the midst of a row -/
theorem setCells_block (b : Nat) : ∀ (vs : List Value) (o : Nat) (w : World) (cs : Array Value) (t : TypeId) (fr : Nat × Nat), w.heap[b]? = some (.cells cs t fr) → o + vs.length ≤ cs.size →
    ∃ cs' : Array Value, (w.setCells b o vs).heap[b]? = some (.cells cs' t fr) ∧ cs'.size = cs.size ∧ (∀ k, k < o ∨ o + vs.length ≤ k → cs'[k]? = cs[k]?) ∧ (∀ j v, vs[j]? = some v → cs'[o + j]? = some v)
  | [], o, w, cs, t, fr, h, _ => ⟨cs, h, rfl, fun _ _ => rfl, fun j v hj => by simp at hj⟩
  | v :: r, o, w, cs, t, fr, h, hl => by
    have h1 : (w.setCell ⟨b, o, none⟩ v).heap[b]? = some (.cells (cs.setIfInBounds o v) t fr) := by simp [World.setCell, Array.getElem?_modify, h]
    obtain ⟨cs', g1, g2, g3, g4⟩ := setCells_block b r (o + 1) _ _ t fr h1 (by simp at hl ⊢; omega)
    refine ⟨cs', g1, by rw [g2]; simp, fun k hk => ?_, fun j u hj => ?_⟩
    · rw [g3 k (by simp at hk; omega), Array.getElem?_setIfInBounds]
      rw [if_neg (by simp at hk; omega)]
    · cases j with
      | zero =>
        simp at hj
        subst hj
        rw [Nat.add_zero, g3 o (by omega), Array.getElem?_setIfInBounds, if_pos rfl, if_pos (by simp at hl; omega)]
      | succ j =>
        have := g4 j u (by simpa using hj)
        rw [← this]
        congr 1
        omega
theorem setCells_size (b : Nat) : ∀ (vs : List Value) (o : Nat) (w : World), (w.setCells b o vs).heap.size = w.heap.size
  | [], _, _ => rfl
  | v :: r, o, w => by rw [World.setCells, setCells_size b r (o + 1)]; simp
theorem setCells_rest (b : Nat) : ∀ (vs : List Value) (o : Nat) (w : World), (w.setCells b o vs).os = w.os ∧ (w.setCells b o vs).tape = w.tape ∧ (w.setCells b o vs).output = w.output ∧ (w.setCells b o vs).drawn = w.drawn
  | [], _, _ => ⟨rfl, rfl, rfl, rfl⟩
  | v :: r, o, w => by
    obtain ⟨h1, h2, h3, h4⟩ := setCells_rest b r (o + 1) (w.setCell ⟨b, o, none⟩ v)
    exact ⟨h1, h2, h3, h4⟩
theorem setCells_other (b : Nat) : ∀ (vs : List Value) (o : Nat) (w : World) (k : Nat), k ≠ b → (w.setCells b o vs).heap[k]? = w.heap[k]?
  | [], _, _, _, _ => rfl
  | v :: r, o, w, k, hk => by
    rw [World.setCells, setCells_other b r (o + 1) _ k hk]
    exact Below.heap_setCell w ⟨b, o, none⟩ v k hk
theorem below_setCells {B : Nat} {a w : World} (h : Below B a w) {b : Nat} (hb : B ≤ b) (o : Nat) (vs : List Value) : Below B a (w.setCells b o vs) := by
  obtain ⟨h1, h2, h3, _⟩ := setCells_rest b vs o w
  exact h.trans ⟨h1, h2, h3, by rw [setCells_size]; exact Nat.le_refl _, fun k hk => setCells_other b vs o w k (by omega)⟩

/-- The row of the copy: what has been laid, at its head. -/
def Row (w : World) (g m : Nat) (ys : List Nd) : Prop := ∃ cs : Array Value, w.heap[g]? = some (.cells cs 35 (0, 0)) ∧ cs.size = m * 14 ∧ ys.length ≤ m ∧ (∀ (k : Nat) (v : Value), (flatN ys)[k]? = some v → cs[k]? = some v)
theorem Row.keep {w w' : World} {g m : Nat} {ys : List Nd} (h : Row w g m ys) (hk : w'.heap[g]? = w.heap[g]?) : Row w' g m ys := by
  obtain ⟨cs, h1, h2⟩ := h
  exact ⟨cs, hk.trans h1, h2⟩
theorem Row.lt {w : World} {g m : Nat} {ys : List Nd} (h : Row w g m ys) : g < w.heap.size := by
  obtain ⟨cs, h1, _⟩ := h
  exact (Array.getElem?_eq_some_iff.1 h1).1
theorem Row.store {w : World} {g m : Nat} {ys : List Nd} (h : Row w g m ys) (hl : ys.length < m) (y : Nd) :
    Sem.run Try.prog (storeNode (.pointer (some ⟨g, ys.length * 14, none⟩)) (.agg y.cs)) w = .ok () (w.setCells g (ys.length * 14) y.cs.toList) := by
  obtain ⟨cs, h1, h2, _, _⟩ := h
  refine run_storeAt_mid (P := Try.prog) w g (ys.length * 14) 35 y.cs (fun j hj => ?_) nodeSize (cs_all y)
  have hj' : j < 14 := by rw [cs_size14] at hj; exact hj
  have hk : ys.length * 14 + j < cs.size := by omega
  refine ⟨?_, by simp [World.frozen?, h1]⟩
  rw [cell_of_row w g _ cs 35 (0, 0) h1, Array.getElem?_eq_getElem hk]
  rfl
theorem Row.put {w : World} {g m : Nat} {ys : List Nd} (h : Row w g m ys) (hl : ys.length < m) (y : Nd) : Row (w.setCells g (ys.length * 14) y.cs.toList) g m (ys ++ [y]) := by
  obtain ⟨cs, h1, h2, h3, h4⟩ := h
  obtain ⟨cs', g1, g2, g3, g4⟩ := setCells_block g y.cs.toList (ys.length * 14) w cs 35 (0, 0) h1 (by rw [cs_len]; omega)
  refine ⟨cs', g1, by omega, by simp; omega, fun k v hk => ?_⟩
  rw [flatN_append] at hk
  rcases Nat.lt_or_ge k (flatN ys).length with hlt | hge
  · rw [List.getElem?_append_left hlt] at hk
    rw [flatN_length] at hlt
    rw [g3 k (.inl hlt)]
    exact h4 k v hk
  · rw [List.getElem?_append_right hge] at hk
    rw [flatN_length] at hge hk
    have e : flatN [y] = y.cs.toList := by simp [flatN]
    rw [e] at hk
    have := g4 _ v hk
    rw [show ys.length * 14 + (k - ys.length * 14) = k by omega] at this
    exact this
theorem Row.own {w : World} {base g m : Nat} {ys : List Nd} (h : Row w g m ys) (hb : base ≤ g) (hl : ys.length = m) (hm : m ≤ 1000) : OwnN w base (.slice (some ⟨g, 0, none⟩) ys.length m) ys := by
  obtain ⟨cs, h1, h2, h3, h4⟩ := h
  refine ⟨flatN_length ys, .inr ⟨g, m, cs, rfl, hb, h1, h3, by simp only [maxLen]; omega, h2, ?_⟩⟩
  apply List.ext_getElem?
  intro k
  rw [List.getElem?_take]
  by_cases hk : k < ys.length * 14
  · rw [if_pos hk]
    have hk' : k < (flatN ys).length := by rw [flatN_length]; exact hk
    have := h4 k _ (List.getElem?_eq_getElem hk')
    rw [Array.getElem?_toList, this, List.getElem?_eq_getElem hk']
  · rw [if_neg hk, List.getElem?_eq_none (by rw [flatN_length]; omega)]
theorem row_made {W1 : World} {base g m : Nat} {cs : List Value} (h : W1.ownsRow base 35 14 (.slice (some ⟨g, 0, none⟩) m m) m cs) : Row W1 g m [] := by
  rcases h.2 with ⟨hv, _⟩ | ⟨g', cap, cur, hv, _, hg, _, _, hcs, ht⟩
  · cases hv
  · injection hv with e1 e2 e3
    injection e1 with e1
    injection e1 with e1 _
    subst e1
    subst e3
    exact ⟨cur, hg, hcs, Nat.zero_le _, fun k v hk => by simp [flatN] at hk⟩

/-- What a copy is. -/
structure Copy (w : World) (base : Nat) (t : Sd) : Prop where
  nod : OwnN w base (.slice t.nA t.ns.length t.nc) t.ns
  cel : OwnR w base (.slice t.cA t.cs.length t.cc) t.cs
  l : ∀ n ∈ t.ns, NOk w (fun k => (∃ ad, t.nA = some ad ∧ ad.block = k) ∨ (∃ ad, t.cA = some ad ∧ ad.block = k)) n ∧ (∀ ad, n.bA = some ad → base ≤ ad.block) ∧ (∀ ad, n.pA = some ad → base ≤ ad.block)
  nl : t.ns.length ≤ 1000
  cl : t.cs.length ≤ 1000
def CopyPost (s : Sd) (w : World) (e : Ending) (w' : World) : Prop :=
  ∃ t : Sd, e = .returned (.agg t.vals) ∧ SameL s.ns t.ns ∧ t.cs = s.cs ∧ t.gen = s.gen ∧ Copy w' w.heap.size t ∧ Below w.heap.size w w'
def ClonePost2 (n : Nd) (w : World) (e : Ending) (w' : World) : Prop :=
  ∃ y : Nd, e = .returned (.agg y.cs) ∧ ∃ A c P d, y = { n with bA := A, bc := c, pA := P, pc := d } ∧ OwnR w' w.heap.size (.slice A n.bs.length c) n.bs ∧ Own w' w.heap.size (.slice P n.ps.length d) n.ps ∧ Below w.heap.size w w'
theorem clone_up (n : Nd) (w : World) (h : NRd w w.heap.size n) (hA : n.bA = none → n.bc = 0) (hP : n.pA = none → n.pc = 0) : Calls Try.prog 26 #[.agg n.cs] w (ClonePost2 n w) :=
  (clone_any n w h hA hP).mono fun _ _ ⟨A, c, P, d, he, h1, h2, h3⟩ => ⟨_, he, A, c, P, d, rfl, h1, h2, h3⟩
theorem OwnR.lo {w : World} {base : Nat} {A : Option Addr} {m c : Nat} {xs : List Int} (h : OwnR w base (.slice A m c) xs) : ∀ ad, A = some ad → base ≤ ad.block ∧ ad.block < w.heap.size := fun ad e => by
  rcases h.2 with ⟨hv, _⟩ | ⟨g, cap, cur, hv, hb, hg, _⟩
  · rw [e] at hv; cases hv
  · rw [e] at hv; injection hv with hv _ _; injection hv with hv; subst hv
    exact ⟨hb, (Array.getElem?_eq_some_iff.1 hg).1⟩
theorem Own.lo {w : World} {base : Nat} {A : Option Addr} {m c : Nat} {xs : List Pr} (h : Own w base (.slice A m c) xs) : ∀ ad, A = some ad → base ≤ ad.block ∧ ad.block < w.heap.size := fun ad e => by
  rcases h.2 with ⟨hv, _⟩ | ⟨g, cap, cur, hv, hb, hg, _⟩
  · rw [e] at hv; cases hv
  · rw [e] at hv; injection hv with hv _ _; injection hv with hv; subst hv
    exact ⟨hb, (Array.getElem?_eq_some_iff.1 hg).1⟩

theorem box12 {w : World} {b : Nat} {s : Sd} (h : Box w b s) : w.cell? ⟨b, 1, none⟩ = some (.slice s.cA s.cs.length s.cc) ∧ w.cell? ⟨b, 2, none⟩ = some (.int .i64 s.gen) := ⟨h.at1, h.at2⟩
theorem Box.set {w : World} {b : Nat} {s : Sd} (h : Box w b s) {p : Addr} (hp : b ≠ p.block) (v : Value) : Box (w.setCell p v) b s := (Below.heap_setCell w p v b hp).trans h
theorem set_block {V : World} {b : Nat} {cs : Array Value} {t : TypeId} (h : V.heap[b]? = some (.cells cs t (0, 0))) (i : Nat) (v : Value) : (V.setCell ⟨b, i, none⟩ v).heap[b]? = some (.cells (cs.setIfInBounds i v) t (0, 0)) := by
  simp [World.setCell, Array.getElem?_modify, h]
theorem block_cell {V : World} {b : Nat} {cs : Array Value} {t : TypeId} (h : V.heap[b]? = some (.cells cs t (0, 0))) {i : Nat} {v : Value} (hv : cs[i]? = some v) : V.cell? ⟨b, i, none⟩ = some v := by
  rw [cell_of_row V b i cs t (0, 0) h]; exact hv
theorem block_frozen {V : World} {b : Nat} {cs : Array Value} {t : TypeId} (h : V.heap[b]? = some (.cells cs t (0, 0))) (i : Nat) : V.frozen? ⟨b, i, none⟩ = false := by simp [World.frozen?, h]
set_option maxHeartbeats 8000000 in
theorem copied_any (s : Sd) (B : Nat) (w : World) (h : SRd w B s) (hB : B ≤ w.heap.size) : Calls Try.prog 22 #[.agg s.vals] w (CopyPost s w) := by
  have mixed := mixedOrders
  have hl := h.nl
  have hcl := h.cl
  have H := Lib.hid h
  have HB := Lib.hid hB
  obtain ⟨i0, hi0, hz0, hz1, hz2⟩ := info_parts nodeInfo14
  obtain ⟨z0, hz0'⟩ : ∃ z0, i0.zero = some z0 := ⟨_, hz0⟩
  have hb1 : i0.bytes * s.ns.length ≤ 281474976710656 := by rw [hz2]; omega
  have hb2 : s.ns.length ≤ maxLen := by simp only [maxLen]; omega
  have HI := Lib.hid (⟨hi0, hz0', hz1, hb1, hb2⟩ : _ ∧ _ ∧ _ ∧ _ ∧ _)
  clear hb1 hb2
  clear hz0'
  obtain ⟨W, hW⟩ : ∃ W, W = (w.alloc (.cells s.vals 38)).alloc (.cells #[.slice none 0 0, .slice none 0 0, .int .i64 0] 38) := ⟨_, rfl⟩
  have HsW := Lib.hid (show W.heap.size = w.heap.size + 2 by rw [hW]; simp)
  have GW := Lib.hid (show Below w.heap.size w W by rw [hW]; exact ((Below.refl _ w).alloc (Nat.le_refl _) _).alloc (by simp) _)
  have HSB := Lib.hid (show Box W w.heap.size s by rw [hW]; exact (Below.heap_alloc _ _ _ (by simp)).trans (heap_alloc_new w _))
  have HRB := Lib.hid (show W.heap[w.heap.size + 1]? = some (.cells #[.slice none 0 0, .slice none 0 0, .int .i64 0] 38 (0, 0)) by
    rw [hW]
    have := heap_alloc_new (w.alloc (.cells s.vals 38)) (.cells #[.slice none 0 0, .slice none 0 0, .int .i64 0] 38)
    simpa using this)
  have HW := Lib.hid hW.symm
  have v0 := HSB.out.at0
  clear h hB hW hi0 hz0 hz1 hz2
  go_enter Try.func22, Try.ntmps22
  go_upto_region 1 with (fail)
  rw [HW.out]
  go_wp2_with (at_make
               refine wpList_make_full W rfl (.tmp 8) (.tmp 8) 36 rfl W.heap.size 35 i0 _ 14 Try.underlying36 HI.out.1 HI.out.2.1 HI.out.2.2.1 _ _ _ _ s.ns.length rfl rfl rfl rfl HI.out.2.2.2.1 HI.out.2.2.2.2 (Nat.le_refl _) ?_
               intro W1 HO1 HG1
               have FL := Lib.hid (row_made HO1)
               have GW1 := Lib.hid (show Below w.heap.size w W1 from GW.out.trans ⟨HG1.os, HG1.tape, HG1.output, HG1.size, fun k hk => HG1.block k (Nat.lt_of_lt_of_le hk GW.out.size) (by simp)⟩)
               have BX1 := Lib.hid (show Box W1 w.heap.size s from (HG1.block w.heap.size (by rw [HsW.out]; omega) (by simp)).trans HSB.out)
               have RB1 := Lib.hid ((HG1.block (w.heap.size + 1) (by rw [HsW.out]; omega) (by simp)).trans HRB.out)
               have v0' := BX1.out.at0
               clear HO1 HG1)
  clear v0 v0'
  have hg1 : Box W1 w.heap.size s ∧ W1.heap[w.heap.size + 1]? = some (.cells #[.slice none 0 0, .slice none 0 0, .int .i64 0] 38 (0, 0)) ∧ Row W1 W.heap.size s.ns.length [] ∧ Below w.heap.size w W1 := ⟨BX1.out, RB1.out, FL.out, GW1.out⟩
  have HG1 := Lib.hid hg1
  have hWl : w.heap.size + 2 ≤ W.heap.size := by rw [HsW.out]; omega
  have HWL := Lib.hid hWl
  clear hg1 BX1 RB1 FL GW1 hWl
  generalize W.heap.size = g at HG1 HWL ⊢
  clear HSB HRB HsW GW HW W
  go_loopg [13] s.ns.length (fun kx s8 wr => ∃ (i : Nat) (ys : List Nd), s8 = .int .i64 i ∧ i ≤ s.ns.length ∧ s.ns.length - i ≤ kx ∧ Aside (ys.length = i) ∧ Aside (Box wr w.heap.size s ∧ wr.heap[w.heap.size + 1]? = some (.cells #[.slice none 0 0, .slice none 0 0, .int .i64 0] 38 (0, 0)) ∧ Row wr g s.ns.length ys ∧ Below w.heap.size w wr) ∧ Aside (∀ y ∈ ys, Mine wr w.heap.size g y) ∧ Aside (∀ (j : Nat) (a b : Nd), s.ns[j]? = some a → ys[j]? = some b → sameN a b))
  case atStart => exact ⟨0, [], rfl, Nat.zero_le _, by omega, rfl, HG1.out, (fun y hy => by cases hy), (fun j a b _ hb => by simp at hb)⟩
  case round =>
    clear HG1
    obtain ⟨i, ys, rfl, hi, hkx, Y, G, M, SN⟩ := hrel
    by_cases hlt : i < s.ns.length
    · have hltz : (i : Int) < (s.ns.length : Int) := by omega
      have hx : s.ns[i]? = some s.ns[i] := List.getElem?_eq_getElem hlt
      generalize s.ns[i] = n at hx
      have X := Lib.hid hx
      have hr : SRd wr B s := H.out.below (G.out.2.2.2.mono HB.out)
      obtain ⟨b, o, eA, hb, hc⟩ := hr.n.at_ hx
      have hn2 : RdN wr B (some ⟨b, o, none⟩) s.ns := by rw [← eA]; exact hr.n
      have EA := Lib.hid eA
      have ld := hn2.load hx
      have NR := Lib.hid (hr.l n (List.mem_of_getElem? hx))
      clear hx hr hc hn2
      rw [EA.out]
      clear eA
      go_upto_region 5 with (fail)
      obtain ⟨V, hV⟩ : ∃ V, V = wr.alloc (.cells n.cs 35) := ⟨_, rfl⟩
      have hbox : V.heap[wr.heap.size]? = some (.cells n.cs 35 (0, 0)) := by rw [hV]; exact heap_alloc_new wr _
      have GB := Lib.hid (show Below wr.heap.size wr V by rw [hV]; exact (Below.refl _ wr).alloc (Nat.le_refl _) _)
      have hsV : wr.heap.size < V.heap.size := by rw [hV]; simp
      have HSV := Lib.hid hsV
      rw [← hV]
      clear hV ld hsV
      have lv := run_loadNode hbox
      clear hbox
      have NV := Lib.hid (show NRd V V.heap.size n from ((NR.out.1.below (GB.out.mono (Nat.le_trans HB.out G.out.2.2.2.size))).more (Nat.le_trans (Nat.le_trans HB.out G.out.2.2.2.size) GB.out.size)))
      have CU := Lib.hid (clone_up n V NV.out NR.out.2.1 NR.out.2.2)
      go_wp2_with (go_at_call 26
                   refine CU.out.mono ?_
                   rintro e w5 ⟨y, rfl, A, c, P, d, hy, hoR, hoP, hb5⟩
                   have K5 := Lib.hid (GB.out.trans (hb5.mono GB.out.size))
                   have YE := Lib.hid hy
                   have OR := Lib.hid hoR
                   have OP := Lib.hid hoP
                   have R5 := Lib.hid (G.out.2.2.1.keep (K5.out.block g G.out.2.2.1.lt))
                   have hyl : ys.length < s.ns.length := by rw [Y.out]; exact hlt
                   have st := R5.out.store hyl y
                   rw [show ys.length = i from Y.out] at st
                   have hVs := Lib.hid hb5.size
                   clear hy hoR hoP hb5 hyl)
      clear lv st
      have hyl : ys.length < s.ns.length := by rw [Y.out]; exact hlt
      rw [← EA.out]
      go_roundg (s.ns.length - (i + 1))
      case measure => omega
      case rel =>
        have e14 : i * 14 = ys.length * 14 := by rw [show ys.length = i from Y.out]
        rw [e14]
        have hoth : ∀ k, k ≠ g → k < wr.heap.size → (w5.setCells g (ys.length * 14) y.cs.toList).heap[k]? = wr.heap[k]? := fun k hk hk2 => (setCells_other g _ _ _ _ hk).trans (K5.out.block k hk2)
        have hgl := HWL.out
        have hbl : w.heap.size + 1 < wr.heap.size := (Array.getElem?_eq_some_iff.1 G.out.2.1).1
        have hgr : g < wr.heap.size := G.out.2.2.1.lt
        have hVL := HSV.out
        refine ⟨i + 1, ys ++ [y], by go_num, by omega, Nat.le_refl _, (show (ys ++ [y]).length = i + 1 by rw [List.length_append, show ys.length = i from Y.out]; rfl), (⟨(hoth _ (by omega) (by omega)).trans G.out.1, (hoth _ (by omega) hbl).trans G.out.2.1, R5.out.put hyl y, below_setCells (G.out.2.2.2.trans (K5.out.mono (by have := G.out.2.2.2.size; omega))) (by omega) _ _⟩ : _ ∧ _ ∧ _ ∧ _), ?_, ?_⟩
        · show ∀ z ∈ ys ++ [y], _
          intro z hz
          rcases List.mem_append.1 hz with hz | hz
          · exact (M.out z hz).keep hoth
          · have ez := List.mem_singleton.1 hz
            subst ez
            have hlo := OR.out.lo
            have hpo := OP.out.lo
            have hm : Mine w5 w.heap.size g z := by
              have hy := YE.out
              subst hy
              exact ⟨OR.out.mono (by have := G.out.2.2.2.size; omega), OP.out.mono (by have := G.out.2.2.2.size; omega), fun ad e => by have := hlo ad e; omega, fun ad e => by have := hpo ad e; omega, NR.out.1.bm, NR.out.1.bl, NR.out.1.pl⟩
            exact hm.keep fun k hk _ => setCells_other g _ _ _ _ hk
        · show ∀ (j : Nat) (a b : Nd), _
          intro j a b ha hb
          rcases Nat.lt_or_ge j ys.length with hj | hj
          · rw [List.getElem?_append_left hj] at hb
            exact SN.out j a b ha hb
          · rw [List.getElem?_append_right hj] at hb
            have hj0 : j - ys.length = 0 := by
              have := (List.getElem?_eq_some_iff.1 hb).1
              simp at this
              omega
            rw [hj0] at hb
            simp at hb
            subst hb
            have ej : j = i := by have := Y.out; omega
            subst ej
            rw [X.out] at ha
            injection ha with ha
            subst ha
            exact ⟨A, c, P, d, YE.out⟩
    · obtain rfl : i = s.ns.length := by omega
      go_upto_region 7 with (fail)
      have hr : SRd wr B s := H.out.below (G.out.2.2.2.mono HB.out)
      have hwr := G.out.2.2.2.size
      have RC := Lib.hid (hr.c.more (Nat.le_trans HB.out hwr))
      have RA := Lib.hid hr.ca
      have hBq := Lib.hid (show w.heap.size + 1 < wr.heap.size from (Array.getElem?_eq_some_iff.1 G.out.2.1).1)
      clear hr hwr
      go_region_held3 (fun w' => w'.cell? ⟨w.heap.size, 1, none⟩ = some (.slice s.cA s.cs.length s.cc) ∧ w'.cell? ⟨w.heap.size, 2, none⟩ = some (.int .i64 s.gen))
        (first | exact box12 G.out.1 | exact box12 B6.out | exact box12 (((B6.out.set (by simp) _).set (by simp) _).set (by simp) _))
        (first
          | (go_at_call 38
             refine (cloneR_any s.cA s.cc s.cs wr.drew RC.out RA.out hcl).mono ?_
             rintro e w6 ⟨v, rfl, ho, hb⟩
             obtain ⟨A6, c6, rfl, _, _, _⟩ := ho.open2
             have O6 := Lib.hid (show OwnR w6 wr.heap.size (.slice A6 s.cs.length c6) s.cs from ho)
             have L6 := Lib.hid (show Below wr.heap.size wr w6 from ⟨hb.os, hb.tape, hb.output, hb.size, hb.block⟩)
             have B6 := Lib.hid (show Box w6 w.heap.size s from (hb.block _ (Array.getElem?_eq_some_iff.1 G.out.1).1).trans G.out.1)
             have Q6 := Lib.hid (show w6.heap[w.heap.size + 1]? = some (.cells #[.slice none 0 0, .slice none 0 0, .int .i64 0] 38 (0, 0)) from (hb.block _ hBq.out).trans G.out.2.1)
             have e0 := block_cell Q6.out (i := 0) (v := .slice none 0 0) rfl
             have e1 := block_cell Q6.out (i := 1) (v := .slice none 0 0) rfl
             have e2 := block_cell Q6.out (i := 2) (v := .int .i64 0) rfl
             have f0 := block_frozen Q6.out 0
             have f1 := block_frozen Q6.out 1
             have f2 := block_frozen Q6.out 2
             clear ho hb))
      obtain ⟨Z, hZ⟩ : ∃ Z, Z = (((w6.setCell { block := w.heap.size + 1, off := 0 } (Value.slice (some { block := g, off := 0 }) s.ns.length s.ns.length)).setCell { block := w.heap.size + 1, off := 1 } (Value.slice A6 s.cs.length c6)).setCell { block := w.heap.size + 1, off := 2 } (Value.int IntKind.i64 s.gen)) := ⟨_, rfl⟩
      rw [← hZ]
      have hz : Z.heap[w.heap.size + 1]? = some (.cells #[.slice (some ⟨g, 0, none⟩) s.ns.length s.ns.length, .slice A6 s.cs.length c6, .int .i64 s.gen] 38 (0, 0)) := by rw [hZ]; exact set_block (set_block (set_block Q6.out 0 _) 1 _) 2 _
      have KZ := Lib.hid (show ∀ k, k ≠ w.heap.size + 1 → Z.heap[k]? = w6.heap[k]? by
        rw [hZ]
        intro k hk
        exact ((Below.heap_setCell _ ⟨w.heap.size + 1, 2, none⟩ _ k hk).trans (Below.heap_setCell _ ⟨w.heap.size + 1, 1, none⟩ _ k hk)).trans (Below.heap_setCell _ ⟨w.heap.size + 1, 0, none⟩ _ k hk))
      have BZ := Lib.hid (show Below w.heap.size w Z by
        rw [hZ]
        have := G.out.2.2.2.trans (L6.out.mono G.out.2.2.2.size)
        exact ((this.setCell (by simp) _).setCell (by simp) _).setCell (by simp) _)
      have SZ := Lib.hid (show Z.heap.size = w6.heap.size by rw [hZ]; simp)
      clear hZ e0 e1 e2 f0 f1 f2
      have d0 := block_cell hz (i := 0) (v := .slice (some ⟨g, 0, none⟩) s.ns.length s.ns.length) rfl
      have d1 := block_cell hz (i := 1) (v := .slice A6 s.cs.length c6) rfl
      have d2 := block_cell hz (i := 2) (v := .int .i64 s.gen) rfl
      clear hz
      go_wp2_with fail
      have hyl : ys.length = s.ns.length := Y.out
      have hgw : g < wr.heap.size := G.out.2.2.1.lt
      have hw6 := L6.out.size
      have hwg := HWL.out
      have hbw := G.out.2.2.2.size
      refine bodyPost_ret (v := .agg #[.slice (some ⟨g, 0, none⟩) s.ns.length s.ns.length, .slice A6 s.cs.length c6, .int .i64 s.gen]) (by simp [results, Try.results22, go_sem, d0, d1, d2]) rfl ⟨⟨some ⟨g, 0, none⟩, s.ns.length, ys, A6, c6, s.cs, s.gen⟩, by rw [Sd.vals]; simp [hyl], ⟨hyl.symm, SN.out⟩, rfl, rfl, ?_, BZ.out⟩
      have hR : Row Z g s.ns.length ys := (G.out.2.2.1.keep ((KZ.out g (by omega)).trans (L6.out.block g hgw)))
      have hC : OwnR Z wr.heap.size (.slice A6 s.cs.length c6) s.cs := O6.out.keepAt fun k hk hk2 => KZ.out k (by
        cases hA : A6 with
        | none => rw [hA] at hk; cases hk
        | some ad => rw [hA] at hk; injection hk with hk; have := O6.out.lo ad hA; omega)
      refine ⟨hR.own (by omega) hyl hl, hC.mono hbw, fun n hn => ?_, by show ys.length ≤ 1000; omega, hcl⟩
      have hmw : Mine wr w.heap.size g n := M.out n hn
      have hav : ∀ ad : Addr, n.bA = some ad → w.heap.size ≤ ad.block ∧ ad.block < wr.heap.size ∧ ad.block ≠ g := fun ad e => ⟨(hmw.a.lo ad e).1, (hmw.a.lo ad e).2, hmw.ag ad e⟩
      have hpv : ∀ ad : Addr, n.pA = some ad → w.heap.size ≤ ad.block ∧ ad.block < wr.heap.size ∧ ad.block ≠ g := fun ad e => ⟨(hmw.p.lo ad e).1, (hmw.p.lo ad e).2, hmw.pg ad e⟩
      -- the result's own cell holds no list: its type is another
      have hq := G.out.2.1
      have hna : ∀ ad : Addr, n.bA = some ad → ad.block ≠ w.heap.size + 1 := fun ad e hh => by
        obtain ⟨_, _, cs, hcs⟩ := hmw.a.lt_ (k := ad.block) (by rw [e]; rfl)
        rw [hh, hq] at hcs
        injection hcs with hcs
        injection hcs with _ hcs _
        exact absurd hcs (by decide)
      have hnp : ∀ ad : Addr, n.pA = some ad → ad.block ≠ w.heap.size + 1 := fun ad e hh => by
        rcases hmw.p.2 with ⟨hv, _⟩ | ⟨g', cap, cur, hv, _, hcs, _⟩
        · rw [e] at hv; cases hv
        · rw [e] at hv
          injection hv with hv _ _
          injection hv with hv
          subst hv
          rw [show g' = w.heap.size + 1 from hh, hq] at hcs
          injection hcs with hcs
          injection hcs with _ hcs _
          exact absurd hcs (by decide)
      have hA : OwnR Z w.heap.size (.slice n.bA n.bs.length n.bc) n.bs := hmw.a.keepAt fun k hk hk2 => by
        cases e : n.bA with
        | none => rw [e] at hk; cases hk
        | some ad =>
          rw [e] at hk
          injection hk with hk
          have hk' : ad.block = k := hk
          exact (KZ.out k (by rw [← hk']; exact hna ad e)).trans (L6.out.block k hk2)
      have hP : Own Z w.heap.size (.slice n.pA n.ps.length n.pc) n.ps := by
        refine ⟨hmw.p.1, ?_⟩
        rcases hmw.p.2 with hn | ⟨g', cap, cur, hv, hbg, hg, rest⟩
        · exact .inl hn
        · refine .inr ⟨g', cap, cur, hv, hbg, ((KZ.out g' ?_).trans (L6.out.block g' (Array.getElem?_eq_some_iff.1 hg).1)).trans hg, rest⟩
          injection hv with hv _ _
          exact hnp ⟨g', 0, none⟩ hv
      obtain ⟨Ax, cx, ex, hrx, hax, _⟩ := hA.open2
      obtain ⟨Px, dx, ey, hry, hay, _⟩ := hP.open2
      injection ex with ex1 ex2 ex3
      injection ey with ey1 ey2 ey3
      subst ex1 ey1
      refine ⟨⟨⟨hrx, hry, hmw.bm, hmw.bl, hmw.pl⟩, fun e => by rw [ex3]; exact hax e, fun e => by rw [ey3]; exact hay e, fun ad e => ?_, fun ad e => ?_, fun ad e => by have := hav ad e; have := SZ.out; omega, fun ad e => by have := hpv ad e; have := SZ.out; omega⟩, fun ad e => (hav ad e).1, fun ad e => (hpv ad e).1⟩
      · rintro (⟨ad', e', h'⟩ | ⟨ad', e', h'⟩)
        · have e'' : some ⟨g, 0, none⟩ = some ad' := e'
          injection e'' with e''
          subst e''
          exact (hav ad e).2.2 h'.symm
        · have := O6.out.lo ad' e'
          have := hav ad e
          omega
      · rintro (⟨ad', e', h'⟩ | ⟨ad', e', h'⟩)
        · have e'' : some ⟨g, 0, none⟩ = some ad' := e'
          injection e'' with e''
          subst e''
          exact (hpv ad e).2.2 h'.symm
        · have := O6.out.lo ad' e'
          have := hpv ad e
          omega

end Go.Proofs.Ytbknbjabkhhlfaa
