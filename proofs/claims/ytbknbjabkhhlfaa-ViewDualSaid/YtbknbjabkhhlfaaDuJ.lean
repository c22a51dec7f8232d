/-
  The reference: the walks of Node, pair.
-/
import Derived.Test.YtbknbjabkhhlfaaDuE
import Derived.Maps.AppendAt
import Derived.Test.YtbknbjabkhhlfaaDuG
import Derived.Deep.DeepCutAuto
set_option linter.unusedVariables false
set_option maxRecDepth 100000
namespace Go.Proofs.Ytbknbjabkhhlfaa
open Go.Shelf Go.RowKit Go.Lib Go.Sort
theorem rdR_two {w : World} {g : Nat} {a b : Int} (h : w.heap[g]? = some (.cells #[.int .i64 a, .int .i64 b] 29 (0, 0))) : RdR w w.heap.size (some ⟨g, 0, none⟩) [a, b] := fun _ =>
  ⟨⟨g, 0, none⟩, rfl, (Array.getElem?_eq_some_iff.1 h).1, fun j u hj => by
    rw [Addr.add_lit, Nat.zero_add, cell_of_row w g j _ 29 (0, 0) h]
    simpa [flatR] using hj⟩
section
attribute [local go_sem ↓] exec_load28 exec_store44
attribute [local go_sem] run_storeNode_new run_storeNode_zero
def RNodeP (s : Sd) (r : Int) (w : World) (e : Ending) (w' : World) : Prop := e = .returned (.agg (nodeV s r).cs) ∧ Below w.heap.size w w'
set_option maxHeartbeats 4000000 in
theorem rnode_out (base q : Nat) (s : Sd) (acc r : Int) (w : World) (h : Ob w base 40 q s acc) (hr : ¬ (1 ≤ r ∧ r ≤ (s.ns.length : Int))) :
    Calls Try.prog 112 #[.pointer (some ⟨q, 0, none⟩), .int .i64 r] w (RNodeP s r w) := by
  have hz : nodeV s r = Nd.zero := by rw [nodeV, if_neg hr]
  have hqw := h.lt
  have c0 := block_cell h.blk (i := 0) (v := .slice s.nA s.ns.length s.nc) rfl
  have c0' := fun o => (World.cell?_alloc_lt w o ⟨q, 0, none⟩ hqw).trans c0
  have HZ := Lib.hid hz
  clear h hz hqw c0
  by_cases h1 : r < 1
  · have d : decide (r < 1) = true := decide_eq_true h1
    clear hr h1
    go_enter Try.func112, Try.ntmps112
    go_wp2_with fail
    refine bodyPost_ret (v := .agg Nd.zero.cs) (by simp [results, Try.results112, go_sem, Nd.zero, Nd.cs]) rfl ⟨by rw [HZ.out], (Below.refl _ w).alloc (Nat.le_refl _) _⟩
  · have d : decide (r < 1) = false := decide_eq_false h1
    have d2 : decide ((s.ns.length : Int) < r) = true := decide_eq_true (by omega)
    have d3 : decide (r > (s.ns.length : Int)) = true := d2
    clear hr h1
    go_enter Try.func112, Try.ntmps112
    go_wp2_with fail
    refine bodyPost_ret (v := .agg Nd.zero.cs) (by simp [results, Try.results112, go_sem, Nd.zero, Nd.cs]) rfl ⟨by rw [HZ.out], (Below.refl _ w).alloc (Nat.le_refl _) _⟩

set_option maxHeartbeats 4000000 in
theorem rnode_in (base q : Nat) (s : Sd) (acc r : Int) (w : World) (h : Ob w base 40 q s acc) (hr : 1 ≤ r ∧ r ≤ (s.ns.length : Int)) :
    Calls Try.prog 112 #[.pointer (some ⟨q, 0, none⟩), .int .i64 r] w (RNodeP s r w) := by
  obtain ⟨k, rfl⟩ : ∃ k : Nat, r = (k : Int) + 1 := ⟨(r - 1).toNat, by omega⟩
  have hk : k < s.ns.length := by omega
  have hx : s.ns[k]? = some s.ns[k] := List.getElem?_eq_getElem hk
  generalize s.ns[k] = n at hx
  have HZ := Lib.hid (show nodeV s ((k : Int) + 1) = n by rw [nodeV, if_pos hr, show ((k : Int) + 1 - 1).toNat = k by omega, hx]; rfl)
  obtain ⟨W, hW⟩ : ∃ W, W = w.alloc (.cells #[.int .i64 0, .int .i64 0, .int .i64 0, .int .u64 0, .slice none 0 0, .int .u64 0, .string ⟨#[]⟩, .int .u64 0, .slice none 0 0, .int .i64 0, .int .i64 0, .int .i64 0, .int .i64 0, .int .i64 0] 35) := ⟨_, rfl⟩
  have hbox : W.heap[w.heap.size]? = some (.cells #[.int .i64 0, .int .i64 0, .int .i64 0, .int .u64 0, .slice none 0 0, .int .u64 0, .string ⟨#[]⟩, .int .u64 0, .slice none 0 0, .int .i64 0, .int .i64 0, .int .i64 0, .int .i64 0, .int .i64 0] 35 (0, 0)) := by rw [hW]; exact heap_alloc_new w _
  have GW := Lib.hid (show Below w.heap.size w W by rw [hW]; exact (Below.refl _ w).alloc (Nat.le_refl _) _)
  have HO := Lib.hid (h.up GW.out)
  have HBX := Lib.hid hbox
  have HW := Lib.hid hW.symm
  have c0 := block_cell HO.out.blk (i := 0) (v := .slice s.nA s.ns.length s.nc) rfl
  have hsr := HO.out.srd
  obtain ⟨b, o, eA, hb, hc⟩ := hsr.n.at_ hx
  have hn2 : RdN W W.heap.size (some ⟨b, o, none⟩) s.ns := by rw [← eA]; exact hsr.n
  have ld := hn2.load hx
  have st := run_storeNode n HBX.out rfl
  rw [eA] at c0
  have d1 : decide (((k : Int) + 1) < 1) = false := decide_eq_false (by omega)
  have d2 : decide (((k : Int) + 1) > (s.ns.length : Int)) = false := decide_eq_false (by omega)
  have hnl := h.nl
  have j3 : IntKind.i64.wrap (k : Int) = (k : Int) := by rw [IntKind.wrap_i64]; omega
  have hk0 : (0 : Int) ≤ (k : Int) := by omega
  have hkz : (k : Int) < (s.ns.length : Int) := by omega
  clear h hbox hsr hc hn2 hx eA hW hr hk hb
  go_enter Try.func112, Try.ntmps112
  go_upto_region 1 with (fail)
  rw [HW.out]
  go_wp2_with fail
  have hg := setRow_heap W w.heap.size _ n.cs 35 (0, 0) HBX.out
  obtain ⟨V, hV⟩ : ∃ V, V = W.setRow w.heap.size n.cs := ⟨_, rfl⟩
  have BV := Lib.hid (show Below w.heap.size w V by rw [hV]; exact below_setRow GW.out (Nat.le_refl _) _)
  rw [← hV] at hg ⊢
  clear hV ld st
  obtain ⟨e0, e1, e2, e3, e4, e5, e6, e7, e8, e9, e10, e11, e12, e13⟩ := node_vals hg
  clear hg
  exact bodyPost_ret (v := .agg n.cs) (by simp [results, Try.results112, go_sem, e0, e1, e2, e3, e4, e5, e6, e7, e8, e9, e10, e11, e12, e13, Nd.cs]) rfl ⟨by rw [HZ.out], BV.out⟩
theorem rnode_get (base q : Nat) (s : Sd) (acc r : Int) (w : World) (h : Ob w base 40 q s acc) : Calls Try.prog 112 #[.pointer (some ⟨q, 0, none⟩), .int .i64 r] w (RNodeP s r w) := by
  by_cases hr : 1 ≤ r ∧ r ≤ (s.ns.length : Int)
  · exact rnode_in base q s acc r w h hr
  · exact rnode_out base q s acc r w h hr
end
end Go.Proofs.Ytbknbjabkhhlfaa
/-
  The two lists that the reference's Nodes makes: rows that grow side by side.
-/
set_option linter.unusedVariables false
set_option maxRecDepth 100000
namespace Go.Proofs.Ytbknbjabkhhlfaa
open Go.Shelf Go.RowKit Go.Lib Go.Sort

theorem rowOf_flat (ms : List Nd) (j : Nat) (u : Value) (h : (flatN ms)[j]? = some u) : (rowOf (ms.map Nd.cs))[j]? = some u := by
  have hj : j < ms.length * 14 := by
    have := (List.getElem?_eq_some_iff.1 h).1
    rwa [flatN_length] at this
  have hd : j / 14 < ms.length := by omega
  have hn : ms[j / 14]? = some ms[j / 14] := List.getElem?_eq_getElem hd
  have hr : j % 14 < 14 := Nat.mod_lt _ (by omega)
  have e := flatN_get ms (j / 14) _ (j % 14) hn hr
  rw [show j / 14 * 14 + j % 14 = j by omega, h] at e
  have e2 := rowOf_get (css := ms.map Nd.cs) (i := j / 14) (j := j % 14) (c := ms[j / 14].cs) (by rw [List.getElem?_map, hn]; rfl) hr e.symm
  rw [show j / 14 * 14 + j % 14 = j by omega] at e2
  exact e2
theorem ownN_row {w : World} {base g : Nat} {ms : List Nd} (h : w.heap[g]? = some (.cells (rowOf (ms.map Nd.cs)) 35 (0, 0))) (hb : base ≤ g) (hl : ms.length ≤ 1000) : OwnN w base (.slice (some ⟨g, 0, none⟩) ms.length ms.length) ms := by
  refine ⟨flatN_length _, .inr ⟨g, ms.length, _, rfl, hb, h, Nat.le_refl _, by simp only [maxLen]; omega, by rw [rowOf_size, List.length_map], ?_⟩⟩
  rw [List.take_of_length_le (by rw [Array.length_toList, rowOf_size, List.length_map]; exact Nat.le_refl _)]
  apply List.ext_getElem?
  intro k
  rw [Array.getElem?_toList]
  by_cases hk : k < ms.length * 14
  · have hv : (flatN ms)[k]? = some ((flatN ms)[k]'(by rw [flatN_length]; exact hk)) := List.getElem?_eq_getElem _
    rw [rowOf_flat ms k _ hv, hv]
  · rw [Array.getElem?_eq_none (by rw [rowOf_size, List.length_map]; omega), List.getElem?_eq_none (by rw [flatN_length]; omega)]
theorem ownR_row {w : World} {base g : Nat} {is : List Int} (h : w.heap[g]? = some (.cells (flatR is).toArray 29 (0, 0))) (hb : base ≤ g) (hl : is.length ≤ 1000) : OwnR w base (.slice (some ⟨g, 0, none⟩) is.length is.length) is :=
  ⟨by rw [flatR_length]; omega, .inr ⟨g, is.length, _, rfl, hb, h, Nat.le_refl _, by simp only [maxLen]; omega, by simp [flatR_length], by simp [List.take_of_length_le, flatR_length]⟩⟩
theorem nodeParts : ∃ i0 z0, Try.prog.info? 35 = some i0 ∧ i0.zero = some z0 ∧ i0.size = 14 ∧ i0.bytes = 152 ∧ z0.cells.size = 14 := by
  obtain ⟨i0, hi0, hz0, hz1, hz2⟩ := info_parts nodeInfo14
  exact ⟨i0, _, hi0, hz0, hz1, hz2, rfl⟩
/-- append of nodes to a row of the call's own. -/
theorem wpList_append_nodes {w : World} {ops : Array Oper} {rest : List Oper} {o : Oper} {a : Act} {Q : Exit → Act → World → Prop} (hgd : o.guard = none) (s x : Operand)
    (ho : o.op = .call { callee := .builtin .append, args := #[s, x], argTypes := #[36, 36] }) (base : Nat) (v : Value) (ys : List Nd) (hs : a.eval s = v) (hown : OwnN w base v ys)
    (ad : Addr) (m c : Nat) (ms : List Nd) (hm : m = ms.length) (hx : a.eval x = .slice (some ad) m c) (hnews : ∀ j u, (flatN ms)[j]? = some u → w.cell? (ad.add j) = some u)
    (hn : ys.length + ms.length ≤ 1000) (hbase : base ≤ w.heap.size)
    (h : ∀ v' w', Hid (OwnN w' base v' (ys ++ ms)) → Hid (w.grownBy w' v.ownBlock) → Hid (v'.ownBlock = v.ownBlock ∨ v'.ownBlock = some w.heap.size) → wpList Try.prog ops Q rest (a.put o.dst v') w') :
    wpList Try.prog ops Q (o :: rest) a w := by
  obtain ⟨i0, z0, h1, h2, h3, h4, h5⟩ := nodeParts
  subst hm
  refine wpList_append_own_at w hgd s x 36 ho base 35 i0 z0 14 152 Try.underlying36 h1 h2 h3 h4 h5 (by omega) v ys.length (flatN ys) hs hown ad ms.length c (flatN ms) hx (flatN_length ms) hnews (flatN_one ms) (by simp only [maxLen]; omega) (by omega) hbase ?_
  intro v' w' ho' hg _ hat
  refine h v' w' ?_ hg hat
  show w'.ownsRow base 35 14 v' (ys ++ ms).length (flatN (ys ++ ms))
  rw [List.length_append, flatN_append]
  exact ho'
/-- .. of numbers. -/
theorem wpList_append_ints {w : World} {ops : Array Oper} {rest : List Oper} {o : Oper} {a : Act} {Q : Exit → Act → World → Prop} (hgd : o.guard = none) (s x : Operand)
    (ho : o.op = .call { callee := .builtin .append, args := #[s, x], argTypes := #[32, 32] }) (base : Nat) (v : Value) (ys : List Int) (hs : a.eval s = v) (hown : OwnR w base v ys)
    (ad : Addr) (m c : Nat) (ms : List Int) (hm : m = ms.length) (hx : a.eval x = .slice (some ad) m c) (hnews : ∀ j u, (flatR ms)[j]? = some u → w.cell? (ad.add j) = some u)
    (hn : ys.length + ms.length ≤ 1000) (hbase : base ≤ w.heap.size)
    (h : ∀ v' w', Hid (OwnR w' base v' (ys ++ ms)) → Hid (w.grownBy w' v.ownBlock) → Hid (v'.ownBlock = v.ownBlock ∨ v'.ownBlock = some w.heap.size) → wpList Try.prog ops Q rest (a.put o.dst v') w') :
    wpList Try.prog ops Q (o :: rest) a w := by
  obtain ⟨i0, hi0, hz0, hz1, hz2⟩ := info_parts refInfo
  subst hm
  refine wpList_append_own_at w hgd s x 32 ho base 29 i0 _ 1 8 Try.underlying32 hi0 hz0 hz1 hz2 rfl (by omega) v ys.length (flatR ys) hs hown ad ms.length c (flatR ms) hx (by rw [flatR_length]; omega) hnews (flatR_one ms) (by simp only [maxLen]; omega) (by omega) hbase ?_
  intro v' w' ho' hg _ hat
  refine h v' w' ?_ hg hat
  show w'.ownsRow base 29 1 v' (ys ++ ms).length (flatR (ys ++ ms))
  rw [List.length_append, show flatR (ys ++ ms) = flatR ys ++ flatR ms by simp [flatR]]
  exact ho'

/-- The blocks of two rows. -/
def Mv (v1 v2 : Value) (k : Nat) : Prop := v1.ownBlock = some k ∨ v2.ownBlock = some k
structure NL (w wr : World) (v1 v2 : Value) (ns : List Nd) (is : List Int) : Prop where
  n : OwnN wr w.heap.size v1 ns
  i : OwnR wr w.heap.size v2 is
  l : ∀ x ∈ ns, NOk wr (Mv v1 v2) x ∧ FRs w.heap.size x
  bel : Below w.heap.size w wr
section
variable {w wr w2 : World} {v1 v2 v' : Value} {ns ms : List Nd} {is js : List Int}
theorem NL.lt (h : NL w wr v1 v2 ns is) {k : Nat} (hk : Mv v1 v2 k) : w.heap.size ≤ k ∧ k < wr.heap.size := by
  rcases hk with hk | hk
  · exact ⟨(h.n.lt_ hk).1, (h.n.lt_ hk).2.1⟩
  · exact ⟨(OwnR.lt_ h.i hk).1, (OwnR.lt_ h.i hk).2.1⟩
theorem NL.apart (h : NL w wr v1 v2 ns is) {k : Nat} (h1 : v1.ownBlock = some k) : v2.ownBlock ≠ some k := fun h2 => by
  obtain ⟨_, _, cs, e1⟩ := h.n.lt_ h1
  obtain ⟨_, _, cs', e2⟩ := OwnR.lt_ h.i h2
  rw [e1] at e2
  injection e2 with e2
  injection e2 with _ e2
  exact absurd e2 (by decide)
theorem NL.below (h : NL w wr v1 v2 ns is) (hb : Below wr.heap.size wr w2) : NL w w2 v1 v2 ns is :=
  ⟨h.n.keepFrom fun k _ hk => hb.block k hk, OwnR.keepAt h.i fun k _ hk => hb.block k hk, fun x hx => ⟨(h.l x hx).1.fr (Fr.of_below hb) fun k hk => .inl hk, (h.l x hx).2⟩, h.bel.trans (hb.mono h.bel.size)⟩
/-- What is made above both rows is apart from them. -/
theorem nok_new {w0 : World} {x : Nd} (h : NL w w0 v1 v2 ns is) (hr : NRd wr wr.heap.size x) (ba : x.bA = none → x.bc = 0) (pa : x.pA = none → x.pc = 0) (hf : FRs w0.heap.size x) (h1 : ∀ ad, x.bA = some ad → ad.block < wr.heap.size) (h2 : ∀ ad, x.pA = some ad → ad.block < wr.heap.size) : NOk wr (Mv v1 v2) x :=
  ⟨hr, ba, pa, fun ad e hm => by have := (h.lt hm).2; have := hf.1 ad e; omega, fun ad e hm => by have := (h.lt hm).2; have := hf.2 ad e; omega, h1, h2⟩
theorem NL.pushN (h : NL w wr v1 v2 ns is) (ho : OwnN w2 w.heap.size v' (ns ++ ms)) (hg : wr.grownBy w2 v1.ownBlock) (hat : v'.ownBlock = v1.ownBlock ∨ v'.ownBlock = some wr.heap.size) (hms : ∀ x ∈ ms, NOk wr (Mv v1 v2) x ∧ FRs w.heap.size x) : NL w w2 v' v2 (ns ++ ms) is := by
  have hf : Fr (Mv v1 v2) wr w2 := ⟨hg.os, hg.tape, hg.output, hg.size, fun k hk hn => hg.block k hk fun e => hn (.inl e.symm)⟩
  have hM : ∀ k, Mv v' v2 k → Mv v1 v2 k ∨ wr.heap.size ≤ k := fun k hk => by
    rcases hk with hk | hk
    · rcases hat with e | e
      · exact .inl (.inl (e ▸ hk))
      · rw [e] at hk; injection hk with hk; exact .inr (by omega)
    · exact .inl (.inr hk)
  refine ⟨ho, OwnR.keepAt h.i fun k hk hk2 => hg.block k hk2 fun e => h.apart e.symm hk, fun x hx => ?_, ?_⟩
  · rcases List.mem_append.1 hx with hx | hx
    · exact ⟨(h.l x hx).1.fr hf hM, (h.l x hx).2⟩
    · exact ⟨(hms x hx).1.fr hf hM, (hms x hx).2⟩
  · exact h.bel.trans (hf.below h.bel.size fun k hk => (h.lt hk).1)
theorem NL.pushI (h : NL w wr v1 v2 ns is) (ho : OwnR w2 w.heap.size v' (is ++ js)) (hg : wr.grownBy w2 v2.ownBlock) (hat : v'.ownBlock = v2.ownBlock ∨ v'.ownBlock = some wr.heap.size) : NL w w2 v1 v' ns (is ++ js) := by
  have hf : Fr (Mv v1 v2) wr w2 := ⟨hg.os, hg.tape, hg.output, hg.size, fun k hk hn => hg.block k hk fun e => hn (.inr e.symm)⟩
  have hM : ∀ k, Mv v1 v' k → Mv v1 v2 k ∨ wr.heap.size ≤ k := fun k hk => by
    rcases hk with hk | hk
    · exact .inl (.inl hk)
    · rcases hat with e | e
      · exact .inl (.inr (e ▸ hk))
      · rw [e] at hk; injection hk with hk; exact .inr (by omega)
  refine ⟨h.n.keepFrom fun k hk hk2 => hg.block k hk2 fun e => h.apart hk e.symm, ho, fun x hx => ⟨(h.l x hx).1.fr hf hM, (h.l x hx).2⟩, ?_⟩
  exact h.bel.trans (hf.below h.bel.size fun k hk => (h.lt hk).1)
end
end Go.Proofs.Ytbknbjabkhhlfaa
/-
  The reference: the walk of Nodes.
-/
set_option linter.unusedVariables false
set_option maxRecDepth 100000
namespace Go.Proofs.Ytbknbjabkhhlfaa
open Go.Shelf Go.RowKit Go.Lib Go.Sort
theorem Own.blk {w : World} {base : Nat} {A : Option Addr} {n c : Nat} {xs : List Pr} (h : Own w base (.slice A n c) xs) : ∀ ad, A = some ad → base ≤ ad.block ∧ ad.block < w.heap.size := fun ad e => by
  rcases h.2 with ⟨hv, _⟩ | ⟨g, cap, cur, hv, hb, hg, _⟩
  · injection hv with e1; rw [e] at e1; cases e1
  · injection hv with e1; rw [e] at e1; injection e1 with e1; subst e1; exact ⟨hb, (Array.getElem?_eq_some_iff.1 hg).1⟩
theorem nok_base {w3 wr : World} {M : Nat → Prop} {x : Nd} (hr : NRd wr wr.heap.size x) (ba : x.bA = none → x.bc = 0) (pa : x.pA = none → x.pc = 0) (h1 : ∀ ad, x.bA = some ad → ad.block < w3.heap.size) (h2 : ∀ ad, x.pA = some ad → ad.block < w3.heap.size) (hM : ∀ k, M k → w3.heap.size ≤ k) (hs : w3.heap.size ≤ wr.heap.size) : NOk wr M x :=
  ⟨hr, ba, pa, fun ad e hm => by have := hM _ hm; have := h1 ad e; omega, fun ad e hm => by have := hM _ hm; have := h2 ad e; omega, fun ad e => Nat.lt_of_lt_of_le (h1 ad e) hs, fun ad e => Nat.lt_of_lt_of_le (h2 ad e) hs⟩
/-- Both lists as far as m levels above the lowest. -/
def NLs (w wr : World) (v1 v2 : Value) (l : List (Nd × Int)) : Prop := ∃ ns, NL w wr v1 v2 ns (l.map (·.2)) ∧ SameL (l.map (·.1)) ns
theorem sameL_cons {a b : Nd} {xs ys : List Nd} (h : sameN a b) (k : SameL xs ys) : SameL (a :: xs) (b :: ys) := by
  refine ⟨by simp [k.1], fun i x y hx hy => ?_⟩
  cases i with
  | zero => simp at hx hy; subst hx hy; exact h
  | succ i => simp at hx hy; exact k.2 i x y hx hy
theorem rdR_one {w : World} {g : Nat} {a : Int} (h : w.heap[g]? = some (.cells #[.int .i64 a] 29 (0, 0))) : RdR w w.heap.size (some ⟨g, 0, none⟩) [a] := fun _ =>
  ⟨⟨g, 0, none⟩, rfl, (Array.getElem?_eq_some_iff.1 h).1, fun j u hj => by
    rw [Addr.add_lit, Nat.zero_add, cell_of_row w g j _ 29 (0, 0) h]
    simpa [flatR] using hj⟩
theorem dual_last {n : Nd} {x K : Int} {key : ByteArray} {val gen f : Int} {c : Nat} (h : c = 11) : dualL (duOf n x K key val gen c) f 0 = [(listN K (ofL [(n.key, n.val), (key, val)]), 0)] := by
  show (if c = 11 then _ else _) = _
  rw [if_pos h]
  rfl
theorem dual_low {n : Nd} {x K : Int} {key : ByteArray} {val gen f : Int} {c : Nat} (h : ¬ c = 11) : dualL (duOf n x K key val gen c) f 0 = [(singN K key val, 0), (cndN (withI (withI 0 (sl n.hash c)) (sl K c)) (if sl K c < sl n.hash c then [f, x] else [x, f]), 0)] := by
  show (if c = 11 then _ else _) = _
  rw [if_neg h]
  rfl
theorem dual_up {n : Nd} {x K : Int} {key : ByteArray} {val gen f : Int} {c : Nat} (m : Nat) : dualL (duOf n x K key val gen c) f (m + 1) = dualL (duOf n x K key val gen c) f m ++ [(innN gen, f - 1 + ((dualL (duOf n x K key val gen c) f m).length : Int)), (cndN (withI 0 (sl K (c - (m + 1)))) [f + ((dualL (duOf n x K key val gen c) f m).length : Int)], 0)] := rfl
section
attribute [local go_sem ↓] exec_load28 exec_store44 exec_build1 exec_build2
def NodesP (l : List (Nd × Int)) (w : World) (e : Ending) (w' : World) : Prop := ∃ v1 v2, e = .returned (.tuple #[v1, v2]) ∧ NLs w w' v1 v2 l
end
end Go.Proofs.Ytbknbjabkhhlfaa
