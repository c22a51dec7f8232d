/-
  changed.
-/
import Derived.Test.YtcmnmimkjkpimaaLOfE
import Derived.Test.YtcmnmimkjkpimaaLOfB
import Derived.Test.YtcmnmimkjkpimaaLArU
set_option linter.unusedVariables false
set_option maxRecDepth 100000
namespace Go.Proofs.Ytcmnmimkjkpimaa
open Go.Shelf Go.RowKit Go.Lib Go.Sort
attribute [local go_sem ↓] exec_load28 exec_store44 exec_build1
attribute [local go_sem] run_build1

def ChPost (w : World) (e : Ending) (w' : World) : Prop := ∃ t : Sd, e = .returned (.agg t.vals) ∧ SRd w' w'.heap.size t ∧ (∀ n ∈ t.ns, Rg n) ∧ Below w.heap.size w w'
/-- The boxes of changed: the state, the raw node, the result's place. -/
structure ChB (w wr : World) (s : Sd) (raw : Nd) : Prop where
  box : wr.heap[w.heap.size]? = some (.cells s.vals 35 (0, 0))
  rawb : wr.heap[w.heap.size + 1]? = some (.cells raw.cs 44 (0, 0))
  zer : wr.heap[w.heap.size + 1 + 1]? = some (.cells #[.slice none 0 0, .slice none 0 0, .int .i64 0] 35 (0, 0))
  nod : OwnN wr (w.heap.size + 3) (.slice s.nA s.ns.length s.nc) s.ns
  cel : OwnR wr (w.heap.size + 3) (.slice s.cA s.cs.length s.cc) s.cs
  bel : Below w.heap.size w wr
  l : ∀ n ∈ s.ns, (NRd w w.heap.size n ∧ (n.bA = none → n.bc = 0) ∧ (n.pA = none → n.pc = 0)) ∧ Rg n
  nl : 1 ≤ s.ns.length ∧ s.ns.length ≤ 1000
  cl : s.cs.length ≤ 1000
theorem flatN_set (f : Nat) (v : Value) (hf : f < 14) (n n' : Nd) (hn : n'.cs = n.cs.setIfInBounds f v) : ∀ (ns : List Nd) (k : Nat), ns[k]? = some n → flatN (ns.set k n') = (flatN ns).set (k * 14 + f) v
  | [], k, h => by simp at h
  | x :: xs, 0, h => by
    have e : x = n := by simpa using h
    subst e
    rw [List.set_cons_zero, flatN, flatN, Nat.zero_mul, Nat.zero_add, List.set_append_left _ _ (by rw [cs_len]; exact hf), hn, Array.toList_setIfInBounds]
  | x :: xs, k + 1, h => by
    have h' : xs[k]? = some n := by simpa using h
    rw [List.set_cons_succ, flatN, flatN, flatN_set f v hf n n' hn xs k h', List.set_append_right _ _ (by rw [cs_len]; omega), cs_len]
    congr 2
    omega
theorem OwnN.setF {w : World} {base g : Nat} {len cap : Nat} {ns : List Nd} (h : OwnN w base (.slice (some ⟨g, 0, none⟩) len cap) ns) {f : Nat} {v : Value} (hf : f < 14) {k : Nat} {n n' : Nd} (hk : ns[k]? = some n) (hn : n'.cs = n.cs.setIfInBounds f v) :
    OwnN (w.setCell ⟨g, k * 14 + f, none⟩ v) base (.slice (some ⟨g, 0, none⟩) len cap) (ns.set k n') := by
  have hl := (List.getElem?_eq_some_iff.1 hk).1
  refine ⟨by rw [flatN_length], ?_⟩
  rcases h.2 with ⟨h0, _⟩ | ⟨g', cap', cur, hv, hbg, hg, h1, h2, h3, h4⟩
  · cases h0
  · injection hv with e1 e2 e3
    injection e1 with e1
    injection e1 with e1
    subst e1 e2 e3
    refine .inr ⟨g, cap, cur.setIfInBounds (k * 14 + f) v, by rw [List.length_set], hbg, ?_, by rw [List.length_set]; exact h1, h2, by rw [Array.size_setIfInBounds]; exact h3, ?_⟩
    · exact set_block hg _ v
    · rw [List.length_set, flatN_set f v hf n n' hn ns k hk, Array.toList_setIfInBounds, ← h4, List.take_set]
theorem OwnN.open3 {w : World} {base : Nat} {A : Option Addr} {len c : Nat} {ns : List Nd} (h : OwnN w base (.slice A len c) ns) (hp : 0 < ns.length) :
    ∃ g, A = some ⟨g, 0, none⟩ ∧ base ≤ g ∧ ∃ cur, w.heap[g]? = some (.cells cur 44 (0, 0)) ∧ cur.size = c * 14 ∧ ns.length ≤ c := by
  rcases h.2 with ⟨h0, hn⟩ | ⟨g', cap', cur, hv, hbg, hg, h1, h2, h3, h4⟩
  · omega
  · injection hv with e1 e2 e3
    subst e1 e2 e3
    exact ⟨g', rfl, hbg, cur, hg, h3, h1⟩
theorem RdN.take {w : World} {B : Nat} {A : Option Addr} {ms : List Nd} (h : RdN w B A ms) (m : Nat) : RdN w B A (ms.take m) := fun hp => by
  have hp' : 0 < ms.length := by rw [List.length_take] at hp; omega
  obtain ⟨b, o, e, hb, hc⟩ := h hp'
  refine ⟨b, o, e, hb, fun j u hu => hc j u ?_⟩
  have : flatN ms = flatN (ms.take m) ++ flatN (ms.drop m) := by rw [← flatN_append, List.take_append_drop]
  rw [this, List.getElem?_append_left (List.getElem?_eq_some_iff.1 hu).1]
  exact hu
theorem RdR.take_ {w : World} {B : Nat} {A : Option Addr} {ms : List Int} (h : RdR w B A ms) (m : Nat) : RdR w B A (ms.take m) := fun hp => by
  have hp' : 0 < ms.length := by rw [List.length_take] at hp; omega
  obtain ⟨ad, e, hb, hc⟩ := h hp'
  refine ⟨ad, e, hb, fun j u hu => hc j u ?_⟩
  have : flatR ms = flatR (ms.take m) ++ flatR (ms.drop m) := by rw [← flatR_append, List.take_append_drop]
  rw [this, List.getElem?_append_left (List.getElem?_eq_some_iff.1 hu).1]
  exact hu
/-- What is left behind a branch. -/
structure ChF (w wr : World) (t : Sd) : Prop where
  box : wr.heap[w.heap.size]? = some (.cells t.vals 35 (0, 0))
  zer : wr.heap[w.heap.size + 1 + 1]? = some (.cells #[.slice none 0 0, .slice none 0 0, .int .i64 0] 35 (0, 0))
  srd : ∀ Z : World, Below w.heap.size w Z → (∀ k, w.heap.size + 3 ≤ k → k < wr.heap.size → Z.heap[k]? = wr.heap[k]?) → SRd Z Z.heap.size t
  rg : ∀ n ∈ t.ns, Rg n
  bel : Below w.heap.size w wr
theorem chF {w wr : World} {t : Sd} (hbox : wr.heap[w.heap.size]? = some (.cells t.vals 35 (0, 0)))
    (hzer : wr.heap[w.heap.size + 1 + 1]? = some (.cells #[.slice none 0 0, .slice none 0 0, .int .i64 0] 35 (0, 0)))
    (hbel : Below w.heap.size w wr) (hnod : ∃ ms m cap, OwnN wr (w.heap.size + 3) (.slice t.nA ms.length cap) ms ∧ t.ns = ms.take m)
    (hcel : ∃ zs m cap, OwnR wr (w.heap.size + 3) (.slice t.cA zs.length cap) zs ∧ t.cs = zs.take m) (hca : t.cA = none → t.cc = 0)
    (hl : ∀ n ∈ t.ns, (NRd w w.heap.size n ∧ (n.bA = none → n.bc = 0) ∧ (n.pA = none → n.pc = 0)) ∧ Rg n) (hnl : t.ns.length ≤ 1100000) (hcl : t.cs.length ≤ 1100000) : ChF w wr t := by
  refine ⟨hbox, hzer, fun Z hZ hk => ?_, fun n hn => (hl n hn).2, hbel⟩
  obtain ⟨ms, m, cap, ho, hms⟩ := hnod
  obtain ⟨zs, m', cap', ho', hzs⟩ := hcel
  have o1 := ho.keepFrom (w' := Z) fun k hk1 hk2 => hk k (ho.lt_ hk1).1 hk2
  have o2 := ho'.keepAt (w' := Z) fun k hk1 hk2 => hk k (ho'.lt_ hk1).1 hk2
  obtain ⟨A, c, e, hr, ha, _⟩ := o1.open2
  injection e with e1 e2 e3
  obtain ⟨A', c', e', hr', ha', _⟩ := o2.open2
  injection e' with e1' e2' e3'
  subst e1 e1'
  exact ⟨by rw [hms]; exact hr.take m, by rw [hzs]; exact hr'.take_ m', hca, fun n hn => ⟨((hl n hn).1.1.below hZ).more hZ.size, (hl n hn).1.2⟩, hnl, hcl⟩
theorem ChB.ca {w wr : World} {s : Sd} {raw : Nd} (h : ChB w wr s raw) : s.cA = none → s.cc = 0 := by
  obtain ⟨A', c', e', hr', ha', _⟩ := h.cel.open2
  injection e' with e1' e2' e3'
  subst e1'
  intro hn
  rw [e3']
  exact ha' hn
theorem ChF.retd {w wr : World} {t : Sd} (h : ChF w wr t) : ∀ Z, Z = ((wr.setCell ⟨w.heap.size + 1 + 1, 0, none⟩ (.slice t.nA t.ns.length t.nc)).setCell ⟨w.heap.size + 1 + 1, 1, none⟩ (.slice t.cA t.cs.length t.cc)).setCell ⟨w.heap.size + 1 + 1, 2, none⟩ (.int .i64 t.gen) →
    Z.heap[w.heap.size + 1 + 1]? = some (.cells t.vals 35 (0, 0)) ∧ SRd Z Z.heap.size t ∧ Below w.heap.size w Z := fun Z hZ => by
  have hb : Below w.heap.size w Z := by
    rw [hZ]
    exact ((h.bel.setCell (by simp; omega) _).setCell (by simp; omega) _).setCell (by simp; omega) _
  refine ⟨?_, h.srd Z hb fun k hk _ => ?_, hb⟩
  · rw [hZ]
    have h1 := set_block (set_block (set_block h.zer 0 (.slice t.nA t.ns.length t.nc)) 1 (.slice t.cA t.cs.length t.cc)) 2 (.int .i64 t.gen)
    exact h1
  · have hkk : k ≠ w.heap.size + 1 + 1 := by omega
    rw [hZ]
    exact ((Below.heap_setCell _ ⟨w.heap.size + 1 + 1, 2, none⟩ _ k hkk).trans (Below.heap_setCell _ ⟨w.heap.size + 1 + 1, 1, none⟩ _ k hkk)).trans (Below.heap_setCell _ ⟨w.heap.size + 1 + 1, 0, none⟩ _ k hkk)
theorem wpList_append_node {w : World} {ops : Array Oper} {rest : List Oper} {o : Oper} {a : Act} {Q : Exit → Act → World → Prop} (hgd : o.guard = none) (s x : Operand)
    (ho : o.op = .call { callee := .builtin .append, args := #[s, x], argTypes := #[32, 32] }) (base : Nat) (v : Value) (ys : List Nd) (hs : a.eval s = v) (hown : OwnN w base v ys)
    (g : Nat) (n : Nd) (hx : a.eval x = .slice (some ⟨g, 0, none⟩) 1 1) (hg : w.heap[g]? = some (.cells (rowOf [n.cs]) 44 (0, 0)))
    (hn : ys.length + 1 ≤ 2000000) (hbase : base ≤ w.heap.size)
    (h : ∀ v' w', Hid (OwnN w' base v' (ys ++ [n])) → Hid (w.grownBy w' v.ownBlock) → wpList Try.prog ops Q rest (a.put o.dst v') w') :
    wpList Try.prog ops Q (o :: rest) a w := by
  refine wpList_plain hgd fun K hK => ?_
  obtain ⟨i0, hi0, hz0, hz1, hz2⟩ := info_parts nodeInfo14
  obtain ⟨v', w', hr, h2, h3, _, _⟩ := run_append_own_at (P := Try.prog) w base 32 o.type 44 i0 _ 14 152 Try.underlying32 hi0 hz0 hz1 hz2 rfl (by omega) v ys.length (flatN ys) hown ⟨g, 0, none⟩ 1 1 (flatN [n]) (flatN_length [n]) (fun j u hj => (by
    rw [Addr.add_lit, Nat.zero_add]
    exact (cell_of_row w g j (rowOf [n.cs]) 44 (0, 0) hg).trans (rowOf_one n j u hj))) (flatN_one [n])
    (by simp only [maxLen]; omega) (by omega) hbase
  have ho2 : OwnN w' base v' (ys ++ [n]) := by
    show w'.ownsRow base 44 14 v' (ys ++ [n]).length (flatN (ys ++ [n]))
    rw [List.length_append, flatN_append]
    exact h2
  unfold Oper.wp execOp
  simp only [ho, resolve, invoke, builtin, Sem.run_bind, Sem.run_pure, Result.andThen_ok, List.map_toArray, List.map_cons, List.map_nil, hs, hx]
  simp only [hr, Result.andThen_ok]
  exact hK _ _ (h v' w' ho2 h3)
theorem wpList_append_ref1 {w : World} {ops : Array Oper} {rest : List Oper} {o : Oper} {a : Act} {Q : Exit → Act → World → Prop} (hgd : o.guard = none) (s x : Operand)
    (ho : o.op = .call { callee := .builtin .append, args := #[s, x], argTypes := #[33, 33] }) (base : Nat) (v : Value) (ys : List Int) (hs : a.eval s = v) (hown : OwnR w base v ys)
    (g : Nat) (n : Int) (hx : a.eval x = .slice (some ⟨g, 0, none⟩) 1 1) (hg : w.heap[g]? = some (.cells #[.int .i64 n] 42 (0, 0)))
    (hn : ys.length + 1 ≤ 2000000) (hbase : base ≤ w.heap.size)
    (h : ∀ v' w', Hid (OwnR w' base v' (ys ++ [n])) → Hid (w.grownBy w' v.ownBlock) → wpList Try.prog ops Q rest (a.put o.dst v') w') :
    wpList Try.prog ops Q (o :: rest) a w := by
  refine wpList_plain hgd fun K hK => ?_
  obtain ⟨i0, hi0, hz0, hz1, hz2⟩ := info_parts refInfo
  obtain ⟨v', w', hr, h2, h3, _, _⟩ := run_append_own_at (P := Try.prog) w base 33 o.type 42 i0 _ 1 8 Try.underlying33 hi0 hz0 hz1 hz2 rfl (by omega) v ys.length (flatR ys) hown ⟨g, 0, none⟩ 1 1 (flatR [n]) rfl (fun j u hj => (by
    rw [Addr.add_lit, Nat.zero_add]
    exact (cell_of_row w g j #[.int .i64 n] 42 (0, 0) hg).trans (by simpa [flatR] using hj))) (flatR_one [n])
    (by simp only [maxLen]; omega) (by omega) hbase
  have ho2 : OwnR w' base v' (ys ++ [n]) := by
    show w'.ownsRow base 42 1 v' (ys ++ [n]).length (flatR (ys ++ [n]))
    rw [List.length_append, flatR_append]
    exact h2
  unfold Oper.wp execOp
  simp only [ho, resolve, invoke, builtin, Sem.run_bind, Sem.run_pure, Result.andThen_ok, List.map_toArray, List.map_cons, List.map_nil, hs, hx]
  simp only [hr, Result.andThen_ok]
  exact hK _ _ (h v' w' ho2 h3)
theorem row_ne {w : World} {base : Nat} {v v' : Value} {xs : List Nd} {ys : List Int} (h : OwnN w base v xs) (h' : OwnR w base v' ys) {k : Nat} (hk : v.ownBlock = some k) : v'.ownBlock ≠ some k := fun e => by
  obtain ⟨_, _, cs, hc⟩ := h.lt_ hk
  obtain ⟨_, _, cs', hc'⟩ := h'.lt_ e
  rw [hc] at hc'
  injection hc' with hc'
  injection hc' with _ hc' _
  exact absurd hc' (by decide)
/-- Behind an append to one of the two rows and the store of its value into the box. -/
theorem ChB.grow {w X Y : World} {s : Sd} {raw : Nd} (h : ChB w X s raw) {o : Obj} {v : Value} {wa : World} (hv : ∀ k, v.ownBlock = some k → w.heap.size + 3 ≤ k) (hg : (X.alloc o).grownBy wa v.ownBlock) {i : Nat} {u : Value} (hY : Y = wa.setCell ⟨w.heap.size, i, none⟩ u) :
    (∀ k, k < X.heap.size → v.ownBlock ≠ some k → k ≠ w.heap.size → Y.heap[k]? = X.heap[k]?) ∧ Below w.heap.size w Y ∧ Y.heap[w.heap.size + 1 + 1]? = some (.cells #[.slice none 0 0, .slice none 0 0, .int .i64 0] 35 (0, 0)) ∧ (wa.heap[w.heap.size]? = some (.cells s.vals 35 (0, 0))) := by
  have hx := (Array.getElem?_eq_some_iff.1 h.zer).1
  have h1 : ∀ k, k < X.heap.size → v.ownBlock ≠ some k → wa.heap[k]? = X.heap[k]? := fun k hk hn => (hg.block k (by simp; omega) (fun e => hn e.symm)).trans (Below.heap_alloc X o k hk)
  have h2 : ∀ k, k < X.heap.size → v.ownBlock ≠ some k → k ≠ w.heap.size → Y.heap[k]? = X.heap[k]? := fun k hk hn hkk => by rw [hY]; exact (Below.heap_setCell _ _ _ k hkk).trans (h1 k hk hn)
  have hlow : ∀ k, k < w.heap.size + 3 → v.ownBlock ≠ some k := fun k hk e => by have := hv k e; omega
  refine ⟨h2, ?_, (h2 _ hx (hlow _ (by omega)) (by omega)).trans h.zer, (h1 _ (by omega) (hlow _ (by omega))).trans h.box⟩
  have hb : Below w.heap.size w wa := ⟨hg.os.trans h.bel.os, hg.tape.trans h.bel.tape, hg.output.trans h.bel.output, by have := hg.size; have := h.bel.size; simp at *; omega, fun k hk => (h1 k (by omega) (hlow k (by omega))).trans (h.bel.block k hk)⟩
  rw [hY]
  exact hb.setCell (Nat.le_refl _) _
set_option maxHeartbeats 4000000 in
theorem changed_any (s : Sd) (raw : Nd) (kind v : Int) (w : World) (h : SRd w w.heap.size s) (hnl : 1 ≤ s.ns.length ∧ s.ns.length ≤ 1000) (hcl : s.cs.length ≤ 1000) (hna : s.nA = none → s.nc = 0) (hl : ∀ n ∈ s.ns, Rg n)
    (hraw : NRd w w.heap.size raw ∧ (raw.bA = none → raw.bc = 0) ∧ (raw.pA = none → raw.pc = 0)) (hrr : Rg raw) :
    Calls Try.prog 20 #[.agg s.vals, .int .i64 kind, .int .i64 v, .agg raw.cs] w (ChPost w) := by
  obtain ⟨W, hW⟩ : ∃ W, W = ((w.alloc (.cells s.vals 35)).alloc (.cells raw.cs 44)).alloc (.cells #[.slice none 0 0, .slice none 0 0, .int .i64 0] 35) := ⟨_, rfl⟩
  have HSB := Lib.hid (show W.heap[w.heap.size]? = some (.cells s.vals 35 (0, 0)) by rw [hW]; exact alloc_keep (alloc_keep (heap_alloc_new w _)))
  have HRB := Lib.hid (show W.heap[w.heap.size + 1]? = some (.cells raw.cs 44 (0, 0)) by rw [hW]; exact alloc_keep (alloc_at (by simp)))
  have HZB := Lib.hid (show W.heap[w.heap.size + 1 + 1]? = some (.cells #[.slice none 0 0, .slice none 0 0, .int .i64 0] 35 (0, 0)) by rw [hW]; exact alloc_at (by simp))
  have GW := Lib.hid (show Below w.heap.size w W by rw [hW]; exact (((Below.refl _ w).alloc (Nat.le_refl _) _).alloc (by simp) _).alloc (by simp; omega) _)
  have HWS := Lib.hid (show W.heap.size = w.heap.size + 3 by rw [hW]; simp)
  have HW := Lib.hid hW.symm
  have H := Lib.hid h
  have HNL := Lib.hid hnl
  have HCL := Lib.hid hcl
  have HRG := Lib.hid hl
  have HRAW := Lib.hid hraw
  have HRR := Lib.hid hrr
  have CL := Lib.hid (sclone_any s w.heap.size W (h.below GW.out) GW.out.size hna)
  obtain ⟨k, hk, hMK⟩ := mod_any v s.ns.length hnl.1 (by omega)
  have MK := Lib.hid hMK
  have KL := Lib.hid hk
  obtain ⟨r, hr, hMR⟩ := mod_any kind 7 (by omega) (by omega)
  have MR := Lib.hid hMR
  obtain ⟨p, hp, hMP⟩ := mod_any v 5 (by omega) (by omega)
  have MP := Lib.hid hMP
  have PL := Lib.hid hp
  obtain ⟨o, ho, hMO⟩ := mod_any v 30 (by omega) (by omega)
  have MO := Lib.hid hMO
  unfold Sd.vals at CL HW
  unfold Sd.vals
  clear h hW hnl hcl hna hl hraw hrr hMK hMR hMP hMO hk hp ho
  go_enter Try.func20, Try.ntmps20
  go_upto_region 1 with (fail)
  rw [HW.out]
  have q0 := block_cell HSB.out (i := 0) (v := .slice s.nA s.ns.length s.nc) rfl
  have q1 := block_cell HSB.out (i := 1) (v := .slice s.cA s.cs.length s.cc) rfl
  have q2 := block_cell HSB.out (i := 2) (v := .int .i64 s.gen) rfl
  go_upto_region 2 with (go_at_call 43; refine CL.out.mono ?_; rintro e V ⟨A1, c1, A2, c2, rfl, hn1, hc1, hb1⟩; have VN := Lib.hid hn1; have VC := Lib.hid hc1; have VB := Lib.hid hb1; have hlt : w.heap.size < W.heap.size := (Array.getElem?_eq_some_iff.1 HSB.out).1; have VS := Lib.hid ((hb1.block _ hlt).trans HSB.out); have z0 := block_cell VS.out (i := 0) (v := .slice s.nA s.ns.length s.nc) rfl; have z1 := block_cell VS.out (i := 1) (v := .slice s.cA s.cs.length s.cc) rfl; have z2 := block_cell VS.out (i := 2) (v := .int .i64 s.gen) rfl; have y0 := block_frozen VS.out 0; have y1 := block_frozen VS.out 1; have y2 := block_frozen VS.out 2; clear hn1 hc1 hb1 hlt)
  obtain ⟨X, hX⟩ : ∃ X, X = ((V.setCell ⟨w.heap.size, 0, none⟩ (.slice A1 s.ns.length c1)).setCell ⟨w.heap.size, 1, none⟩ (.slice A2 s.cs.length c2)).setCell ⟨w.heap.size, 2, none⟩ (.int .i64 s.gen) := ⟨_, rfl⟩
  have CB0 : ChB w X { s with nA := A1, nc := c1, cA := A2, cc := c2 } raw := by
    have hw3 := HWS.out
    have hk3 : ∀ k, k ≠ w.heap.size → X.heap[k]? = V.heap[k]? := fun k hkk => by
      rw [hX]
      exact ((Below.heap_setCell _ ⟨w.heap.size, 2, none⟩ _ k hkk).trans (Below.heap_setCell _ ⟨w.heap.size, 1, none⟩ _ k hkk)).trans (Below.heap_setCell _ ⟨w.heap.size, 0, none⟩ _ k hkk)
    refine ⟨?_, ?_, ?_, ?_, ?_, ?_, fun n hn => ⟨H.out.l n hn, HRG.out n hn⟩, HNL.out, HCL.out⟩
    · rw [hX]
      have h1 := set_block (set_block (set_block VS.out 0 (.slice A1 s.ns.length c1)) 1 (.slice A2 s.cs.length c2)) 2 (.int .i64 s.gen)
      exact h1
    · exact ((hk3 _ (by omega)).trans (VB.out.block _ (by omega))).trans HRB.out
    · exact ((hk3 _ (by omega)).trans (VB.out.block _ (by omega))).trans HZB.out
    · exact OwnN.mono (OwnN.keepFrom (w' := X) VN.out fun k hk _ => hk3 k (by have := (VN.out.lt_ hk).1; omega)) (by omega)
    · exact OwnR.mono (OwnR.keepAt (w' := X) VC.out fun k hk _ => hk3 k (by have := (VC.out.lt_ hk).1; omega)) (by omega)
    · rw [hX]
      exact (((GW.out.trans (VB.out.mono GW.out.size)).setCell (Nat.le_refl _) _).setCell (Nat.le_refl _) _).setCell (Nat.le_refl _) _
  rw [← hX]
  have CB := Lib.hid CB0
  clear hX CB0 z0 z1 z2 y0 y1 y2 VS VN VC VB CL HW HSB HRB HZB GW HWS q0 q1 q2 HNL HCL HRG H
  have q0 := block_cell CB.out.box (i := 0) (v := .slice A1 s.ns.length c1) rfl
  go_upto_region 3 with (go_at_call 11; refine (MK.out _).mono ?_; rintro e _ ⟨rfl, rfl⟩)
  go_upto_region 4 with (go_at_call 11; refine (MR.out _).mono ?_; rintro e _ ⟨rfl, rfl⟩)
  rcases (show r = 0 ∨ r = 1 ∨ r = 2 ∨ r = 3 ∨ r = 4 ∨ r = 5 ∨ r = 6 by omega) with rfl | rfl | rfl | rfl | rfl | rfl | rfl
  · -- case 0
    have p2 := block_cell CB.out.box (i := 2) (v := .int .i64 s.gen) rfl
    have x2 := block_frozen CB.out.box 2
    go_upto_region 19 with (fail)
    obtain ⟨Y, hY⟩ : ∃ Y, Y = X.setCell ⟨w.heap.size, 2, none⟩ (.int .i64 v) := ⟨_, rfl⟩
    rw [← hY]
    obtain ⟨t, F⟩ : ∃ t, Hid (ChF w Y t) := ⟨{ s with nA := A1, nc := c1, cA := A2, cc := c2, gen := v }, Lib.hid (by
      have hkk : ∀ k, k ≠ w.heap.size → Y.heap[k]? = X.heap[k]? := fun k hk => by rw [hY]; exact Below.heap_setCell _ _ _ k hk
      refine chF ?_ ((hkk _ (by omega)).trans CB.out.zer) (by rw [hY]; exact CB.out.bel.setCell (Nat.le_refl _) _) ⟨s.ns, s.ns.length, c1, CB.out.nod.keepFrom (w' := Y) (fun k hk _ => hkk k (by have := (CB.out.nod.lt_ hk).1; omega)), by simp⟩ ⟨s.cs, s.cs.length, c2, CB.out.cel.keepAt (w' := Y) (fun k hk _ => hkk k (by have := (CB.out.cel.lt_ hk).1; omega)), by simp⟩ CB.out.ca CB.out.l (Nat.le_trans CB.out.nl.2 (by omega)) (Nat.le_trans CB.out.cl (by omega))
      rw [hY]
      exact set_block CB.out.box 2 (.int .i64 v))⟩
    clear hY p2 x2
    clear q0 CB
    have f0 := block_cell F.out.box (i := 0) (v := .slice t.nA t.ns.length t.nc) rfl
    have f1 := block_cell F.out.box (i := 1) (v := .slice t.cA t.cs.length t.cc) rfl
    have f2 := block_cell F.out.box (i := 2) (v := .int .i64 t.gen) rfl
    have g0 := block_cell F.out.zer (i := 0) (v := .slice none 0 0) rfl
    have g1 := block_cell F.out.zer (i := 1) (v := .slice none 0 0) rfl
    have g2 := block_cell F.out.zer (i := 2) (v := .int .i64 0) rfl
    have y0 := block_frozen F.out.zer 0
    have y1 := block_frozen F.out.zer 1
    have y2 := block_frozen F.out.zer 2
    go_wp2
    obtain ⟨Z, hZ⟩ : ∃ Z, Z = ((Y.setCell ⟨w.heap.size + 1 + 1, 0, none⟩ (.slice t.nA t.ns.length t.nc)).setCell ⟨w.heap.size + 1 + 1, 1, none⟩ (.slice t.cA t.cs.length t.cc)).setCell ⟨w.heap.size + 1 + 1, 2, none⟩ (.int .i64 t.gen) := ⟨_, rfl⟩
    obtain ⟨e1, e2, e3⟩ := F.out.retd Z hZ
    have E2 := Lib.hid e2
    have E3 := Lib.hid e3
    have d0 := block_cell e1 (i := 0) (v := .slice t.nA t.ns.length t.nc) rfl
    have d1 := block_cell e1 (i := 1) (v := .slice t.cA t.cs.length t.cc) rfl
    have d2 := block_cell e1 (i := 2) (v := .int .i64 t.gen) rfl
    rw [← hZ]
    clear hZ e1 e2 e3 f0 f1 f2 g0 g1 g2 y0 y1 y2
    exact bodyPost_ret (v := .agg t.vals) (by unfold Sd.vals; simp [results, Try.results20, go_sem, d0, d1, d2]) rfl ⟨t, rfl, E2.out, F.out.rg, E3.out⟩
  · -- case 1
    have p1 := block_cell CB.out.box (i := 1) (v := .slice A2 s.cs.length c2) rfl
    have XL := Lib.hid (show w.heap.size + 3 ≤ X.heap.size by have := (Array.getElem?_eq_some_iff.1 CB.out.zer).1; omega)
    go_upto_region 19 with (at_builtin; refine wpList_append_ref1 rfl (.tmp 26) (.tmp 28) rfl (w.heap.size + 3) (.slice A2 s.cs.length c2) s.cs rfl (OwnR.alloc CB.out.cel _) X.heap.size v rfl (heap_alloc_new X _) (by have h1 : s.cs.length ≤ 1000 := CB.out.cl; omega) (by have := XL.out; simp; omega) ?_; intro va wa HOa HGa; obtain ⟨A3, c3, rfl, _, hA3, _⟩ := HOa.out.open2; have HA3 := Lib.hid hA3; have HBX := (CB.out.grow (fun k hk => (CB.out.cel.lt_ hk).1) HGa.out (i := 1) (u := .int .i64 0) rfl).2.2.2; have r1 := block_cell HBX (i := 1) (v := .slice A2 s.cs.length c2) rfl; have x1 := block_frozen HBX 1; clear hA3 HBX)
    obtain ⟨Y, hY⟩ : ∃ Y, Y = wa.setCell ⟨w.heap.size, 1, none⟩ (.slice A3 (s.cs.length + 1) c3) := ⟨_, rfl⟩
    rw [← hY]
    obtain ⟨t, F⟩ : ∃ t, Hid (ChF w Y t) := ⟨{ s with nA := A1, nc := c1, cA := A3, cc := c3, cs := s.cs ++ [v] }, Lib.hid (by
      obtain ⟨k1, k2, k3, k4⟩ := CB.out.grow (fun k hk => (CB.out.cel.lt_ hk).1) HGa.out hY
      refine chF ?_ k3 k2 ⟨s.ns, s.ns.length, c1, CB.out.nod.keepFrom (w' := Y) (fun k hk hk2 => k1 k hk2 (row_ne CB.out.nod CB.out.cel hk) (by have := (CB.out.nod.lt_ hk).1; omega)), by simp⟩ ⟨s.cs ++ [v], (s.cs ++ [v]).length, c3, HOa.out.keepAt (w' := Y) (fun k hk _ => by rw [hY]; exact Below.heap_setCell _ _ _ k (by have := (HOa.out.lt_ hk).1; simp; omega)), List.take_length.symm⟩ HA3.out CB.out.l (Nat.le_trans CB.out.nl.2 (by omega)) (by have h1 : s.cs.length ≤ 1000 := CB.out.cl; simp; omega)
      rw [hY]
      show _ = some (Obj.cells #[.slice A1 s.ns.length c1, .slice A3 (s.cs ++ [v]).length c3, .int .i64 s.gen] 35 (0, 0))
      rw [List.length_append, List.length_singleton]
      exact set_block k4 1 (.slice A3 (s.cs.length + 1) c3))⟩
    clear hY r1 x1 p1
    clear q0 CB
    have f0 := block_cell F.out.box (i := 0) (v := .slice t.nA t.ns.length t.nc) rfl
    have f1 := block_cell F.out.box (i := 1) (v := .slice t.cA t.cs.length t.cc) rfl
    have f2 := block_cell F.out.box (i := 2) (v := .int .i64 t.gen) rfl
    have g0 := block_cell F.out.zer (i := 0) (v := .slice none 0 0) rfl
    have g1 := block_cell F.out.zer (i := 1) (v := .slice none 0 0) rfl
    have g2 := block_cell F.out.zer (i := 2) (v := .int .i64 0) rfl
    have y0 := block_frozen F.out.zer 0
    have y1 := block_frozen F.out.zer 1
    have y2 := block_frozen F.out.zer 2
    go_wp2
    obtain ⟨Z, hZ⟩ : ∃ Z, Z = ((Y.setCell ⟨w.heap.size + 1 + 1, 0, none⟩ (.slice t.nA t.ns.length t.nc)).setCell ⟨w.heap.size + 1 + 1, 1, none⟩ (.slice t.cA t.cs.length t.cc)).setCell ⟨w.heap.size + 1 + 1, 2, none⟩ (.int .i64 t.gen) := ⟨_, rfl⟩
    obtain ⟨e1, e2, e3⟩ := F.out.retd Z hZ
    have E2 := Lib.hid e2
    have E3 := Lib.hid e3
    have d0 := block_cell e1 (i := 0) (v := .slice t.nA t.ns.length t.nc) rfl
    have d1 := block_cell e1 (i := 1) (v := .slice t.cA t.cs.length t.cc) rfl
    have d2 := block_cell e1 (i := 2) (v := .int .i64 t.gen) rfl
    rw [← hZ]
    clear hZ e1 e2 e3 f0 f1 f2 g0 g1 g2 y0 y1 y2
    exact bodyPost_ret (v := .agg t.vals) (by unfold Sd.vals; simp [results, Try.results20, go_sem, d0, d1, d2]) rfl ⟨t, rfl, E2.out, F.out.rg, E3.out⟩
  · -- case 2
    have p0 := block_cell CB.out.box (i := 0) (v := .slice A1 s.ns.length c1) rfl
    have XL := Lib.hid (show w.heap.size + 3 ≤ X.heap.size by have := (Array.getElem?_eq_some_iff.1 CB.out.zer).1; omega)
    have lr := run_loadNode CB.out.rawb
    go_upto_region 19 with (at_builtin; refine wpList_append_node rfl (.tmp 34) (.tmp 36) rfl (w.heap.size + 3) (.slice A1 s.ns.length c1) s.ns rfl (OwnN.alloc CB.out.nod _) X.heap.size raw rfl (heap_alloc_new X _) (by have h1 : s.ns.length ≤ 1000 := CB.out.nl.2; omega) (by have := XL.out; simp; omega) ?_; intro va wa HOa HGa; obtain ⟨A3, c3, rfl, _, hA3, _⟩ := HOa.out.open2; have HBX := (CB.out.grow (fun k hk => (CB.out.nod.lt_ hk).1) HGa.out (i := 0) (u := .int .i64 0) rfl).2.2.2; have r1 := block_cell HBX (i := 0) (v := .slice A1 s.ns.length c1) rfl; have x1 := block_frozen HBX 0; clear hA3 HBX)
    obtain ⟨Y, hY⟩ : ∃ Y, Y = wa.setCell ⟨w.heap.size, 0, none⟩ (.slice A3 (s.ns.length + 1) c3) := ⟨_, rfl⟩
    rw [← hY]
    obtain ⟨t, F⟩ : ∃ t, Hid (ChF w Y t) := ⟨{ s with nA := A3, nc := c3, ns := s.ns ++ [raw], cA := A2, cc := c2 }, Lib.hid (by
      obtain ⟨k1, k2, k3, k4⟩ := CB.out.grow (fun k hk => (CB.out.nod.lt_ hk).1) HGa.out hY
      refine chF ?_ k3 k2 ⟨s.ns ++ [raw], (s.ns ++ [raw]).length, c3, HOa.out.keepFrom (w' := Y) (fun k hk _ => by rw [hY]; exact Below.heap_setCell _ _ _ k (by have := (HOa.out.lt_ hk).1; simp; omega)), List.take_length.symm⟩ ⟨s.cs, s.cs.length, c2, CB.out.cel.keepAt (w' := Y) (fun k hk hk2 => k1 k hk2 (fun e => row_ne CB.out.nod CB.out.cel e hk) (by have := (CB.out.cel.lt_ hk).1; omega)), by simp⟩ CB.out.ca (fun n hn => ?_) (by have h1 : s.ns.length ≤ 1000 := CB.out.nl.2; simp; omega) (Nat.le_trans CB.out.cl (by omega))
      · rw [hY]
        show _ = some (Obj.cells #[.slice A3 (s.ns ++ [raw]).length c3, .slice A2 s.cs.length c2, .int .i64 s.gen] 35 (0, 0))
        rw [List.length_append, List.length_singleton]
        exact set_block k4 0 (.slice A3 (s.ns.length + 1) c3)
      · rcases List.mem_append.1 hn with hn | hn
        · exact CB.out.l n hn
        · rw [List.mem_singleton.1 hn]; exact ⟨HRAW.out, HRR.out⟩)⟩
    clear hY r1 x1 p0 lr
    clear q0 CB
    have f0 := block_cell F.out.box (i := 0) (v := .slice t.nA t.ns.length t.nc) rfl
    have f1 := block_cell F.out.box (i := 1) (v := .slice t.cA t.cs.length t.cc) rfl
    have f2 := block_cell F.out.box (i := 2) (v := .int .i64 t.gen) rfl
    have g0 := block_cell F.out.zer (i := 0) (v := .slice none 0 0) rfl
    have g1 := block_cell F.out.zer (i := 1) (v := .slice none 0 0) rfl
    have g2 := block_cell F.out.zer (i := 2) (v := .int .i64 0) rfl
    have y0 := block_frozen F.out.zer 0
    have y1 := block_frozen F.out.zer 1
    have y2 := block_frozen F.out.zer 2
    go_wp2
    obtain ⟨Z, hZ⟩ : ∃ Z, Z = ((Y.setCell ⟨w.heap.size + 1 + 1, 0, none⟩ (.slice t.nA t.ns.length t.nc)).setCell ⟨w.heap.size + 1 + 1, 1, none⟩ (.slice t.cA t.cs.length t.cc)).setCell ⟨w.heap.size + 1 + 1, 2, none⟩ (.int .i64 t.gen) := ⟨_, rfl⟩
    obtain ⟨e1, e2, e3⟩ := F.out.retd Z hZ
    have E2 := Lib.hid e2
    have E3 := Lib.hid e3
    have d0 := block_cell e1 (i := 0) (v := .slice t.nA t.ns.length t.nc) rfl
    have d1 := block_cell e1 (i := 1) (v := .slice t.cA t.cs.length t.cc) rfl
    have d2 := block_cell e1 (i := 2) (v := .int .i64 t.gen) rfl
    rw [← hZ]
    clear hZ e1 e2 e3 f0 f1 f2 g0 g1 g2 y0 y1 y2
    exact bodyPost_ret (v := .agg t.vals) (by unfold Sd.vals; simp [results, Try.results20, go_sem, d0, d1, d2]) rfl ⟨t, rfl, E2.out, F.out.rg, E3.out⟩
  · -- case 3
    have p0 := block_cell CB.out.box (i := 0) (v := .slice A1 s.ns.length c1) rfl
    have x0 := block_frozen CB.out.box 0
    have hkc : k ≤ c1 := by obtain ⟨g, _, _, cur, _, _, h1⟩ := CB.out.nod.open3 CB.out.nl.1; have h2 := KL.out; have h3 : s.ns.length ≤ c1 := h1; omega
    have hk0 : (0 : Int) ≤ (k : Int) := by omega
    have hkn : ((k : Int)).toNat = k := by omega
    have hki : (k : Int) ≤ (c1 : Int) := by omega
    go_upto_region 19 with (fail)
    obtain ⟨Y, hY⟩ : ∃ Y, Y = X.setCell ⟨w.heap.size, 0, none⟩ (.slice A1 k c1) := ⟨_, rfl⟩
    rw [← hY]
    obtain ⟨t, F⟩ : ∃ t, Hid (ChF w Y t) := ⟨{ s with nA := A1, nc := c1, ns := s.ns.take k, cA := A2, cc := c2 }, Lib.hid (by
      have hkk : ∀ k, k ≠ w.heap.size → Y.heap[k]? = X.heap[k]? := fun k hk => by rw [hY]; exact Below.heap_setCell _ _ _ k hk
      have hkl : (s.ns.take k).length = k := by rw [List.length_take]; have := KL.out; omega
      refine chF ?_ ((hkk _ (by omega)).trans CB.out.zer) (by rw [hY]; exact CB.out.bel.setCell (Nat.le_refl _) _) ⟨s.ns, k, c1, CB.out.nod.keepFrom (w' := Y) (fun k hk _ => hkk k (by have := (CB.out.nod.lt_ hk).1; omega)), rfl⟩ ⟨s.cs, s.cs.length, c2, CB.out.cel.keepAt (w' := Y) (fun k hk _ => hkk k (by have := (CB.out.cel.lt_ hk).1; omega)), by simp⟩ CB.out.ca (fun n hn => CB.out.l n (List.mem_of_mem_take hn)) (by have h1 : s.ns.length ≤ 1000 := CB.out.nl.2; have h2 := KL.out; show (s.ns.take k).length ≤ _; omega) (Nat.le_trans CB.out.cl (by omega))
      rw [hY]
      show _ = some (Obj.cells #[.slice A1 (s.ns.take k).length c1, .slice A2 s.cs.length c2, .int .i64 s.gen] 35 (0, 0))
      rw [hkl]
      exact set_block CB.out.box 0 (.slice A1 k c1))⟩
    clear hY p0 x0 hkc hk0 hkn hki
    clear q0 CB
    have f0 := block_cell F.out.box (i := 0) (v := .slice t.nA t.ns.length t.nc) rfl
    have f1 := block_cell F.out.box (i := 1) (v := .slice t.cA t.cs.length t.cc) rfl
    have f2 := block_cell F.out.box (i := 2) (v := .int .i64 t.gen) rfl
    have g0 := block_cell F.out.zer (i := 0) (v := .slice none 0 0) rfl
    have g1 := block_cell F.out.zer (i := 1) (v := .slice none 0 0) rfl
    have g2 := block_cell F.out.zer (i := 2) (v := .int .i64 0) rfl
    have y0 := block_frozen F.out.zer 0
    have y1 := block_frozen F.out.zer 1
    have y2 := block_frozen F.out.zer 2
    go_wp2
    obtain ⟨Z, hZ⟩ : ∃ Z, Z = ((Y.setCell ⟨w.heap.size + 1 + 1, 0, none⟩ (.slice t.nA t.ns.length t.nc)).setCell ⟨w.heap.size + 1 + 1, 1, none⟩ (.slice t.cA t.cs.length t.cc)).setCell ⟨w.heap.size + 1 + 1, 2, none⟩ (.int .i64 t.gen) := ⟨_, rfl⟩
    obtain ⟨e1, e2, e3⟩ := F.out.retd Z hZ
    have E2 := Lib.hid e2
    have E3 := Lib.hid e3
    have d0 := block_cell e1 (i := 0) (v := .slice t.nA t.ns.length t.nc) rfl
    have d1 := block_cell e1 (i := 1) (v := .slice t.cA t.cs.length t.cc) rfl
    have d2 := block_cell e1 (i := 2) (v := .int .i64 t.gen) rfl
    rw [← hZ]
    clear hZ e1 e2 e3 f0 f1 f2 g0 g1 g2 y0 y1 y2
    exact bodyPost_ret (v := .agg t.vals) (by unfold Sd.vals; simp [results, Try.results20, go_sem, d0, d1, d2]) rfl ⟨t, rfl, E2.out, F.out.rg, E3.out⟩
  · -- case 4
    obtain ⟨g, hgA, hgb, cur, hgc, hgs, hlc⟩ := CB.out.nod.open3 CB.out.nl.1
    have hgA' : A1 = some ⟨g, 0, none⟩ := hgA
    subst hgA'
    obtain ⟨nk, hnk⟩ : ∃ nk, s.ns[k]? = some nk := ⟨_, List.getElem?_eq_getElem KL.out⟩
    have NK := Lib.hid hnk
    have GB := Lib.hid hgb
    have p0 := block_cell CB.out.box (i := 0) (v := .slice (some ⟨g, 0, none⟩) s.ns.length c1) rfl
    have x0 := block_frozen hgc (k * 14 + 9)
    have z0 := Lib.hid (show k * 14 + 9 < cur.size by have h1 : s.ns.length ≤ c1 := hlc; have h2 := KL.out; have h3 : cur.size = c1 * 14 := hgs; omega)
    have c9 := block_cell hgc (i := k * 14 + 9) (Array.getElem?_eq_getElem z0.out)
    have hk0 : (0 : Int) ≤ (k : Int) := by omega
    have hkn : ((k : Int)).toNat = k := by omega
    have hki : (k : Int) < (s.ns.length : Int) := by have := KL.out; omega
    clear hgA hgb hnk hgc hgs hlc
    go_upto_region 13 with (fail)
    go_region_with (first | (go_at_call 11; refine (MP.out _).mono ?_; rintro e _ ⟨rfl, rfl⟩))
    all_goals
      obtain ⟨Y, hY⟩ : ∃ Y, Y = (X.setCell ⟨g, k * 14 + 9, none⟩ (.int .i64 p)).drew := ⟨_, rfl⟩
      rw [← hY]
      obtain ⟨t, F⟩ : ∃ t, Hid (ChF w Y t) := ⟨{ s with nA := some ⟨g, 0, none⟩, nc := c1, cA := A2, cc := c2, ns := s.ns.set k { nk with prev := p } }, Lib.hid (by
        have hgb : w.heap.size + 3 ≤ g := GB.out
        have hkk : ∀ j, j ≠ g → Y.heap[j]? = X.heap[j]? := fun j hj => by rw [hY]; exact Below.heap_setCell X ⟨g, _, none⟩ _ j hj
        have hsl : (s.ns.set k { nk with prev := p }).length = s.ns.length := List.length_set
        have ho : OwnN Y (w.heap.size + 3) (.slice (some ⟨g, 0, none⟩) s.ns.length c1) (s.ns.set k { nk with prev := p }) := by
          rw [hY]
          exact OwnN.setF (n' := { nk with prev := (p : Int) }) CB.out.nod (f := 9) (by omega) NK.out rfl
        refine chF ?_ ((hkk _ (by omega)).trans CB.out.zer) (by rw [hY]; exact below_drew (CB.out.bel.setCell (by simp; omega) _) 1) ⟨s.ns.set k { nk with prev := p }, s.ns.length, c1, by rw [hsl]; exact ho, by rw [← hsl]; exact List.take_length.symm⟩ ⟨s.cs, s.cs.length, c2, CB.out.cel.keepAt (w' := Y) (fun j hj _ => hkk j (fun e => row_ne CB.out.nod CB.out.cel (k := g) rfl (e ▸ hj))), by simp⟩ CB.out.ca (fun n hn => ?_) (by have h1 : s.ns.length ≤ 1000 := CB.out.nl.2; show (s.ns.set k _).length ≤ _; rw [List.length_set]; omega) (Nat.le_trans CB.out.cl (by omega))
        · show _ = some (Obj.cells #[.slice (some ⟨g, 0, none⟩) (s.ns.set k { nk with prev := p }).length c1, .slice A2 s.cs.length c2, .int .i64 s.gen] 35 (0, 0))
          rw [hsl]
          exact (hkk _ (by omega)).trans CB.out.box
        · rcases List.mem_or_eq_of_mem_set hn with hn | rfl
          · exact CB.out.l n hn
          · obtain ⟨⟨h1, h2, h3⟩, h4, h5, h6⟩ := CB.out.l nk (List.mem_of_getElem? NK.out)
            exact ⟨⟨⟨h1.r, h1.p, h1.bm, h1.bl, h1.pl⟩, h2, h3⟩, h4, (by have := PL.out; show I64 (p : Int); unfold I64; omega), h6⟩)⟩
      clear hY p0 x0 c9 hk0 hkn hki
      clear q0 CB
      have f0 := block_cell F.out.box (i := 0) (v := .slice t.nA t.ns.length t.nc) rfl
      have f1 := block_cell F.out.box (i := 1) (v := .slice t.cA t.cs.length t.cc) rfl
      have f2 := block_cell F.out.box (i := 2) (v := .int .i64 t.gen) rfl
      have g0 := block_cell F.out.zer (i := 0) (v := .slice none 0 0) rfl
      have g1 := block_cell F.out.zer (i := 1) (v := .slice none 0 0) rfl
      have g2 := block_cell F.out.zer (i := 2) (v := .int .i64 0) rfl
      have y0 := block_frozen F.out.zer 0
      have y1 := block_frozen F.out.zer 1
      have y2 := block_frozen F.out.zer 2
      go_wp2
      obtain ⟨Z, hZ⟩ : ∃ Z, Z = ((Y.setCell ⟨w.heap.size + 1 + 1, 0, none⟩ (.slice t.nA t.ns.length t.nc)).setCell ⟨w.heap.size + 1 + 1, 1, none⟩ (.slice t.cA t.cs.length t.cc)).setCell ⟨w.heap.size + 1 + 1, 2, none⟩ (.int .i64 t.gen) := ⟨_, rfl⟩
      obtain ⟨e1, e2, e3⟩ := F.out.retd Z hZ
      have E2 := Lib.hid e2
      have E3 := Lib.hid e3
      have d0 := block_cell e1 (i := 0) (v := .slice t.nA t.ns.length t.nc) rfl
      have d1 := block_cell e1 (i := 1) (v := .slice t.cA t.cs.length t.cc) rfl
      have d2 := block_cell e1 (i := 2) (v := .int .i64 t.gen) rfl
      rw [← hZ]
      clear hZ e1 e2 e3 f0 f1 f2 g0 g1 g2 y0 y1 y2
      exact bodyPost_ret (v := .agg t.vals) (by unfold Sd.vals; simp [results, Try.results20, go_sem, d0, d1, d2]) rfl ⟨t, rfl, E2.out, F.out.rg, E3.out⟩
  · -- case 5
    obtain ⟨g, hgA, hgb, cur, hgc, hgs, hlc⟩ := CB.out.nod.open3 CB.out.nl.1
    have hgA' : A1 = some ⟨g, 0, none⟩ := hgA
    subst hgA'
    obtain ⟨nk, hnk⟩ : ∃ nk, s.ns[k]? = some nk := ⟨_, List.getElem?_eq_getElem KL.out⟩
    have NK := Lib.hid hnk
    have GB := Lib.hid hgb
    have p0 := block_cell CB.out.box (i := 0) (v := .slice (some ⟨g, 0, none⟩) s.ns.length c1) rfl
    have x0 := block_frozen hgc (k * 14 + 10)
    have z0 := Lib.hid (show k * 14 + 10 < cur.size by have h1 : s.ns.length ≤ c1 := hlc; have h2 := KL.out; have h3 : cur.size = c1 * 14 := hgs; omega)
    have c9 := block_cell hgc (i := k * 14 + 10) (Array.getElem?_eq_getElem z0.out)
    have hk0 : (0 : Int) ≤ (k : Int) := by omega
    have hkn : ((k : Int)).toNat = k := by omega
    have hki : (k : Int) < (s.ns.length : Int) := by have := KL.out; omega
    clear hgA hgb hnk hgc hgs hlc
    go_upto_region 15 with (fail)
    go_region_with (first | (go_at_call 11; refine (MO.out _).mono ?_; rintro e _ ⟨rfl, rfl⟩))
    all_goals
      obtain ⟨Y, hY⟩ : ∃ Y, Y = (X.setCell ⟨g, k * 14 + 10, none⟩ (.int .i64 o)).drew := ⟨_, rfl⟩
      rw [← hY]
      obtain ⟨t, F⟩ : ∃ t, Hid (ChF w Y t) := ⟨{ s with nA := some ⟨g, 0, none⟩, nc := c1, cA := A2, cc := c2, ns := s.ns.set k { nk with old := o } }, Lib.hid (by
        have hgb : w.heap.size + 3 ≤ g := GB.out
        have hkk : ∀ j, j ≠ g → Y.heap[j]? = X.heap[j]? := fun j hj => by rw [hY]; exact Below.heap_setCell X ⟨g, _, none⟩ _ j hj
        have hsl : (s.ns.set k { nk with old := o }).length = s.ns.length := List.length_set
        have ho : OwnN Y (w.heap.size + 3) (.slice (some ⟨g, 0, none⟩) s.ns.length c1) (s.ns.set k { nk with old := o }) := by
          rw [hY]
          exact OwnN.setF (n' := { nk with old := (o : Int) }) CB.out.nod (f := 10) (by omega) NK.out rfl
        refine chF ?_ ((hkk _ (by omega)).trans CB.out.zer) (by rw [hY]; exact below_drew (CB.out.bel.setCell (by simp; omega) _) 1) ⟨s.ns.set k { nk with old := o }, s.ns.length, c1, by rw [hsl]; exact ho, by rw [← hsl]; exact List.take_length.symm⟩ ⟨s.cs, s.cs.length, c2, CB.out.cel.keepAt (w' := Y) (fun j hj _ => hkk j (fun e => row_ne CB.out.nod CB.out.cel (k := g) rfl (e ▸ hj))), by simp⟩ CB.out.ca (fun n hn => ?_) (by have h1 : s.ns.length ≤ 1000 := CB.out.nl.2; show (s.ns.set k _).length ≤ _; rw [List.length_set]; omega) (Nat.le_trans CB.out.cl (by omega))
        · show _ = some (Obj.cells #[.slice (some ⟨g, 0, none⟩) (s.ns.set k { nk with old := o }).length c1, .slice A2 s.cs.length c2, .int .i64 s.gen] 35 (0, 0))
          rw [hsl]
          exact (hkk _ (by omega)).trans CB.out.box
        · rcases List.mem_or_eq_of_mem_set hn with hn | rfl
          · exact CB.out.l n hn
          · obtain ⟨⟨h1, h2, h3⟩, h4, h5, h6⟩ := CB.out.l nk (List.mem_of_getElem? NK.out)
            exact ⟨⟨⟨h1.r, h1.p, h1.bm, h1.bl, h1.pl⟩, h2, h3⟩, h4, h5, h6⟩)⟩
      clear hY p0 x0 c9 hk0 hkn hki
      clear q0 CB
      have f0 := block_cell F.out.box (i := 0) (v := .slice t.nA t.ns.length t.nc) rfl
      have f1 := block_cell F.out.box (i := 1) (v := .slice t.cA t.cs.length t.cc) rfl
      have f2 := block_cell F.out.box (i := 2) (v := .int .i64 t.gen) rfl
      have g0 := block_cell F.out.zer (i := 0) (v := .slice none 0 0) rfl
      have g1 := block_cell F.out.zer (i := 1) (v := .slice none 0 0) rfl
      have g2 := block_cell F.out.zer (i := 2) (v := .int .i64 0) rfl
      have y0 := block_frozen F.out.zer 0
      have y1 := block_frozen F.out.zer 1
      have y2 := block_frozen F.out.zer 2
      go_wp2
      obtain ⟨Z, hZ⟩ : ∃ Z, Z = ((Y.setCell ⟨w.heap.size + 1 + 1, 0, none⟩ (.slice t.nA t.ns.length t.nc)).setCell ⟨w.heap.size + 1 + 1, 1, none⟩ (.slice t.cA t.cs.length t.cc)).setCell ⟨w.heap.size + 1 + 1, 2, none⟩ (.int .i64 t.gen) := ⟨_, rfl⟩
      obtain ⟨e1, e2, e3⟩ := F.out.retd Z hZ
      have E2 := Lib.hid e2
      have E3 := Lib.hid e3
      have d0 := block_cell e1 (i := 0) (v := .slice t.nA t.ns.length t.nc) rfl
      have d1 := block_cell e1 (i := 1) (v := .slice t.cA t.cs.length t.cc) rfl
      have d2 := block_cell e1 (i := 2) (v := .int .i64 t.gen) rfl
      rw [← hZ]
      clear hZ e1 e2 e3 f0 f1 f2 g0 g1 g2 y0 y1 y2
      exact bodyPost_ret (v := .agg t.vals) (by unfold Sd.vals; simp [results, Try.results20, go_sem, d0, d1, d2]) rfl ⟨t, rfl, E2.out, F.out.rg, E3.out⟩
  · -- case 6
    have p1 := block_cell CB.out.box (i := 1) (v := .slice A2 s.cs.length c2) rfl
    have x1 := block_frozen CB.out.box 1
    by_cases hz : (s.cs.length : Int) > 0
    · have hlc : s.cs.length ≤ c2 := by obtain ⟨A', c', e', _, _, h1⟩ := CB.out.cel.open2; injection e' with e1 e2 e3; have h3 : s.cs.length ≤ c' := h1; have e3' : c2 = c' := e3; omega
      have hcl : s.cs.length ≤ 1000 := CB.out.cl
      have j1 : IntKind.i64.wrap ((s.cs.length : Int) - 1) = ((s.cs.length - 1 : Nat) : Int) := by rw [IntKind.wrap_i64]; omega
      obtain ⟨m, hm⟩ : ∃ m, m = s.cs.length - 1 := ⟨_, rfl⟩
      rw [← hm] at j1
      have hmc : m ≤ c2 := by omega
      have hk0 : (0 : Int) ≤ (m : Int) := by omega
      have hkn : ((m : Int)).toNat = m := by omega
      have hki : (m : Int) ≤ (c2 : Int) := by omega
      have HM := Lib.hid hm
      clear hm hlc hcl
      go_upto_region 19 with (fail)
      obtain ⟨Y, hY⟩ : ∃ Y, Y = X.setCell ⟨w.heap.size, 1, none⟩ (.slice A2 m c2) := ⟨_, rfl⟩
      rw [← hY]
      obtain ⟨t, F⟩ : ∃ t, Hid (ChF w Y t) := ⟨{ s with nA := A1, nc := c1, cA := A2, cc := c2, cs := s.cs.take m }, Lib.hid (by
        have hkk : ∀ k, k ≠ w.heap.size → Y.heap[k]? = X.heap[k]? := fun k hk => by rw [hY]; exact Below.heap_setCell _ _ _ k hk
        have hkl : (s.cs.take m).length = m := by rw [List.length_take]; have := HM.out; omega
        refine chF ?_ ((hkk _ (by omega)).trans CB.out.zer) (by rw [hY]; exact CB.out.bel.setCell (Nat.le_refl _) _) ⟨s.ns, s.ns.length, c1, CB.out.nod.keepFrom (w' := Y) (fun k hk _ => hkk k (by have := (CB.out.nod.lt_ hk).1; omega)), by simp⟩ ⟨s.cs, m, c2, CB.out.cel.keepAt (w' := Y) (fun k hk _ => hkk k (by have := (CB.out.cel.lt_ hk).1; omega)), rfl⟩ CB.out.ca CB.out.l (Nat.le_trans CB.out.nl.2 (by omega)) (by have h1 : s.cs.length ≤ 1000 := CB.out.cl; have h2 := HM.out; show (s.cs.take m).length ≤ _; omega)
        rw [hY]
        show _ = some (Obj.cells #[.slice A1 s.ns.length c1, .slice A2 (s.cs.take m).length c2, .int .i64 s.gen] 35 (0, 0))
        rw [hkl]
        exact set_block CB.out.box 1 (.slice A2 m c2))⟩
      clear hY p1 x1 hz j1 hmc hk0 hkn hki
      clear q0 CB
      have f0 := block_cell F.out.box (i := 0) (v := .slice t.nA t.ns.length t.nc) rfl
      have f1 := block_cell F.out.box (i := 1) (v := .slice t.cA t.cs.length t.cc) rfl
      have f2 := block_cell F.out.box (i := 2) (v := .int .i64 t.gen) rfl
      have g0 := block_cell F.out.zer (i := 0) (v := .slice none 0 0) rfl
      have g1 := block_cell F.out.zer (i := 1) (v := .slice none 0 0) rfl
      have g2 := block_cell F.out.zer (i := 2) (v := .int .i64 0) rfl
      have y0 := block_frozen F.out.zer 0
      have y1 := block_frozen F.out.zer 1
      have y2 := block_frozen F.out.zer 2
      go_wp2
      obtain ⟨Z, hZ⟩ : ∃ Z, Z = ((Y.setCell ⟨w.heap.size + 1 + 1, 0, none⟩ (.slice t.nA t.ns.length t.nc)).setCell ⟨w.heap.size + 1 + 1, 1, none⟩ (.slice t.cA t.cs.length t.cc)).setCell ⟨w.heap.size + 1 + 1, 2, none⟩ (.int .i64 t.gen) := ⟨_, rfl⟩
      obtain ⟨e1, e2, e3⟩ := F.out.retd Z hZ
      have E2 := Lib.hid e2
      have E3 := Lib.hid e3
      have d0 := block_cell e1 (i := 0) (v := .slice t.nA t.ns.length t.nc) rfl
      have d1 := block_cell e1 (i := 1) (v := .slice t.cA t.cs.length t.cc) rfl
      have d2 := block_cell e1 (i := 2) (v := .int .i64 t.gen) rfl
      rw [← hZ]
      clear hZ e1 e2 e3 f0 f1 f2 g0 g1 g2 y0 y1 y2
      exact bodyPost_ret (v := .agg t.vals) (by unfold Sd.vals; simp [results, Try.results20, go_sem, d0, d1, d2]) rfl ⟨t, rfl, E2.out, F.out.rg, E3.out⟩
    · go_upto_region 19 with (fail)
      obtain ⟨Y, hY⟩ : ∃ Y, Y = X := ⟨_, rfl⟩
      rw [← hY]
      obtain ⟨t, F⟩ : ∃ t, Hid (ChF w Y t) := ⟨{ s with nA := A1, nc := c1, cA := A2, cc := c2 }, Lib.hid (by
        rw [hY]
        exact chF CB.out.box CB.out.zer CB.out.bel ⟨s.ns, s.ns.length, c1, CB.out.nod, by simp⟩ ⟨s.cs, s.cs.length, c2, CB.out.cel, by simp⟩ CB.out.ca CB.out.l (Nat.le_trans CB.out.nl.2 (by omega)) (Nat.le_trans CB.out.cl (by omega)))⟩
      clear hY p1 x1 hz
      clear q0 CB
      have f0 := block_cell F.out.box (i := 0) (v := .slice t.nA t.ns.length t.nc) rfl
      have f1 := block_cell F.out.box (i := 1) (v := .slice t.cA t.cs.length t.cc) rfl
      have f2 := block_cell F.out.box (i := 2) (v := .int .i64 t.gen) rfl
      have g0 := block_cell F.out.zer (i := 0) (v := .slice none 0 0) rfl
      have g1 := block_cell F.out.zer (i := 1) (v := .slice none 0 0) rfl
      have g2 := block_cell F.out.zer (i := 2) (v := .int .i64 0) rfl
      have y0 := block_frozen F.out.zer 0
      have y1 := block_frozen F.out.zer 1
      have y2 := block_frozen F.out.zer 2
      go_wp2
      obtain ⟨Z, hZ⟩ : ∃ Z, Z = ((Y.setCell ⟨w.heap.size + 1 + 1, 0, none⟩ (.slice t.nA t.ns.length t.nc)).setCell ⟨w.heap.size + 1 + 1, 1, none⟩ (.slice t.cA t.cs.length t.cc)).setCell ⟨w.heap.size + 1 + 1, 2, none⟩ (.int .i64 t.gen) := ⟨_, rfl⟩
      obtain ⟨e1, e2, e3⟩ := F.out.retd Z hZ
      have E2 := Lib.hid e2
      have E3 := Lib.hid e3
      have d0 := block_cell e1 (i := 0) (v := .slice t.nA t.ns.length t.nc) rfl
      have d1 := block_cell e1 (i := 1) (v := .slice t.cA t.cs.length t.cc) rfl
      have d2 := block_cell e1 (i := 2) (v := .int .i64 t.gen) rfl
      rw [← hZ]
      clear hZ e1 e2 e3 f0 f1 f2 g0 g1 g2 y0 y1 y2
      exact bodyPost_ret (v := .agg t.vals) (by unfold Sd.vals; simp [results, Try.results20, go_sem, d0, d1, d2]) rfl ⟨t, rfl, E2.out, F.out.rg, E3.out⟩
end Go.Proofs.Ytcmnmimkjkpimaa
