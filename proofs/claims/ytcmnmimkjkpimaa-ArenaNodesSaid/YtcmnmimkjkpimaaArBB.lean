/-
  What the law of the nodes wants: two arenas apart; rows that are written over; blocks that nothing touches; appends to empty literals in a region that draws.
-/
import Derived.Test.YtcmnmimkjkpimaaArW
import Derived.Test.YtcmnmimkjkpimaaArB1
import Derived.Test.YtcmnmimkjkpimaaArZ
set_option linter.unusedVariables false
set_option maxRecDepth 100000
namespace Go.Proofs.Ytcmnmimkjkpimaa
section
open Go.Shelf Go.RowKit Go.Lib Go.Sort

theorem Ob.zero {w : World} {base : Nat} {T : TypeId} {q : Nat} {s : Sd} {acc : Int} (h : Ob w base T q s acc) : Ob w 0 T q s acc :=
  ⟨h.blk, Nat.zero_le _, h.nod.mono (Nat.zero_le _), OwnR.mono h.cel (Nat.zero_le _), h.l, h.nl, h.cl⟩
section
variable {w w1 : World} {B qa qm : Nat} {s t : Sd} {x y : Int}
/-- An arena, and one of the reference's that was made later. -/
theorem two_later (ha : Ob w B 77 qa s x) (hb : RowKit.Below w.heap.size w w1) (hm : Ob w1 w.heap.size 37 qm t y) (hf : ∀ n ∈ t.ns, FRs w.heap.size n) (hl : SameL s.ns t.ns) (hc : t.cs = s.cs) (hg : t.gen = s.gen) : Two w1 qa qm s t x y :=
  ⟨(ha.up hb).zero, hm.zero, fun k hk hk2 => by have := (ha.mu_lt hk).2; have := (hm.mu_lt hk2).1; omega,
    fun n hn => ⟨fun ad e hk => by have := (ha.l n hn).lb ad e; have := (hm.mu_lt hk).1; omega, fun ad e hk => by have := (ha.l n hn).lp ad e; have := (hm.mu_lt hk).1; omega⟩,
    fun n hn => ⟨fun ad e hk => by have := (hf n hn).1 ad e; have := (ha.mu_lt hk).2; omega, fun ad e hk => by have := (hf n hn).2 ad e; have := (ha.mu_lt hk).2; omega⟩,
    hl.symm, hc.symm, hg.symm⟩
/-- One of the reference's, and an arena that was made later. -/
theorem two_of (hm : Ob w B 37 qm t y) (hb : RowKit.Below w.heap.size w w1) (ha : Ob w1 w.heap.size 77 qa s x) (hf : ∀ n ∈ s.ns, FRs w.heap.size n) (hl : SameL t.ns s.ns) (hc : s.cs = t.cs) (hg : s.gen = t.gen) : Two w1 qa qm s t x y :=
  ⟨ha.zero, (hm.up hb).zero, fun k hk hk2 => by have := (hm.mu_lt hk2).2; have := (ha.mu_lt hk).1; omega,
    fun n hn => ⟨fun ad e hk => by have := (hf n hn).1 ad e; have := (hm.mu_lt hk).2; omega, fun ad e hk => by have := (hf n hn).2 ad e; have := (hm.mu_lt hk).2; omega⟩,
    fun n hn => ⟨fun ad e hk => by have := (hm.l n hn).lb ad e; have := (ha.mu_lt hk).1; omega, fun ad e hk => by have := (hm.l n hn).lp ad e; have := (ha.mu_lt hk).1; omega⟩,
    hl, hc, hg⟩
/-- Behind a2 both stand apart. -/
theorem two_a2 {e : Ending} (ha : Ob w B 77 qa s x) (h : A2Post s w e w1) : ∃ q t, e = .returned (.pointer (some ⟨q, 0, none⟩)) ∧ Two w1 qa q s t x 0 ∧ RowKit.Below w.heap.size w w1 := by
  obtain ⟨q, t, he, hl, hc, hg, hm, hf, hb⟩ := h
  exact ⟨q, t, he, two_later ha hb hm hf hl hc hg, hb⟩
/-- What stands apart from the blocks of both stands behind a step. -/
theorem App.keeps {s' t' : Sd} {x' y' : Int} (h : App w w1 qa qm s t s' t' x y x' y') {k : Nat} (hk : k < w.heap.size) (h1 : ¬ Mu qa s k) (h2 : ¬ Mu qm t k) : w1.heap[k]? = w.heap[k]? := h.fr.block k hk fun hm => hm.elim h1 h2
/-- The nodes that there were are there as they were. -/
theorem Went.get {s' : Sd} {x' y' : Int} (h : Went s s' x x' y y') {i : Nat} {n : Nd} (hi : s.ns[i]? = some n) : s'.ns[i]? = some n := by
  obtain ⟨l, hl, _⟩ := h.ns
  rw [hl, List.getElem?_append_left (List.getElem?_eq_some_iff.1 hi).1]
  exact hi
theorem Went.len {s' : Sd} {x' y' : Int} (h : Went s s' x x' y y') : s.ns.length ≤ s'.ns.length ∧ s'.ns.length ≤ s.ns.length + 1 := by
  obtain ⟨l, hl, h1⟩ := h.ns
  rw [hl]
  simp
  omega
end
end
section
open Go.Shelf Go.RowKit Go.Lib Go.Sort

/-- A row of at least n cells. -/
def RowC (w : World) (g : Nat) (t : TypeId) (n : Nat) : Prop := ∃ cur : Array Value, w.heap[g]? = some (.cells cur t (0, 0)) ∧ n ≤ cur.size
theorem RowC.cell {w : World} {g n : Nat} {t : TypeId} (h : RowC w g t n) {i : Nat} (hi : i < n) : (∃ v, w.cell? ⟨g, i, none⟩ = some v) ∧ w.frozen? ⟨g, i, none⟩ = false := by
  obtain ⟨cur, hg, hn⟩ := h
  exact ⟨⟨cur[i]'(by omega), block_cell hg (Array.getElem?_eq_getElem (by omega))⟩, block_frozen hg i⟩
theorem RowC.set {w : World} {g n : Nat} {t : TypeId} (h : RowC w g t n) (i : Nat) (v : Value) : RowC (w.setCell ⟨g, i, none⟩ v) g t n := by
  obtain ⟨cur, hg, hn⟩ := h
  exact ⟨_, set_block hg i v, by simpa using hn⟩
theorem RowC.keep {w w' : World} {g n : Nat} {t : TypeId} (h : RowC w g t n) (hk : w'.heap[g]? = w.heap[g]?) : RowC w' g t n := by
  obtain ⟨cur, hg, hn⟩ := h
  exact ⟨cur, hk.trans hg, hn⟩
theorem OwnR.row {w : World} {base : Nat} {A : Option Addr} {c : Nat} {zs : List Int} (h : OwnR w base (.slice A zs.length c) zs) (hp : 0 < zs.length) : ∃ g, A = some ⟨g, 0, none⟩ ∧ base ≤ g ∧ g < w.heap.size ∧ RowC w g 42 zs.length := by
  rcases h.2 with ⟨hv, hn⟩ | ⟨g, cap, cur, hv, hb, hg, hnc, hcm, hcs, ht⟩
  · omega
  · injection hv with e1 e2 e3
    exact ⟨g, e1, hb, (Array.getElem?_eq_some_iff.1 hg).1, cur, hg, by omega⟩
theorem Own.row {w : World} {base : Nat} {A : Option Addr} {c : Nat} {zs : List Pr} (h : Own w base (.slice A zs.length c) zs) (hp : 0 < zs.length) : ∃ g, A = some ⟨g, 0, none⟩ ∧ base ≤ g ∧ g < w.heap.size ∧ RowC w g 66 (zs.length * 2) := by
  rcases h.2 with ⟨hv, hn⟩ | ⟨g, cap, cur, hv, hb, hg, hnc, hcm, hcs, ht⟩
  · omega
  · injection hv with e1 e2 e3
    exact ⟨g, e1, hb, (Array.getElem?_eq_some_iff.1 hg).1, cur, hg, by omega⟩
/-- The block of a slice. -/
def OB (A : Option Addr) (k : Nat) : Prop := ∃ ad, A = some ad ∧ ad.block = k
theorem Fresh.frs {w : World} {base : Nat} {n : Nd} (h : Fresh w base n) : FRs base n := by
  refine ⟨fun ad e => ?_, fun ad e => ?_⟩
  · exact (h.a.lt_ (k := ad.block) (by rw [e]; rfl)).1
  · rcases h.p.2 with ⟨hv, _⟩ | ⟨g, cap, cur, hv, hb, hg, _⟩
    · rw [e] at hv; cases hv
    · rw [e] at hv; injection hv with e1; injection e1 with e1; subst e1; exact hb
/-- A node in a block, all of it in blocks of AP. -/
structure Still (w : World) (AP : Nat → Prop) (b : Nat) (n : Nd) : Prop where
  blk : w.heap[b]? = some (.cells n.cs 44 (0, 0))
  inb : AP b
  rd : NRd w w.heap.size n
  ina : 0 < n.bs.length → ∃ ad, n.bA = some ad ∧ AP ad.block
  inp : 0 < n.ps.length → ∃ ad, n.pA = some ad ∧ AP ad.block
theorem Still.keep {w w' : World} {AP : Nat → Prop} {b : Nat} {n : Nd} (h : Still w AP b n) (hk : ∀ k, AP k → w'.heap[k]? = w.heap[k]?) (hs : w.heap.size ≤ w'.heap.size) : Still w' AP b n := by
  refine ⟨(hk b h.inb).trans h.blk, h.inb, ⟨fun hn => ?_, fun hn => ?_, h.rd.bm, h.rd.bl, h.rd.pl⟩, h.ina, h.inp⟩
  · obtain ⟨ad, e, hb, hc⟩ := h.rd.r hn
    obtain ⟨ad', e', hA⟩ := h.ina hn
    rw [e] at e'; injection e' with e'; subst e'
    exact ⟨ad, e, by omega, fun j u hj => (World.cell?_of_block (by rw [block_add]; exact hk _ hA)).trans (hc j u hj)⟩
  · obtain ⟨ad, e, hb, hc⟩ := h.rd.p hn
    obtain ⟨ad', e', hA⟩ := h.inp hn
    rw [e] at e'; injection e' with e'; subst e'
    exact ⟨ad, e, by omega, fun j u hj => (World.cell?_of_block (by rw [block_add]; exact hk _ hA)).trans (hc j u hj)⟩
theorem Still.mono {w : World} {AP AP' : Nat → Prop} {b : Nat} {n : Nd} (h : Still w AP b n) (hm : ∀ k, AP k → AP' k) : Still w AP' b n :=
  ⟨h.blk, hm _ h.inb, h.rd, fun hn => (h.ina hn).imp fun ad ⟨e, ha⟩ => ⟨e, hm _ ha⟩, fun hn => (h.inp hn).imp fun ad ⟨e, ha⟩ => ⟨e, hm _ ha⟩⟩
/-- A node whose lists lie from lo on, below the heap's end, in a block between. -/
theorem still_of {w : World} {lo b : Nat} {n : Nd} (hb : w.heap[b]? = some (.cells n.cs 44 (0, 0))) (hl : lo ≤ b) (hr : NRd w w.heap.size n) (hf : FRs lo n) : Still w (fun k => lo ≤ k ∧ k < w.heap.size) b n := by
  refine ⟨hb, ⟨hl, (Array.getElem?_eq_some_iff.1 hb).1⟩, hr, fun hn => ?_, fun hn => ?_⟩
  · obtain ⟨ad, e, hlt, _⟩ := hr.r hn
    exact ⟨ad, e, hf.1 ad e, hlt⟩
  · obtain ⟨ad, e, hlt, _⟩ := hr.p hn
    exact ⟨ad, e, hf.2 ad e, hlt⟩
/-- The arena's own blocks lie away from AP. -/
def Off (AP : Nat → Prop) (q : Nat) (s : Sd) : Prop := ∀ k, Mu q s k → ¬ AP k
end
section
open Go.Shelf Go.RowKit Go.Lib Go.Sort
/-- Nothing of w changed, but perhaps one row of type t between the blocks lo and hi. -/
def Wiped (t lo hi : Nat) (w w' : World) : Prop := Below w.heap.size w w' ∨ ∃ g cur, lo ≤ g ∧ g < hi ∧ w.heap[g]? = some (.cells cur t (0, 0)) ∧ w.grownBy w' (some g)
theorem Wiped.block {t lo hi : Nat} {w w' : World} (h : Wiped t lo hi w w') {k : Nat} (hk : k < w.heap.size) (ho : k < lo ∨ hi ≤ k) : w'.heap[k]? = w.heap[k]? := by
  rcases h with h | ⟨g, cur, h1, h2, _, hg⟩
  · exact h.block k hk
  · exact hg.block k hk (fun e => by injection e with e; omega)
theorem Wiped.other {t lo hi : Nat} {w w' : World} (h : Wiped t lo hi w w') {k : Nat} {cs : Array Value} {t' : TypeId} {fr : Nat × Nat} (hk : w.heap[k]? = some (.cells cs t' fr)) (ht : t' ≠ t) : w'.heap[k]? = w.heap[k]? := by
  have hlt := (Array.getElem?_eq_some_iff.1 hk).1
  rcases h with h | ⟨g, cur, h1, h2, hc, hg⟩
  · exact h.block k hlt
  · refine hg.block k hlt (fun e => ?_)
    injection e with e
    subst e
    rw [hk] at hc
    injection hc with hc
    injection hc with _ hc _
    exact ht hc
theorem Wiped.size {t lo hi : Nat} {w w' : World} (h : Wiped t lo hi w w') : w.heap.size ≤ w'.heap.size := by
  rcases h with h | ⟨g, cur, h1, h2, hc, hg⟩
  · exact h.size
  · exact hg.size
theorem Wiped.below {t lo hi : Nat} {w w' : World} (h : Wiped t lo hi w w') (hlo : lo ≤ w.heap.size) : Below lo w w' := by
  rcases h with h | ⟨g, cur, h1, h2, hc, hg⟩
  · exact h.mono hlo
  · exact ⟨hg.os, hg.tape, hg.output, hg.size, fun k hk => hg.block k (by omega) (fun e => by injection e; omega)⟩
theorem run_app0R {V w : World} (ty : TypeId) (g : Nat) (A : Option Addr) (n c : Nat) (ns : List Int) (hm : n = ns.length) (hR : RdR V V.heap.size A ns) (hA : A = none → c = 0) (hn : ns.length ≤ 1000)
    (hg : w.heap[g]? = some (.cells #[] 42 (0, 0))) (hV : Below V.heap.size V w) (hVg : V.heap.size ≤ g) :
    ∃ A' c' w', (Builtin.append_ #[33, 33] ty #[.slice (some ⟨g, 0, none⟩) 0 0, .slice A n c]).run Try.prog w = .ok (.slice A' ns.length c') w' ∧ OwnR w' V.heap.size (.slice A' ns.length c') ns ∧ Wiped 42 V.heap.size w.heap.size w w' ∧ Below V.heap.size V w' := by
  subst hm
  have hgl := (Array.getElem?_eq_some_iff.1 hg).1
  have hown : OwnR w V.heap.size (.slice (some ⟨g, 0, none⟩) 0 0) [] := ⟨rfl, .inr ⟨g, 0, #[], rfl, hVg, hg, Nat.le_refl _, by simp [maxLen], rfl, rfl⟩⟩
  obtain ⟨i0, hi0, hz0, hz1, hz2⟩ := info_parts refInfo
  cases A with
  | none =>
    obtain rfl : c = 0 := hA rfl
    have hns : ns = [] := by
      rcases Nat.eq_zero_or_pos ns.length with h | h
      · exact List.eq_nil_of_length_eq_zero h
      · obtain ⟨ad, e, _⟩ := hR h
        cases e
    subst hns
    exact ⟨_, _, w, run_append_owned_none (P := Try.prog) (w := w) V.heap.size 33 ty 42 i0 1 Try.underlying33 hi0 (.slice (some ⟨g, 0, none⟩) 0 0) 0 (flatR []) hown, hown, .inl (Below.refl _ _), hV⟩
  | some ad =>
    have hnews : ∀ j u, (flatR ns)[j]? = some u → w.cell? (ad.add j) = some u := fun j u hj => by
      have hl : 0 < ns.length := by have := (List.getElem?_eq_some_iff.1 hj).1; rw [flatR_length] at this; omega
      obtain ⟨ad', e, hb, hc⟩ := (hR.below hV) hl
      injection e with e
      subst e
      exact hc j u hj
    obtain ⟨v', w', hr, h2, h3, _, _⟩ := run_append_own_at (P := Try.prog) w V.heap.size 33 ty 42 i0 _ 1 8 Try.underlying33 hi0 hz0 hz1 hz2 rfl (by omega) (.slice (some ⟨g, 0, none⟩) 0 0) 0 (flatR []) hown ad ns.length c (flatR ns) (by rw [flatR_length]; omega) hnews (flatR_one ns)
      (by simp only [maxLen]; omega) (by omega) hV.size
    have ho : OwnR w' V.heap.size v' ns := by
      show w'.ownsRow V.heap.size 42 1 v' ns.length (flatR ns)
      simpa [flatR] using h2
    obtain ⟨A', c', rfl, _, _, _⟩ := ho.open2
    refine ⟨A', c', w', hr, ho, .inr ⟨g, #[], hVg, hgl, hg, ?_⟩, hV.trans ((Below.refl V.heap.size w).grown h3 hV.size (fun k hk => (hown.lt k hk).1))⟩
    exact h3
theorem run_app0P {V w : World} (ty : TypeId) (g : Nat) (A : Option Addr) (n c : Nat) (ns : List Pr) (hm : n = ns.length) (hR : Rd V V.heap.size A ns) (hA : A = none → c = 0) (hn : ns.length ≤ 1000)
    (hg : w.heap[g]? = some (.cells #[] 66 (0, 0))) (hV : Below V.heap.size V w) (hVg : V.heap.size ≤ g) :
    ∃ A' c' w', (Builtin.append_ #[41, 41] ty #[.slice (some ⟨g, 0, none⟩) 0 0, .slice A n c]).run Try.prog w = .ok (.slice A' ns.length c') w' ∧ Own w' V.heap.size (.slice A' ns.length c') ns ∧ Wiped 66 V.heap.size w.heap.size w w' ∧ Below V.heap.size V w' := by
  subst hm
  have hgl := (Array.getElem?_eq_some_iff.1 hg).1
  have hown : Own w V.heap.size (.slice (some ⟨g, 0, none⟩) 0 0) [] := ⟨rfl, .inr ⟨g, 0, #[], rfl, hVg, hg, Nat.le_refl _, by simp [maxLen], rfl, rfl⟩⟩
  obtain ⟨i0, hi0, hz0, hz1, hz2⟩ := info_parts pairInfo
  cases A with
  | none =>
    obtain rfl : c = 0 := hA rfl
    have hns : ns = [] := by
      rcases Nat.eq_zero_or_pos ns.length with h | h
      · exact List.eq_nil_of_length_eq_zero h
      · obtain ⟨ad, e, _⟩ := hR h
        cases e
    subst hns
    exact ⟨_, _, w, run_append_owned_none (P := Try.prog) (w := w) V.heap.size 41 ty 66 i0 2 Try.underlying41 hi0 (.slice (some ⟨g, 0, none⟩) 0 0) 0 (flat []) hown, hown, .inl (Below.refl _ _), hV⟩
  | some ad =>
    have hnews : ∀ j u, (flat ns)[j]? = some u → w.cell? (ad.add j) = some u := fun j u hj => by
      have hl : 0 < ns.length := by have := (List.getElem?_eq_some_iff.1 hj).1; rw [flat_length] at this; omega
      obtain ⟨ad', e, hb, hc⟩ := (hR.below hV) hl
      injection e with e
      subst e
      exact hc j u hj
    obtain ⟨v', w', hr, h2, h3, _, _⟩ := run_append_own_at (P := Try.prog) w V.heap.size 41 ty 66 i0 _ 2 24 Try.underlying41 hi0 hz0 hz1 hz2 rfl (by omega) (.slice (some ⟨g, 0, none⟩) 0 0) 0 (flat []) hown ad ns.length c (flat ns) (flat_length ns) hnews (flat_one ns)
      (by simp only [maxLen]; omega) (by omega) hV.size
    have ho : Own w' V.heap.size v' ns := by
      show w'.ownsRow V.heap.size 66 2 v' ns.length (flat ns)
      simpa [flat] using h2
    obtain ⟨A', c', rfl, _, _, _⟩ := ho.open2
    refine ⟨A', c', w', hr, ho, .inr ⟨g, #[], hVg, hgl, hg, ?_⟩, hV.trans ((Below.refl V.heap.size w).grown h3 hV.size (fun k hk => (hown.lt k hk).1))⟩
    exact h3
theorem step_app0R {V w : World} {ops : Array Oper} {o : Oper} {a : Act} {K : Act → World → Prop} {Q : Exit → Act → World → Prop} {E : Prop} (hgd : o.guard = none) (s x : Operand)
    (ho : o.op = .call { callee := .builtin .append, args := #[s, x], argTypes := #[33, 33] }) (g : Nat) (hs : a.eval s = .slice (some ⟨g, 0, none⟩) 0 0)
    (A : Option Addr) (n c : Nat) (ns : List Int) (hx : a.eval x = .slice A n c) (hm : n = ns.length) (hR : RdR V V.heap.size A ns) (hA : A = none → c = 0) (hn : ns.length ≤ 1000)
    (hg : w.heap[g]? = some (.cells #[] 42 (0, 0))) (hV : Below V.heap.size V w) (hVg : V.heap.size ≤ g)
    (h : ∀ A' c' w', Hid (OwnR w' V.heap.size (.slice A' ns.length c') ns) → Hid (Wiped 42 V.heap.size w.heap.size w w') → Hid (Below V.heap.size V w') → K (a.put o.dst (.slice A' ns.length c')) w') :
    if Region.wanted o (yielded ops a.tmps) = true then Oper.wp Try.prog o a w K Q else E := by
  have hw : Region.wanted o (yielded ops a.tmps) = true := by simp [Region.wanted, hgd]
  rw [if_pos hw]
  obtain ⟨A', c', w', hr, h2, h3, h4⟩ := run_app0R o.type g A n c ns hm hR hA hn hg hV hVg
  unfold Oper.wp execOp
  simp only [ho, resolve, invoke, builtin, Sem.run_bind, Sem.run_pure, Result.andThen_ok, List.map_toArray, List.map_cons, List.map_nil, hs, hx, hr]
  exact h A' c' w' h2 h3 h4
theorem step_app0P {V w : World} {ops : Array Oper} {o : Oper} {a : Act} {K : Act → World → Prop} {Q : Exit → Act → World → Prop} {E : Prop} (hgd : o.guard = none) (s x : Operand)
    (ho : o.op = .call { callee := .builtin .append, args := #[s, x], argTypes := #[41, 41] }) (g : Nat) (hs : a.eval s = .slice (some ⟨g, 0, none⟩) 0 0)
    (A : Option Addr) (n c : Nat) (ns : List Pr) (hx : a.eval x = .slice A n c) (hm : n = ns.length) (hR : Rd V V.heap.size A ns) (hA : A = none → c = 0) (hn : ns.length ≤ 1000)
    (hg : w.heap[g]? = some (.cells #[] 66 (0, 0))) (hV : Below V.heap.size V w) (hVg : V.heap.size ≤ g)
    (h : ∀ A' c' w', Hid (Own w' V.heap.size (.slice A' ns.length c') ns) → Hid (Wiped 66 V.heap.size w.heap.size w w') → Hid (Below V.heap.size V w') → K (a.put o.dst (.slice A' ns.length c')) w') :
    if Region.wanted o (yielded ops a.tmps) = true then Oper.wp Try.prog o a w K Q else E := by
  have hw : Region.wanted o (yielded ops a.tmps) = true := by simp [Region.wanted, hgd]
  rw [if_pos hw]
  obtain ⟨A', c', w', hr, h2, h3, h4⟩ := run_app0P o.type g A n c ns hm hR hA hn hg hV hVg
  unfold Oper.wp execOp
  simp only [ho, resolve, invoke, builtin, Sem.run_bind, Sem.run_pure, Result.andThen_ok, List.map_toArray, List.map_cons, List.map_nil, hs, hx, hr]
  exact h A' c' w' h2 h3 h4
theorem alloc_at {X : World} {g : Nat} {o : Obj} (h : g = X.heap.size) : (X.alloc o).heap[g]? = some o := by subst h; exact heap_alloc_new X o
theorem alloc_keep {X : World} {g : Nat} {o o' : Obj} (h : X.heap[g]? = some o') : (X.alloc o).heap[g]? = some o' := (Below.heap_alloc X o g (Array.getElem?_eq_some_iff.1 h).1).trans h
theorem Wiped.keep {t lo hi : Nat} {w w' : World} (h : Wiped t lo hi w w') {k : Nat} {cs : Array Value} {t' : TypeId} (hk : w.heap[k]? = some (.cells cs t' (0, 0))) (ht : t' ≠ t) : w'.heap[k]? = some (.cells cs t' (0, 0)) := (h.other hk ht).trans hk
theorem drew_keep {X : World} {g : Nat} {o : Obj} (h : X.heap[g]? = some o) : X.drew.heap[g]? = some o := h
theorem bdrew {V w : World} (h : Below V.heap.size V w) : Below V.heap.size V w.drew := below_drew h 1
theorem balloc {V w : World} (h : Below V.heap.size V w) (o : Obj) : Below V.heap.size V (w.alloc o) := h.alloc h.size o
theorem wA28 {lo hi : Nat} {w w' : World} (h : Wiped 42 lo hi w w') {k : Nat} {cs : Array Value} (hk : w.heap[k]? = some (.cells cs 44 (0, 0))) : w'.heap[k]? = some (.cells cs 44 (0, 0)) := Wiped.keep h hk (by decide)
theorem wB28 {lo hi : Nat} {w w' : World} (h : Wiped 66 lo hi w w') {k : Nat} {cs : Array Value} (hk : w.heap[k]? = some (.cells cs 44 (0, 0))) : w'.heap[k]? = some (.cells cs 44 (0, 0)) := Wiped.keep h hk (by decide)
theorem wA41 {lo hi : Nat} {w w' : World} (h : Wiped 42 lo hi w w') {k : Nat} {cs : Array Value} (hk : w.heap[k]? = some (.cells cs 66 (0, 0))) : w'.heap[k]? = some (.cells cs 66 (0, 0)) := Wiped.keep h hk (by decide)
theorem cutz {a b : Prop} (ha : a) (hb : a → b) : b := hb ha
theorem run_storeC {V : World} {b : Nat} {old cells : Array Value} {t : TypeId} (hg : V.heap[b]? = some (.cells old t (0, 0))) (ho : old.size = 14) (hc : cells.size = 14) (h1 : cells.all (·.oneCell') = true) :
    Sem.run Try.prog (storeNode (.pointer (some ⟨b, 0, none⟩)) (.agg cells)) V = .ok () (V.setRow b cells) := by
  have hi : (Try.prog.info? 44).map (·.size) = some cells.size := by rw [hc]; exact nodeSize
  simp only [storeNode, Instr.storeAt, Instr.sureAddr, Sem.run_bind, Sem.run_pure, Result.andThen]
  exact run_storeVar_row V b t 44 old cells hg hi (by rw [ho, hc]) h1
theorem setR_keep {V X : World} {b q : Nat} {cs : Array Value} {o : Obj} (hq : q < V.heap.size) (hb : V.heap.size ≤ b) (h : X.heap[q]? = some o) : (X.setRow b cs).heap[q]? = some o := (setRow_other _ _ _ _ (by omega)).trans h
theorem below_setR7 {B : Nat} {a w : World} (h : Below B a w) {b : Nat} (hb : B ≤ b) (cs : Array Value) : Below B a (w.setRow b cs) :=
  h.trans ⟨rfl, rfl, rfl, by simp, fun k hk => setRow_other _ _ _ _ (by omega)⟩
theorem OwnR.setR7 {w : World} {base b : Nat} {cs cs' : Array Value} {v : Value} {xs : List Int} (h : OwnR w base v xs) (hb : w.heap[b]? = some (.cells cs 44 (0, 0))) : OwnR (w.setRow b cs') base v xs := by
  refine ⟨h.1, ?_⟩
  rcases h.2 with hn | ⟨g, cap, cur, hv, hbg, hg, rest⟩
  · exact .inl hn
  · refine .inr ⟨g, cap, cur, hv, hbg, (setRow_other _ _ _ _ (fun e => ?_)).trans hg, rest⟩
    rw [e, hb] at hg
    injection hg with hg
    injection hg with _ hg _
    exact absurd hg (by decide)
theorem Own.setR7 {w : World} {base b : Nat} {cs cs' : Array Value} {v : Value} {xs : List Pr} (h : Own w base v xs) (hb : w.heap[b]? = some (.cells cs 44 (0, 0))) : Own (w.setRow b cs') base v xs := by
  refine ⟨h.1, ?_⟩
  rcases h.2 with hn | ⟨g, cap, cur, hv, hbg, hg, rest⟩
  · exact .inl hn
  · refine .inr ⟨g, cap, cur, hv, hbg, (setRow_other _ _ _ _ (fun e => ?_)).trans hg, rest⟩
    rw [e, hb] at hg
    injection hg with hg
    injection hg with _ hg _
    exact absurd hg (by decide)
theorem oB {lo hi : Nat} {w w' : World} {base : Nat} {v : Value} {xs : List Int} (hw : Wiped 66 lo hi w w') (h : OwnR w base v xs) : OwnR w' base v xs := by
  refine ⟨h.1, ?_⟩
  rcases h.2 with hn | ⟨g, cap, cur, hv, hbg, hg, rest⟩
  · exact .inl hn
  · exact .inr ⟨g, cap, cur, hv, hbg, Wiped.keep hw hg (by decide), rest⟩


theorem cells11 {w' : World} {q : Nat} {m : Nd} (h : w'.heap[q]? = some (.cells m.cs 44 (0, 0))) : w'.cell? ⟨q, 0, none⟩ = some (.int .i64 m.kind) ∧ w'.cell? ⟨q, 1, none⟩ = some (.int .i64 m.gen) ∧ w'.cell? ⟨q, 3, none⟩ = some (.int .u64 m.bm) ∧ w'.cell? ⟨q, 4, none⟩ = some (.slice m.bA m.bs.length m.bc) ∧ w'.cell? ⟨q, 5, none⟩ = some (.int .u64 m.hash) ∧ w'.cell? ⟨q, 6, none⟩ = some (.string m.key) ∧ w'.cell? ⟨q, 7, none⟩ = some (.int .u64 m.val) ∧ w'.cell? ⟨q, 8, none⟩ = some (.slice m.pA m.ps.length m.pc) ∧ w'.cell? ⟨q, 10, none⟩ = some (.int .i64 m.old) ∧ w'.cell? ⟨q, 11, none⟩ = some (.int .i64 m.exp) ∧ w'.cell? ⟨q, 12, none⟩ = some (.int .i64 m.new) :=
  ⟨node_cellA h rfl, node_cellA h rfl, node_cellA h rfl, node_cellA h rfl, node_cellA h rfl, node_cellA h rfl, node_cellA h rfl, node_cellA h rfl, node_cellA h rfl, node_cellA h rfl, node_cellA h rfl⟩
/-- What region 7 leaves: the node with lists of its own. -/
def CutM (V : World) (n : Nd) (s10 : Value) (wx : World) : Prop :=
  ∃ (b : Nat) (A : Option Addr) (c : Nat) (P : Option Addr) (d : Nat), s10 = .pointer (some ⟨b, 0, none⟩) ∧ Aside (V.heap.size ≤ b ∧ wx.heap[b]? = some (.cells (Nd.cs { n with main := 0, prev := 0, status := 0, bA := A, bc := c, pA := P, pc := d }) 44 (0, 0)) ∧ OwnR wx V.heap.size (.slice A n.bs.length c) n.bs ∧ Own wx V.heap.size (.slice P n.ps.length d) n.ps ∧ (∀ k, (Value.slice A n.bs.length c).ownBlock = some k → k ≠ b) ∧ (∀ k, (Value.slice P n.ps.length d).ownBlock = some k → k ≠ b) ∧ RowKit.Below V.heap.size V wx)
theorem cutM2 {V wb : World} {m : Nd} {b : Nat} {old : Array Value} {A1 : Option Addr} {c1 : Nat} {A2 : Option Addr} {c2 : Nat} (hz : wb.heap[b]? = some (.cells old 44 (0, 0))) (hA : OwnR wb V.heap.size (.slice A1 m.bs.length c1) m.bs) (hP : Own wb V.heap.size (.slice A2 m.ps.length c2) m.ps) (hB : Below V.heap.size V wb) (hb : V.heap.size ≤ b) :
    CutM V m (.pointer (some ⟨b, 0, none⟩)) (wb.setRow b #[.int .i64 m.kind, .int .i64 m.gen, .int .i64 0, .int .u64 m.bm, .slice A1 m.bs.length c1, .int .u64 m.hash, .string m.key, .int .u64 m.val, .slice A2 m.ps.length c2, .int .i64 0, .int .i64 m.old, .int .i64 m.exp, .int .i64 m.new, .int .i64 0]) := by
  have hA' := OwnR.setR7 (cs' := #[.int .i64 m.kind, .int .i64 m.gen, .int .i64 0, .int .u64 m.bm, .slice A1 m.bs.length c1, .int .u64 m.hash, .string m.key, .int .u64 m.val, .slice A2 m.ps.length c2, .int .i64 0, .int .i64 m.old, .int .i64 m.exp, .int .i64 m.new, .int .i64 0]) hA hz
  have hP' := Own.setR7 (cs' := #[.int .i64 m.kind, .int .i64 m.gen, .int .i64 0, .int .u64 m.bm, .slice A1 m.bs.length c1, .int .u64 m.hash, .string m.key, .int .u64 m.val, .slice A2 m.ps.length c2, .int .i64 0, .int .i64 m.old, .int .i64 m.exp, .int .i64 m.new, .int .i64 0]) hP hz
  refine ⟨b, A1, c1, A2, c2, rfl, (⟨hb, setRow_heap wb b _ _ 44 (0, 0) hz, hA', hP', fun k hk e => ?_, fun k hk e => ?_, below_setR7 hB hb _⟩ : _ ∧ _ ∧ _ ∧ _ ∧ _ ∧ _ ∧ _)⟩
  · obtain ⟨_, _, cs, hc⟩ := hA.lt_ hk
    rw [e, hz] at hc
    injection hc with hc
    injection hc with _ hc _
    exact absurd hc (by decide)
  · rcases hP.2 with ⟨hv, _⟩ | ⟨g, cap, cur, hv, hbg, hg, _⟩
    · rw [hv] at hk; cases hk
    · rw [hv] at hk; injection hk with hk; subst hk
      rw [show g = b from e, hz] at hg
      injection hg with hg
      injection hg with _ hg _
      exact absurd hg (by decide)
theorem cutM1 {V X : World} {m : Nd} {A1 : Option Addr} {c1 : Nat} {A2 : Option Addr} {c2 : Nat} (hA : OwnR X V.heap.size (.slice A1 m.bs.length c1) m.bs) (hP : Own X V.heap.size (.slice A2 m.ps.length c2) m.ps) (hB : Below V.heap.size V X) :
    CutM V m (.pointer (some ⟨X.heap.size, 0, none⟩)) ((X.alloc (.cells #[.int .i64 0, .int .i64 0, .int .i64 0, .int .u64 0, .slice none 0 0, .int .u64 0, .string ⟨#[]⟩, .int .u64 0, .slice none 0 0, .int .i64 0, .int .i64 0, .int .i64 0, .int .i64 0, .int .i64 0] 44)).setRow X.heap.size #[.int .i64 m.kind, .int .i64 m.gen, .int .i64 0, .int .u64 m.bm, .slice A1 m.bs.length c1, .int .u64 m.hash, .string m.key, .int .u64 m.val, .slice A2 m.ps.length c2, .int .i64 0, .int .i64 m.old, .int .i64 m.exp, .int .i64 m.new, .int .i64 0]) :=
  cutM2 (heap_alloc_new X _) (OwnR.alloc hA _) (Own.alloc hP _) (hB.alloc hB.size _) hB.size
end
end Go.Proofs.Ytcmnmimkjkpimaa
