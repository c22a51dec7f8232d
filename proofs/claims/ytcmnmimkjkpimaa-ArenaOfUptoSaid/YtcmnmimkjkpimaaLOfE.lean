/-
  Of of a state that is not proper; appends to empty lists; Clone of the reference.
-/
import Derived.Test.YtcmnmimkjkpimaaLArG
import Derived.Test.YtcmnmimkjkpimaaLArL
import Derived.Deep.RegionHeld3
set_option linter.unusedVariables false
set_option maxRecDepth 100000
section
namespace Go.Proofs.Ytcmnmimkjkpimaa
open Go.Shelf Go.RowKit Go.Lib Go.Sort
attribute [local go_sem ↓] exec_load28 exec_store44

set_option maxHeartbeats 4000000 in
theorem of_bad (s : Sd) (B : Nat) (w : World) (h : SRd w B s) (hB : B ≤ w.heap.size) (hp : properB s = false) : Calls Try.prog 10 #[.agg s.vals] w fun e w' => e = .returned (.tuple #[.pointer none, .int .i64 1]) ∧ Below w.heap.size w w' := by
  obtain ⟨W, hW⟩ : ∃ W, W = w.alloc (.cells s.vals 35) := ⟨_, rfl⟩
  have GW := Lib.hid (show Below w.heap.size w W by rw [hW]; exact (Below.refl _ w).alloc (Nat.le_refl _) _)
  have HSB := Lib.hid (show Box W w.heap.size s by rw [hW]; exact heap_alloc_new w _)
  have HW := Lib.hid hW.symm
  have C1 := Lib.hid (proper_any s B W (h.below (GW.out.mono hB)) (Nat.le_trans hB GW.out.size))
  rw [hp] at C1
  unfold Sd.vals at C1
  clear h hB hW hp
  go_enter Try.func10, Try.ntmps10
  go_upto_region 1 with (fail)
  rw [HW.out]
  have q0 := HSB.out.at0
  have q1 := HSB.out.at1
  have q2 := HSB.out.at2
  go_wp2_with (go_at_call 33; refine C1.out.mono ?_; rintro e V1 ⟨rfl, hg⟩; have Y1 := Lib.hid hg; clear hg)
  exact bodyPost_ret (v := .tuple #[.pointer none, .int .i64 1]) (by simp [results, Try.results10]) rfl ⟨rfl, GW.out.trans (Y1.out.mono GW.out.size)⟩
end Go.Proofs.Ytcmnmimkjkpimaa
end
section
namespace Go.Proofs.Ytcmnmimkjkpimaa
open Go.Shelf Go.RowKit Go.Lib Go.Sort

/-- Nothing of w changed, but perhaps one row of type t between the blocks lo and hi. -/
def Wiped (t lo hi : Nat) (w w' : World) : Prop := Below w.heap.size w w' ∨ ∃ g cur, lo ≤ g ∧ g < hi ∧ w.heap[g]? = some (.cells cur t (0, 0)) ∧ w.grownBy w' (some g)
theorem Wiped.block {t lo hi : Nat} {w w' : World} (h : Wiped t lo hi w w') {k : Nat} (hk : k < w.heap.size) (ho : k < lo ∨ hi ≤ k) : w'.heap[k]? = w.heap[k]? := by
  rcases h with h | ⟨g, cur, h1, h2, _, hg⟩
  · exact h.block k hk
  · exact hg.block k hk (fun e => by injection e with e; omega)
theorem Wiped.other {t lo hi : Nat} {w w' : World} (h : Wiped t lo hi w w') {k : Nat} {cs : Array Value} {t' : TypeId} {fr : Nat × Nat} (hk : w.heap[k]? = some (.cells cs t' fr)) (ht : t' ≠ t) : w'.heap[k]? = w.heap[k]? := by
  have hlt := (Array.getElem?_eq_some_iff.1 hk).1
  rcases h with h | ⟨g, cur, h1, h2, hc, hg⟩
  · exact h.block k hlt
  · refine hg.block k hlt (fun e => ?_)
    injection e with e
    subst e
    rw [hk] at hc
    injection hc with hc
    injection hc with _ hc _
    exact ht hc
theorem Wiped.size {t lo hi : Nat} {w w' : World} (h : Wiped t lo hi w w') : w.heap.size ≤ w'.heap.size := by
  rcases h with h | ⟨g, cur, h1, h2, hc, hg⟩
  · exact h.size
  · exact hg.size
theorem Wiped.below {t lo hi : Nat} {w w' : World} (h : Wiped t lo hi w w') (hlo : lo ≤ w.heap.size) : Below lo w w' := by
  rcases h with h | ⟨g, cur, h1, h2, hc, hg⟩
  · exact h.mono hlo
  · exact ⟨hg.os, hg.tape, hg.output, hg.size, fun k hk => hg.block k (by omega) (fun e => by injection e; omega)⟩
theorem run_app0R {V w : World} (ty : TypeId) (g : Nat) (A : Option Addr) (n c : Nat) (ns : List Int) (hm : n = ns.length) (hR : RdR V V.heap.size A ns) (hA : A = none → c = 0) (hn : ns.length ≤ 1100000)
    (hg : w.heap[g]? = some (.cells #[] 42 (0, 0))) (hV : Below V.heap.size V w) (hVg : V.heap.size ≤ g) :
    ∃ A' c' w', (Builtin.append_ #[33, 33] ty #[.slice (some ⟨g, 0, none⟩) 0 0, .slice A n c]).run Try.prog w = .ok (.slice A' ns.length c') w' ∧ OwnR w' V.heap.size (.slice A' ns.length c') ns ∧ Wiped 42 V.heap.size w.heap.size w w' ∧ Below V.heap.size V w' := by
  subst hm
  have hgl := (Array.getElem?_eq_some_iff.1 hg).1
  have hown : OwnR w V.heap.size (.slice (some ⟨g, 0, none⟩) 0 0) [] := ⟨rfl, .inr ⟨g, 0, #[], rfl, hVg, hg, Nat.le_refl _, by simp [maxLen], rfl, rfl⟩⟩
  obtain ⟨i0, hi0, hz0, hz1, hz2⟩ := info_parts refInfo
  cases A with
  | none =>
    obtain rfl : c = 0 := hA rfl
    have hns : ns = [] := by
      rcases Nat.eq_zero_or_pos ns.length with h | h
      · exact List.eq_nil_of_length_eq_zero h
      · obtain ⟨ad, e, _⟩ := hR h
        cases e
    subst hns
    exact ⟨_, _, w, run_append_owned_none (P := Try.prog) (w := w) V.heap.size 33 ty 42 i0 1 Try.underlying33 hi0 (.slice (some ⟨g, 0, none⟩) 0 0) 0 (flatR []) hown, hown, .inl (Below.refl _ _), hV⟩
  | some ad =>
    have hnews : ∀ j u, (flatR ns)[j]? = some u → w.cell? (ad.add j) = some u := fun j u hj => by
      have hl : 0 < ns.length := by have := (List.getElem?_eq_some_iff.1 hj).1; rw [flatR_length] at this; omega
      obtain ⟨ad', e, hb, hc⟩ := (hR.below hV) hl
      injection e with e
      subst e
      exact hc j u hj
    obtain ⟨v', w', hr, h2, h3, _, _⟩ := run_append_own_at (P := Try.prog) w V.heap.size 33 ty 42 i0 _ 1 8 Try.underlying33 hi0 hz0 hz1 hz2 rfl (by omega) (.slice (some ⟨g, 0, none⟩) 0 0) 0 (flatR []) hown ad ns.length c (flatR ns) (by rw [flatR_length]; omega) hnews (flatR_one ns)
      (by simp only [maxLen]; omega) (by omega) hV.size
    have ho : OwnR w' V.heap.size v' ns := by
      show w'.ownsRow V.heap.size 42 1 v' ns.length (flatR ns)
      simpa [flatR] using h2
    obtain ⟨A', c', rfl, _, _, _⟩ := ho.open2
    refine ⟨A', c', w', hr, ho, .inr ⟨g, #[], hVg, hgl, hg, ?_⟩, hV.trans ((Below.refl V.heap.size w).grown h3 hV.size (fun k hk => (hown.lt k hk).1))⟩
    exact h3
theorem run_app0N {V w : World} (ty : TypeId) (g : Nat) (A : Option Addr) (n c : Nat) (ns : List Nd) (hm : n = ns.length) (hR : RdN V V.heap.size A ns) (hA : A = none → c = 0) (hn : ns.length ≤ 1100000)
    (hg : w.heap[g]? = some (.cells #[] 44 (0, 0))) (hV : Below V.heap.size V w) (hVg : V.heap.size ≤ g) :
    ∃ A' c' w', (Builtin.append_ #[32, 32] ty #[.slice (some ⟨g, 0, none⟩) 0 0, .slice A n c]).run Try.prog w = .ok (.slice A' ns.length c') w' ∧ OwnN w' V.heap.size (.slice A' ns.length c') ns ∧ Wiped 44 V.heap.size w.heap.size w w' ∧ Below V.heap.size V w' := by
  subst hm
  have hgl := (Array.getElem?_eq_some_iff.1 hg).1
  have hown : w.ownsRow V.heap.size 44 14 (.slice (some ⟨g, 0, none⟩) 0 0) 0 [] := ⟨rfl, .inr ⟨g, 0, #[], rfl, hVg, hg, Nat.le_refl _, by simp [maxLen], rfl, rfl⟩⟩
  have hownN : OwnN w V.heap.size (.slice (some ⟨g, 0, none⟩) 0 0) [] := hown
  obtain ⟨i0, hi0, hz0, hz1, hz2⟩ := info_parts nodeInfo14
  cases A with
  | none =>
    obtain rfl : c = 0 := hA rfl
    have hns : ns = [] := by
      rcases Nat.eq_zero_or_pos ns.length with h | h
      · exact List.eq_nil_of_length_eq_zero h
      · obtain ⟨b, o, e, _⟩ := hR h
        cases e
    subst hns
    exact ⟨_, _, w, run_append_owned_none (P := Try.prog) (w := w) V.heap.size 32 ty 44 i0 14 Try.underlying32 hi0 (.slice (some ⟨g, 0, none⟩) 0 0) 0 [] hown, hownN, .inl (Below.refl _ _), hV⟩
  | some ad =>
    have hnews : ∀ j u, (flatN ns)[j]? = some u → w.cell? (ad.add j) = some u := fun j u hj => by
      have hl : 0 < ns.length := by have := (List.getElem?_eq_some_iff.1 hj).1; rw [flatN_length] at this; omega
      obtain ⟨b, o, e, hb, hc⟩ := (hR.below hV) hl
      injection e with e
      subst e
      rw [Addr.add_lit]
      exact hc j u hj
    obtain ⟨v', w', hr, h2, h3, _, _⟩ := run_append_own_at (P := Try.prog) w V.heap.size 32 ty 44 i0 _ 14 152 Try.underlying32 hi0 hz0 hz1 hz2 rfl (by omega) (.slice (some ⟨g, 0, none⟩) 0 0) 0 [] hown ad ns.length c (flatN ns) (flatN_length ns) hnews (flatN_one ns)
      (by simp only [maxLen]; omega) (by omega) hV.size
    have ho : OwnN w' V.heap.size v' ns := by
      show w'.ownsRow V.heap.size 44 14 v' ns.length (flatN ns)
      simpa using h2
    obtain ⟨A', c', rfl, _, _, _⟩ := ho.open2
    refine ⟨A', c', w', hr, ho, .inr ⟨g, #[], hVg, hgl, hg, ?_⟩, hV.trans ((Below.refl V.heap.size w).grown h3 hV.size (fun k hk => (hownN.lt_ hk).1))⟩
    exact h3
theorem step_app0R {V w : World} {ops : Array Oper} {o : Oper} {a : Act} {K : Act → World → Prop} {Q : Exit → Act → World → Prop} {E : Prop} (hgd : o.guard = none) (s x : Operand)
    (ho : o.op = .call { callee := .builtin .append, args := #[s, x], argTypes := #[33, 33] }) (g : Nat) (hs : a.eval s = .slice (some ⟨g, 0, none⟩) 0 0)
    (A : Option Addr) (n c : Nat) (ns : List Int) (hx : a.eval x = .slice A n c) (hm : n = ns.length) (hR : RdR V V.heap.size A ns) (hA : A = none → c = 0) (hn : ns.length ≤ 1100000)
    (hg : w.heap[g]? = some (.cells #[] 42 (0, 0))) (hV : Below V.heap.size V w) (hVg : V.heap.size ≤ g)
    (h : ∀ A' c' w', Hid (OwnR w' V.heap.size (.slice A' ns.length c') ns) → Hid (Wiped 42 V.heap.size w.heap.size w w') → Hid (Below V.heap.size V w') → K (a.put o.dst (.slice A' ns.length c')) w') :
    if Region.wanted o (yielded ops a.tmps) = true then Oper.wp Try.prog o a w K Q else E := by
  have hw : Region.wanted o (yielded ops a.tmps) = true := by simp [Region.wanted, hgd]
  rw [if_pos hw]
  obtain ⟨A', c', w', hr, h2, h3, h4⟩ := run_app0R o.type g A n c ns hm hR hA hn hg hV hVg
  unfold Oper.wp execOp
  simp only [ho, resolve, invoke, builtin, Sem.run_bind, Sem.run_pure, Result.andThen_ok, List.map_toArray, List.map_cons, List.map_nil, hs, hx, hr]
  exact h A' c' w' h2 h3 h4
theorem step_app0N {V w : World} {ops : Array Oper} {o : Oper} {a : Act} {K : Act → World → Prop} {Q : Exit → Act → World → Prop} {E : Prop} (hgd : o.guard = none) (s x : Operand)
    (ho : o.op = .call { callee := .builtin .append, args := #[s, x], argTypes := #[32, 32] }) (g : Nat) (hs : a.eval s = .slice (some ⟨g, 0, none⟩) 0 0)
    (A : Option Addr) (n c : Nat) (ns : List Nd) (hx : a.eval x = .slice A n c) (hm : n = ns.length) (hR : RdN V V.heap.size A ns) (hA : A = none → c = 0) (hn : ns.length ≤ 1100000)
    (hg : w.heap[g]? = some (.cells #[] 44 (0, 0))) (hV : Below V.heap.size V w) (hVg : V.heap.size ≤ g)
    (h : ∀ A' c' w', Hid (OwnN w' V.heap.size (.slice A' ns.length c') ns) → Hid (Wiped 44 V.heap.size w.heap.size w w') → Hid (Below V.heap.size V w') → K (a.put o.dst (.slice A' ns.length c')) w') :
    if Region.wanted o (yielded ops a.tmps) = true then Oper.wp Try.prog o a w K Q else E := by
  have hw : Region.wanted o (yielded ops a.tmps) = true := by simp [Region.wanted, hgd]
  rw [if_pos hw]
  obtain ⟨A', c', w', hr, h2, h3, h4⟩ := run_app0N o.type g A n c ns hm hR hA hn hg hV hVg
  unfold Oper.wp execOp
  simp only [ho, resolve, invoke, builtin, Sem.run_bind, Sem.run_pure, Result.andThen_ok, List.map_toArray, List.map_cons, List.map_nil, hs, hx, hr]
  exact h A' c' w' h2 h3 h4
theorem alloc_at {X : World} {g : Nat} {o : Obj} (h : g = X.heap.size) : (X.alloc o).heap[g]? = some o := by subst h; exact heap_alloc_new X o
theorem alloc_keep {X : World} {g : Nat} {o o' : Obj} (h : X.heap[g]? = some o') : (X.alloc o).heap[g]? = some o' := (Below.heap_alloc X o g (Array.getElem?_eq_some_iff.1 h).1).trans h
theorem Wiped.keep {t lo hi : Nat} {w w' : World} (h : Wiped t lo hi w w') {k : Nat} {cs : Array Value} {t' : TypeId} (hk : w.heap[k]? = some (.cells cs t' (0, 0))) (ht : t' ≠ t) : w'.heap[k]? = some (.cells cs t' (0, 0)) := (h.other hk ht).trans hk
theorem drew_keep {X : World} {g : Nat} {o : Obj} (h : X.heap[g]? = some o) : X.drew.heap[g]? = some o := h
theorem bdrew {V w : World} (h : Below V.heap.size V w) : Below V.heap.size V w.drew := below_drew h 1
theorem balloc {V w : World} (h : Below V.heap.size V w) (o : Obj) : Below V.heap.size V (w.alloc o) := h.alloc h.size o
theorem wN {lo hi : Nat} {w w' : World} (h : Wiped 44 lo hi w w') {k : Nat} {cs : Array Value} (hk : w.heap[k]? = some (.cells cs 42 (0, 0))) : w'.heap[k]? = some (.cells cs 42 (0, 0)) := Wiped.keep h hk (by decide)
theorem wR {lo hi : Nat} {w w' : World} (h : Wiped 42 lo hi w w') {k : Nat} {cs : Array Value} (hk : w.heap[k]? = some (.cells cs 44 (0, 0))) : w'.heap[k]? = some (.cells cs 44 (0, 0)) := Wiped.keep h hk (by decide)
theorem cutz {a b : Prop} (ha : a) (hb : a → b) : b := hb ha
theorem oNr {lo hi : Nat} {w w' : World} {base : Nat} {v : Value} {xs : List Nd} (hw : Wiped 42 lo hi w w') (h : OwnN w base v xs) : OwnN w' base v xs := by
  refine ⟨h.1, ?_⟩
  rcases h.2 with hn | ⟨g, cap, cur, hv, hbg, hg, rest⟩
  · exact .inl hn
  · exact .inr ⟨g, cap, cur, hv, hbg, (hw.other hg (by decide)).trans hg, rest⟩
theorem oRn {lo hi : Nat} {w w' : World} {base : Nat} {v : Value} {xs : List Int} (hw : Wiped 44 lo hi w w') (h : OwnR w base v xs) : OwnR w' base v xs := by
  refine ⟨h.1, ?_⟩
  rcases h.2 with hn | ⟨g, cap, cur, hv, hbg, hg, rest⟩
  · exact .inl hn
  · exact .inr ⟨g, cap, cur, hv, hbg, (hw.other hg (by decide)).trans hg, rest⟩
theorem OwnN.alloc {w : World} {base : Nat} {v : Value} {xs : List Nd} (h : OwnN w base v xs) (o : Obj) : OwnN (w.alloc o) base v xs := World.ownsRow.alloc h o

def ClonedPost (s : Sd) (w : World) (e : Ending) (w' : World) : Prop := ∃ A c A2 c2, e = .returned (.agg #[.slice A s.ns.length c, .slice A2 s.cs.length c2, .int .i64 s.gen]) ∧ OwnN w' w.heap.size (.slice A s.ns.length c) s.ns ∧ OwnR w' w.heap.size (.slice A2 s.cs.length c2) s.cs ∧ Below w.heap.size w w'
end Go.Proofs.Ytcmnmimkjkpimaa
end
section
namespace Go.Proofs.Ytcmnmimkjkpimaa
open Go.Shelf Go.RowKit Go.Lib Go.Sort

theorem cells3 {w : World} {b : Nat} {v0 v1 v2 : Value} {t : TypeId} (h : w.heap[b]? = some (.cells #[v0, v1, v2] t (0, 0))) : w.cell? ⟨b, 0, none⟩ = some v0 ∧ w.cell? ⟨b, 1, none⟩ = some v1 ∧ w.cell? ⟨b, 2, none⟩ = some v2 :=
  ⟨block_cell h (i := 0) rfl, block_cell h (i := 1) rfl, block_cell h (i := 2) rfl⟩
theorem setC_keep {X : World} {k : Nat} {p : Addr} {v : Value} {o : Obj} (hp : k ≠ p.block) (h : X.heap[k]? = some o) : (X.setCell p v).heap[k]? = some o := (Below.heap_setCell X p v k hp).trans h
theorem wZ {lo hi : Nat} {w w' : World} (h : Wiped 42 lo hi w w') {k : Nat} {cs : Array Value} (hk : w.heap[k]? = some (.cells cs 35 (0, 0))) : w'.heap[k]? = some (.cells cs 35 (0, 0)) := Wiped.keep h hk (by decide)
theorem wY {lo hi : Nat} {w w' : World} (h : Wiped 44 lo hi w w') {k : Nat} {cs : Array Value} (hk : w.heap[k]? = some (.cells cs 35 (0, 0))) : w'.heap[k]? = some (.cells cs 35 (0, 0)) := Wiped.keep h hk (by decide)
set_option maxHeartbeats 4000000 in
theorem sclone_any (s : Sd) (B : Nat) (w : World) (h : SRd w B s) (hB : B ≤ w.heap.size) (hna : s.nA = none → s.nc = 0) : Calls Try.prog 43 #[.agg s.vals] w (ClonedPost s w) := by
  obtain ⟨W, hW⟩ : ∃ W, W = (w.alloc (.cells s.vals 35)).alloc (.cells #[.slice none 0 0, .slice none 0 0, .int .i64 0] 35) := ⟨_, rfl⟩
  have HSB := Lib.hid (show W.heap[w.heap.size]? = some (.cells s.vals 35 (0, 0)) by rw [hW]; exact alloc_keep (heap_alloc_new w _))
  have HZB := Lib.hid (show W.heap[w.heap.size + 1]? = some (.cells #[.slice none 0 0, .slice none 0 0, .int .i64 0] 35 (0, 0)) by rw [hW]; exact alloc_at (by simp))
  have GW := Lib.hid (show Below w.heap.size w W by rw [hW]; exact ((Below.refl _ w).alloc (Nat.le_refl _) _).alloc (by simp) _)
  have HWS := Lib.hid (show W.heap.size = w.heap.size + 2 by rw [hW]; simp)
  have HW := Lib.hid hW.symm
  have NR := Lib.hid (show RdR W W.heap.size s.cA s.cs from (h.c.below (GW.out.mono hB)).more (Nat.le_trans hB GW.out.size))
  have NN := Lib.hid (show RdN W W.heap.size s.nA s.ns from (h.n.below (GW.out.mono hB)).more (Nat.le_trans hB GW.out.size))
  have CA := Lib.hid h.ca
  have NA := Lib.hid hna
  have MAl := Lib.hid (show s.ns.length ≤ 1100000 ∧ s.cs.length ≤ 1100000 from ⟨h.nl, h.cl⟩)
  unfold Sd.vals at *
  clear h hB hW hna
  go_enter Try.func43, Try.ntmps43
  go_upto_region 1 with (fail)
  rw [HW.out]
  have BD := Lib.hid (RowKit.Below.refl W.heap.size W)
  go_region_held3 (fun w' => w'.cell? ⟨w.heap.size, 0, none⟩ = some (.slice s.nA s.ns.length s.nc) ∧ w'.cell? ⟨w.heap.size, 1, none⟩ = some (.slice s.cA s.cs.length s.cc) ∧ w'.cell? ⟨w.heap.size, 2, none⟩ = some (.int .i64 s.gen))
    (exact cells3 (t := 35) (by (repeat (first | with_reducible exact HSB.out | with_reducible refine drew_keep ?_ | (with_reducible refine alloc_at ?_; simp; done) | with_reducible refine alloc_keep ?_ | (refine setC_keep (by first | exact Nat.ne_of_lt (Nat.lt_succ_self _) | (simp; done) | omega) ?_) | with_reducible refine wN WA.out ?_ | with_reducible refine wR WB.out ?_ | with_reducible refine wZ WB.out ?_ | with_reducible refine wY WA.out ?_))))
    (first
      | (refine step_app0N (V := W) rfl (.tmp 3) (.tmp 5) rfl _ rfl s.nA s.ns.length s.nc s.ns rfl rfl NN.out NA.out MAl.out.1 ?_ ?_ ?_ ?_
         · ((repeat (first | with_reducible exact HSB.out | with_reducible refine drew_keep ?_ | (with_reducible refine alloc_at ?_; simp; done) | with_reducible refine alloc_keep ?_ | (refine setC_keep (by first | exact Nat.ne_of_lt (Nat.lt_succ_self _) | (simp; done) | omega) ?_) | with_reducible refine wN WA.out ?_ | with_reducible refine wR WB.out ?_ | with_reducible refine wZ WB.out ?_ | with_reducible refine wY WA.out ?_)))
         · (repeat (with_reducible first | exact BB.out | exact BA.out | exact BD.out | refine bdrew ?_ | refine balloc ?_ _))
         · (first | (simp; done) | omega | (simp; omega) | (have hsz := BA.out.size; simp; omega) | (have hsz := BA.out.size; omega))
         intro A1 c1 wa OA WA BA)
      | (refine step_app0R (V := W) rfl (.tmp 7) (.tmp 9) rfl _ rfl s.cA s.cs.length s.cc s.cs rfl rfl NR.out CA.out MAl.out.2 ?_ ?_ ?_ ?_
         · ((repeat (first | with_reducible exact HSB.out | with_reducible refine drew_keep ?_ | (with_reducible refine alloc_at ?_; simp; done) | with_reducible refine alloc_keep ?_ | (refine setC_keep (by first | exact Nat.ne_of_lt (Nat.lt_succ_self _) | (simp; done) | omega) ?_) | with_reducible refine wN WA.out ?_ | with_reducible refine wR WB.out ?_ | with_reducible refine wZ WB.out ?_ | with_reducible refine wY WA.out ?_)))
         · (repeat (with_reducible first | exact BB.out | exact BA.out | exact BD.out | refine bdrew ?_ | refine balloc ?_ _))
         · (first | (simp; done) | omega | (simp; omega) | (have hsz := BA.out.size; simp; omega) | (have hsz := BA.out.size; omega))
         intro A2 c2 wb OB WB BB
         have HZ := (show wb.heap[w.heap.size + 1]? = some (.cells #[.slice none 0 0, .slice none 0 0, .int .i64 0] 35 (0, 0)) from by (repeat (first | with_reducible exact HZB.out | with_reducible refine drew_keep ?_ | (with_reducible refine alloc_at ?_; simp; done) | with_reducible refine alloc_keep ?_ | (refine setC_keep (by first | exact Nat.ne_of_lt (Nat.lt_succ_self _) | (simp; done) | omega) ?_) | with_reducible refine wN WA.out ?_ | with_reducible refine wR WB.out ?_ | with_reducible refine wZ WB.out ?_ | with_reducible refine wY WA.out ?_)))
         have OAB : Hid (OwnN wb W.heap.size (.slice A1 s.ns.length c1) s.ns) := Lib.hid (oNr WB.out (by (repeat (first | with_reducible exact OA.out | with_reducible refine OwnN.alloc ?_ _))))
         have z0 := block_cell HZ (i := 0) (v := .slice none 0 0) rfl
         have z1 := block_cell HZ (i := 1) (v := .slice none 0 0) rfl
         have z2 := block_cell HZ (i := 2) (v := .int .i64 0) rfl
         have y0 := block_frozen HZ 0
         have y1 := block_frozen HZ 1
         have y2 := block_frozen HZ 2
         have HZZ := Lib.hid HZ
         clear HZ))
  all_goals
    obtain ⟨Z, hZ⟩ : ∃ Z, Z = ((wb.setCell ⟨w.heap.size + 1, 0, none⟩ (.slice A1 s.ns.length c1)).setCell ⟨w.heap.size + 1, 1, none⟩ (.slice A2 s.cs.length c2)).setCell ⟨w.heap.size + 1, 2, none⟩ (.int .i64 s.gen) := ⟨_, rfl⟩
    have ZB := Lib.hid (show Z.heap[w.heap.size + 1]? = some (.cells #[.slice A1 s.ns.length c1, .slice A2 s.cs.length c2, .int .i64 s.gen] 35 (0, 0)) by
      rw [hZ]
      have h1 := set_block (set_block (set_block HZZ.out 0 (.slice A1 s.ns.length c1)) 1 (.slice A2 s.cs.length c2)) 2 (.int .i64 s.gen)
      exact h1)
    have hlo : w.heap.size + 2 ≤ W.heap.size := Nat.le_of_eq HWS.out.symm
    have hk3 : ∀ k, W.heap.size ≤ k → Z.heap[k]? = wb.heap[k]? := fun k hk => by
      have hkk : k ≠ w.heap.size + 1 := by omega
      rw [hZ]
      exact ((Below.heap_setCell _ ⟨w.heap.size + 1, 2, none⟩ _ k hkk).trans (Below.heap_setCell _ ⟨w.heap.size + 1, 1, none⟩ _ k hkk)).trans (Below.heap_setCell _ ⟨w.heap.size + 1, 0, none⟩ _ k hkk)
    have NF := Lib.hid (OwnN.mono (base' := w.heap.size) (OAB.out.keepFrom (w' := Z) fun k hk _ => hk3 k (OAB.out.lt_ hk).1) (by omega))
    have RF := Lib.hid (OwnR.mono (base' := w.heap.size) (OB.out.keepAt (w' := Z) fun k hk _ => hk3 k (OB.out.lt_ hk).1) (by omega))
    have BF := Lib.hid (show Below w.heap.size w Z by
      rw [hZ]
      exact (((GW.out.trans (BB.out.mono GW.out.size)).setCell (Nat.le_succ _) _).setCell (Nat.le_succ _) _).setCell (Nat.le_succ _) _)
    rw [← hZ]
    have d0 := block_cell ZB.out (i := 0) rfl
    have d1 := block_cell ZB.out (i := 1) rfl
    have d2 := block_cell ZB.out (i := 2) rfl
    clear hZ hk3 hlo z0 z1 z2 y0 y1 y2 OAB HZZ
    go_wp2
    refine bodyPost_ret (v := .agg #[.slice A1 s.ns.length c1, .slice A2 s.cs.length c2, .int .i64 s.gen]) (by simp [results, Try.results43, go_sem, d0, d1, d2]) rfl ⟨A1, c1, A2, c2, rfl, NF.out, RF.out, BF.out⟩
end Go.Proofs.Ytcmnmimkjkpimaa
end
