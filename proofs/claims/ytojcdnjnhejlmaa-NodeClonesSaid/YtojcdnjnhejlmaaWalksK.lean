/-
  An append to an empty literal, as one step of a region that draws its order.
-/
import Derived.Test.YtojcdnjnhejlmaaWalksJ
set_option linter.unusedVariables false
namespace Go.Proofs.Ytojcdnjnhejlmaa
open Go.Shelf Go.RowKit Go.Lib Go.Sort
theorem run_app0R {V w : World} (ty : TypeId) (g : Nat) (A : Option Addr) (n c : Nat) (ns : List Int) (hm : n = ns.length) (hR : RdR V V.heap.size A ns) (hA : A = none → c = 0) (hn : ns.length ≤ 1000)
    (hg : w.heap[g]? = some (.cells #[] 26 (0, 0))) (hV : Below V.heap.size V w) (hVg : V.heap.size ≤ g) :
    ∃ A' c' w', (Builtin.append_ #[24, 24] ty #[.slice (some ⟨g, 0, none⟩) 0 0, .slice A n c]).run Try.prog w = .ok (.slice A' ns.length c') w' ∧ OwnR w' V.heap.size (.slice A' ns.length c') ns ∧ Wiped 26 V.heap.size w.heap.size w w' ∧ Below V.heap.size V w' := by
  subst hm
  have hgl := (Array.getElem?_eq_some_iff.1 hg).1
  have hown : OwnR w V.heap.size (.slice (some ⟨g, 0, none⟩) 0 0) [] := ⟨rfl, .inr ⟨g, 0, #[], rfl, hVg, hg, Nat.le_refl _, by simp [maxLen], rfl, rfl⟩⟩
  obtain ⟨i0, hi0, hz0, hz1, hz2⟩ := info_parts refInfo
  cases A with
  | none =>
    obtain rfl : c = 0 := hA rfl
    have hns : ns = [] := by
      rcases Nat.eq_zero_or_pos ns.length with h | h
      · exact List.eq_nil_of_length_eq_zero h
      · obtain ⟨ad, e, _⟩ := hR h
        cases e
    subst hns
    exact ⟨_, _, w, run_append_owned_none (P := Try.prog) (w := w) V.heap.size 24 ty 26 i0 1 Try.underlying24 hi0 (.slice (some ⟨g, 0, none⟩) 0 0) 0 (flatR []) hown, hown, .inl (Below.refl _ _), hV⟩
  | some ad =>
    have hnews : ∀ j u, (flatR ns)[j]? = some u → w.cell? (ad.add j) = some u := fun j u hj => by
      have hl : 0 < ns.length := by have := (List.getElem?_eq_some_iff.1 hj).1; rw [flatR_length] at this; omega
      obtain ⟨ad', e, hb, hc⟩ := (hR.below hV) hl
      injection e with e
      subst e
      exact hc j u hj
    obtain ⟨v', w', hr, h2, h3, _, _⟩ := run_append_own_at (P := Try.prog) w V.heap.size 24 ty 26 i0 _ 1 8 Try.underlying24 hi0 hz0 hz1 hz2 rfl (by omega) (.slice (some ⟨g, 0, none⟩) 0 0) 0 (flatR []) hown ad ns.length c (flatR ns) (by rw [flatR_length]; omega) hnews (flatR_one ns)
      (by simp only [maxLen]; omega) (by omega) hV.size
    have ho : OwnR w' V.heap.size v' ns := by
      show w'.ownsRow V.heap.size 26 1 v' ns.length (flatR ns)
      simpa [flatR] using h2
    obtain ⟨A', c', rfl, _, _, _⟩ := ho.open2
    refine ⟨A', c', w', hr, ho, .inr ⟨g, #[], hVg, hgl, hg, ?_⟩, hV.trans ((Below.refl V.heap.size w).grown h3 hV.size (fun k hk => (hown.lt k hk).1))⟩
    exact h3
theorem run_app0P {V w : World} (ty : TypeId) (g : Nat) (A : Option Addr) (n c : Nat) (ns : List Pr) (hm : n = ns.length) (hR : Rd V V.heap.size A ns) (hA : A = none → c = 0) (hn : ns.length ≤ 1000)
    (hg : w.heap[g]? = some (.cells #[] 41 (0, 0))) (hV : Below V.heap.size V w) (hVg : V.heap.size ≤ g) :
    ∃ A' c' w', (Builtin.append_ #[25, 25] ty #[.slice (some ⟨g, 0, none⟩) 0 0, .slice A n c]).run Try.prog w = .ok (.slice A' ns.length c') w' ∧ Own w' V.heap.size (.slice A' ns.length c') ns ∧ Wiped 41 V.heap.size w.heap.size w w' ∧ Below V.heap.size V w' := by
  subst hm
  have hgl := (Array.getElem?_eq_some_iff.1 hg).1
  have hown : Own w V.heap.size (.slice (some ⟨g, 0, none⟩) 0 0) [] := ⟨rfl, .inr ⟨g, 0, #[], rfl, hVg, hg, Nat.le_refl _, by simp [maxLen], rfl, rfl⟩⟩
  obtain ⟨i0, hi0, hz0, hz1, hz2⟩ := info_parts pairInfo
  cases A with
  | none =>
    obtain rfl : c = 0 := hA rfl
    have hns : ns = [] := by
      rcases Nat.eq_zero_or_pos ns.length with h | h
      · exact List.eq_nil_of_length_eq_zero h
      · obtain ⟨ad, e, _⟩ := hR h
        cases e
    subst hns
    exact ⟨_, _, w, run_append_owned_none (P := Try.prog) (w := w) V.heap.size 25 ty 41 i0 2 Try.underlying25 hi0 (.slice (some ⟨g, 0, none⟩) 0 0) 0 (flat []) hown, hown, .inl (Below.refl _ _), hV⟩
  | some ad =>
    have hnews : ∀ j u, (flat ns)[j]? = some u → w.cell? (ad.add j) = some u := fun j u hj => by
      have hl : 0 < ns.length := by have := (List.getElem?_eq_some_iff.1 hj).1; rw [flat_length] at this; omega
      obtain ⟨ad', e, hb, hc⟩ := (hR.below hV) hl
      injection e with e
      subst e
      exact hc j u hj
    obtain ⟨v', w', hr, h2, h3, _, _⟩ := run_append_own_at (P := Try.prog) w V.heap.size 25 ty 41 i0 _ 2 24 Try.underlying25 hi0 hz0 hz1 hz2 rfl (by omega) (.slice (some ⟨g, 0, none⟩) 0 0) 0 (flat []) hown ad ns.length c (flat ns) (flat_length ns) hnews (flat_one ns)
      (by simp only [maxLen]; omega) (by omega) hV.size
    have ho : Own w' V.heap.size v' ns := by
      show w'.ownsRow V.heap.size 41 2 v' ns.length (flat ns)
      simpa [flat] using h2
    obtain ⟨A', c', rfl, _, _, _⟩ := ho.open2
    refine ⟨A', c', w', hr, ho, .inr ⟨g, #[], hVg, hgl, hg, ?_⟩, hV.trans ((Below.refl V.heap.size w).grown h3 hV.size (fun k hk => (hown.lt k hk).1))⟩
    exact h3
theorem step_app0R {V w : World} {ops : Array Oper} {o : Oper} {a : Act} {K : Act → World → Prop} {Q : Exit → Act → World → Prop} {E : Prop} (hgd : o.guard = none) (s x : Operand)
    (ho : o.op = .call { callee := .builtin .append, args := #[s, x], argTypes := #[24, 24] }) (g : Nat) (hs : a.eval s = .slice (some ⟨g, 0, none⟩) 0 0)
    (A : Option Addr) (n c : Nat) (ns : List Int) (hx : a.eval x = .slice A n c) (hm : n = ns.length) (hR : RdR V V.heap.size A ns) (hA : A = none → c = 0) (hn : ns.length ≤ 1000)
    (hg : w.heap[g]? = some (.cells #[] 26 (0, 0))) (hV : Below V.heap.size V w) (hVg : V.heap.size ≤ g)
    (h : ∀ A' c' w', Hid (OwnR w' V.heap.size (.slice A' ns.length c') ns) → Hid (Wiped 26 V.heap.size w.heap.size w w') → Hid (Below V.heap.size V w') → K (a.put o.dst (.slice A' ns.length c')) w') :
    if Region.wanted o (yielded ops a.tmps) = true then Oper.wp Try.prog o a w K Q else E := by
  have hw : Region.wanted o (yielded ops a.tmps) = true := by simp [Region.wanted, hgd]
  rw [if_pos hw]
  obtain ⟨A', c', w', hr, h2, h3, h4⟩ := run_app0R o.type g A n c ns hm hR hA hn hg hV hVg
  unfold Oper.wp execOp
  simp only [ho, resolve, invoke, builtin, Sem.run_bind, Sem.run_pure, Result.andThen_ok, List.map_toArray, List.map_cons, List.map_nil, hs, hx, hr]
  exact h A' c' w' h2 h3 h4
theorem step_app0P {V w : World} {ops : Array Oper} {o : Oper} {a : Act} {K : Act → World → Prop} {Q : Exit → Act → World → Prop} {E : Prop} (hgd : o.guard = none) (s x : Operand)
    (ho : o.op = .call { callee := .builtin .append, args := #[s, x], argTypes := #[25, 25] }) (g : Nat) (hs : a.eval s = .slice (some ⟨g, 0, none⟩) 0 0)
    (A : Option Addr) (n c : Nat) (ns : List Pr) (hx : a.eval x = .slice A n c) (hm : n = ns.length) (hR : Rd V V.heap.size A ns) (hA : A = none → c = 0) (hn : ns.length ≤ 1000)
    (hg : w.heap[g]? = some (.cells #[] 41 (0, 0))) (hV : Below V.heap.size V w) (hVg : V.heap.size ≤ g)
    (h : ∀ A' c' w', Hid (Own w' V.heap.size (.slice A' ns.length c') ns) → Hid (Wiped 41 V.heap.size w.heap.size w w') → Hid (Below V.heap.size V w') → K (a.put o.dst (.slice A' ns.length c')) w') :
    if Region.wanted o (yielded ops a.tmps) = true then Oper.wp Try.prog o a w K Q else E := by
  have hw : Region.wanted o (yielded ops a.tmps) = true := by simp [Region.wanted, hgd]
  rw [if_pos hw]
  obtain ⟨A', c', w', hr, h2, h3, h4⟩ := run_app0P o.type g A n c ns hm hR hA hn hg hV hVg
  unfold Oper.wp execOp
  simp only [ho, resolve, invoke, builtin, Sem.run_bind, Sem.run_pure, Result.andThen_ok, List.map_toArray, List.map_cons, List.map_nil, hs, hx, hr]
  exact h A' c' w' h2 h3 h4
end Go.Proofs.Ytojcdnjnhejlmaa
