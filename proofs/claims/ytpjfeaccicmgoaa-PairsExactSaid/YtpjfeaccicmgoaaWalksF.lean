/-
  The walks of package pairs: Valid (and the reference's), the search, the span of a key.
-/
import Derived.Test.YtpjfeaccicmgoaaMem
import Derived.Laws.Cover1
import Derived.Laws.StructEq
set_option linter.unusedVariables false
namespace Go.Proofs.Ytpjfeaccicmgoaa
open Go.Shelf Go.RowKit Go.Lib Go.Sort

theorem bl_kl (a b : ByteArray) : Op.bytesLess a.toList b.toList = kl a b := by
  rw [bytesLess_eq, Lib.toList_data, Lib.toList_data]; rfl

theorem asc_of_adj : ∀ xs : List Pr, (∀ t x y, xs[t]? = some x → xs[t + 1]? = some y → kl x.1 y.1 = true) → Asc xs
  | [], _ => List.Pairwise.nil
  | [x], _ => List.pairwise_singleton _ _
  | x :: y :: r, h => by
    have h1 := h 0 x y rfl rfl
    have ih := asc_of_adj (y :: r) fun t a b ha hb => h (t + 1) a b (by simpa using ha) (by simpa using hb)
    refine List.pairwise_cons.2 ⟨fun z hz => ?_, ih⟩
    rcases List.mem_cons.1 hz with e | e
    · subst e; exact h1
    · exact kl_trans h1 ((List.pairwise_cons.1 ih).1 z e)
theorem adj_of_asc {xs : List Pr} (h : Asc xs) {t : Nat} {x y : Pr} (hx : xs[t]? = some x) (hy : xs[t + 1]? = some y) : kl x.1 y.1 = true := by
  obtain ⟨hl, e⟩ := List.getElem?_eq_some_iff.1 hx
  obtain ⟨hl', e'⟩ := List.getElem?_eq_some_iff.1 hy
  rw [← e, ← e']
  exact List.pairwise_iff_getElem.1 h t (t + 1) hl hl' (by omega)

noncomputable def validB (xs : List Pr) : Bool := @decide (Asc xs) (Classical.propDecidable _)
theorem validB_true {xs : List Pr} (h : Asc xs) : validB xs = true := by unfold validB; exact @decide_eq_true _ (Classical.propDecidable _) h
theorem validB_false {xs : List Pr} (h : ¬ Asc xs) : validB xs = false := by unfold validB; exact @decide_eq_false _ (Classical.propDecidable _) h

theorem ret_bool {a b : Bool} (h : a = b) : Ending.returned (.bool a) = .returned (.bool b) := by rw [h]

set_option maxHeartbeats 1000000 in
theorem valid_any (A : Option Addr) (c : Nat) (xs : List Pr) (B : Nat) (w : World) (h : Rd w B A xs) (hn : xs.length < 4611686018427387904) :
    Calls Try.prog 19 #[.slice A xs.length c] w fun e w' => e = .returned (.bool (validB xs)) ∧ ∃ q, w' = w.drewN q := by
  have H := Lib.hid h
  clear h
  have mixed := mixedOrders
  go_enter Try.func19, Try.ntmps19
  go_wp2
  go_loopg [3] xs.length (fun kx s3 wr => ∃ i : Nat, s3 = .int .i64 i ∧ 1 ≤ i ∧ (i ≤ xs.length ∨ i = 1) ∧ xs.length - i ≤ kx ∧ Aside (∃ q, wr = w.drewN q) ∧ Aside (∀ t x y, t + 1 < i → xs[t]? = some x → xs[t + 1]? = some y → kl x.1 y.1 = true))
  case atStart => exact ⟨1, rfl, Nat.le_refl _, .inr rfl, by omega, (⟨0, rfl⟩ : ∃ q, w = w.drewN q), (fun t x y ht => by omega)⟩
  case round =>
    obtain ⟨i, rfl, hi1, hil, hkx, W, I⟩ := hrel
    by_cases hlt : i < xs.length
    · have hltz : (i : Int) < (xs.length : Int) := by omega
      obtain ⟨j, rfl⟩ : ∃ j, i = j + 1 := ⟨i - 1, by omega⟩
      have hr : Rd wr B A xs := by obtain ⟨q, hq⟩ := W.out; rw [hq]; exact H.out.drewN q
      obtain ⟨ad, x, rfl, hb, hx, c0, c1⟩ := hr.at_ (show j < xs.length by omega)
      obtain ⟨ad', y, e, hb', hy, d0, d1⟩ := hr.at_ hlt
      obtain rfl : ad = ad' := by injection e
      have j1 : (j : Int) < (xs.length : Int) := by omega
      have j2 : (j : Int) + 1 < (xs.length : Int) := by omega
      have j4 : (0 : Int) ≤ (j : Int) + 1 := by omega
      have j5 : ((j : Int) + 1).toNat = j + 1 := by omega
      have j3 : IntKind.i64.wrap (j : Int) = (j : Int) := by rw [IntKind.wrap_i64]; omega
      have X := Lib.hid hx
      have Y := Lib.hid hy
      clear hx hy hr e
      by_cases hk : kl x.1 y.1 = true
      · have ht : Op.bytesLess x.1.toList y.1.toList = true := by rw [bl_kl]; exact hk
        have HK := Lib.hid hk
        clear hk
        go_wp2_with fail
        go_quiet (fail)
        clear c0 c1 d0 d1 ht j3 j5
        go_wp2
        go_roundg (xs.length - (j + 1 + 1))
        case measure => omega
        case rel =>
          refine ⟨j + 1 + 1, by go_num, by omega, .inl (by omega), Nat.le_refl _, (by obtain ⟨q, hq⟩ := W.out; exact ⟨q + nq, by rw [hq]; exact World.drewN_drewN ..⟩ : ∃ q, _), (fun t a b ht ha hb => ?_)⟩
          by_cases ht' : t + 1 < j + 1
          · exact I.out t a b ht' ha hb
          · obtain rfl : t = j := by omega
            rw [X.out] at ha
            rw [Y.out] at hb
            injection ha with ha
            injection hb with hb
            rw [← ha, ← hb]
            exact HK.out
      · have ht : Op.bytesLess x.1.toList y.1.toList = false := by rw [bl_kl]; simpa using hk
        have HK := Lib.hid hk
        clear hk
        go_wp2_with fail
        go_quiet (fail)
        clear c0 c1 d0 d1 ht j3 j5
        go_wp2
        go_ret
        refine ⟨ret_bool (validB_false fun ha => HK.out (adj_of_asc ha X.out Y.out)).symm, ?_⟩
        obtain ⟨q, hq⟩ := W.out
        exact ⟨q + nq, by rw [hq]; exact World.drewN_drewN ..⟩
    · go_wp2
      go_ret
      refine ⟨ret_bool (validB_true (asc_of_adj xs fun t x y hx hy => ?_)).symm, W.out⟩
      have := (List.getElem?_eq_some_iff.1 hy).1
      exact I.out t x y (by omega) hx hy

set_option maxHeartbeats 1000000 in
theorem refValid_any (A : Option Addr) (c : Nat) (xs : List Pr) (B : Nat) (w : World) (h : Rd w B A xs) (hn : xs.length < 4611686018427387904) :
    Calls Try.prog 28 #[.slice A xs.length c] w fun e w' => e = .returned (.bool (validB xs)) ∧ ∃ q, w' = w.drewN q := by
  have H := Lib.hid h
  clear h
  have mixed := mixedOrders
  go_enter Try.func28, Try.ntmps28
  go_wp2
  go_loopg [3] xs.length (fun kx s3 wr => ∃ i : Nat, s3 = .int .i64 i ∧ 1 ≤ i ∧ (i ≤ xs.length ∨ i = 1) ∧ xs.length - i ≤ kx ∧ Aside (∃ q, wr = w.drewN q) ∧ Aside (∀ t x y, t + 1 < i → xs[t]? = some x → xs[t + 1]? = some y → kl x.1 y.1 = true))
  case atStart => exact ⟨1, rfl, Nat.le_refl _, .inr rfl, by omega, (⟨0, rfl⟩ : ∃ q, w = w.drewN q), (fun t x y ht => by omega)⟩
  case round =>
    obtain ⟨i, rfl, hi1, hil, hkx, W, I⟩ := hrel
    by_cases hlt : i < xs.length
    · have hltz : (i : Int) < (xs.length : Int) := by omega
      obtain ⟨j, rfl⟩ : ∃ j, i = j + 1 := ⟨i - 1, by omega⟩
      have hr : Rd wr B A xs := by obtain ⟨q, hq⟩ := W.out; rw [hq]; exact H.out.drewN q
      obtain ⟨ad, x, rfl, hb, hx, c0, c1⟩ := hr.at_ (show j < xs.length by omega)
      obtain ⟨ad', y, e, hb', hy, d0, d1⟩ := hr.at_ hlt
      obtain rfl : ad = ad' := by injection e
      have j1 : (j : Int) < (xs.length : Int) := by omega
      have j2 : (j : Int) + 1 < (xs.length : Int) := by omega
      have j4 : (0 : Int) ≤ (j : Int) + 1 := by omega
      have j5 : ((j : Int) + 1).toNat = j + 1 := by omega
      have j3 : IntKind.i64.wrap (j : Int) = (j : Int) := by rw [IntKind.wrap_i64]; omega
      have X := Lib.hid hx
      have Y := Lib.hid hy
      clear hx hy hr e
      by_cases hk : kl x.1 y.1 = true
      · have ht : Op.bytesLess y.1.toList x.1.toList = false := by rw [bl_kl]; exact kl_asymm hk
        have ht2 : (y.1.toList == x.1.toList) = false := by rw [beq_eq_false_iff_ne, Lib.toList_data, Lib.toList_data]; exact fun e => kl_ne hk (key_ext e).symm
        have HK := Lib.hid hk
        clear hk
        go_wp2_with fail
        go_quiet (fail)
        clear c0 c1 d0 d1 ht j3 j5
        go_wp2
        go_roundg (xs.length - (j + 1 + 1))
        case measure => omega
        case rel =>
          refine ⟨j + 1 + 1, by go_num, by omega, .inl (by omega), Nat.le_refl _, (by obtain ⟨q, hq⟩ := W.out; exact ⟨q + nq, by rw [hq]; exact World.drewN_drewN ..⟩ : ∃ q, _), (fun t a b ht ha hb => ?_)⟩
          by_cases ht' : t + 1 < j + 1
          · exact I.out t a b ht' ha hb
          · obtain rfl : t = j := by omega
            rw [X.out] at ha
            rw [Y.out] at hb
            injection ha with ha
            injection hb with hb
            rw [← ha, ← hb]
            exact HK.out
      · have HK := Lib.hid hk
        have hk' : kl x.1 y.1 = false := by simpa using hk
        by_cases hk2 : kl y.1 x.1 = true
        · have ht : Op.bytesLess y.1.toList x.1.toList = true := by rw [bl_kl]; exact hk2
          clear hk hk' hk2
          go_wp2_with fail
          go_quiet (fail)
          clear c0 c1 d0 d1 ht j3 j5
          go_wp2
          go_ret
          refine ⟨ret_bool (validB_false fun ha => HK.out (adj_of_asc ha X.out Y.out)).symm, ?_⟩
          obtain ⟨q, hq⟩ := W.out
          exact ⟨q + nq, by rw [hq]; exact World.drewN_drewN ..⟩
        · have ht : Op.bytesLess y.1.toList x.1.toList = false := by rw [bl_kl]; simpa using hk2
          have ht2 : (y.1.toList == x.1.toList) = true := by rw [kl_eq hk' (by simpa using hk2)]; exact beq_self_eq_true _
          clear hk hk' hk2
          go_wp2_with fail
          go_quiet (fail)
          clear c0 c1 d0 d1 ht ht2 j3 j5
          go_wp2
          go_ret
          refine ⟨ret_bool (validB_false fun ha => HK.out (adj_of_asc ha X.out Y.out)).symm, ?_⟩
          obtain ⟨q, hq⟩ := W.out
          exact ⟨q + nq, by rw [hq]; exact World.drewN_drewN ..⟩
    · go_wp2
      go_ret
      refine ⟨ret_bool (validB_true (asc_of_adj xs fun t x y hx hy => ?_)).symm, W.out⟩
      have := (List.getElem?_eq_some_iff.1 hy).1
      exact I.out t x y (by omega) hx hy

end Go.Proofs.Ytpjfeaccicmgoaa
