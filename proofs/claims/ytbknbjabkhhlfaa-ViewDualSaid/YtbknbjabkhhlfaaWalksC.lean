/-
  The walks that compare lists: of refs and of pairs, in the library, in the reference.
-/
import Derived.Test.YtbknbjabkhhlfaaMemR
set_option linter.unusedVariables false
set_option maxRecDepth 100000
namespace Go.Proofs.Ytbknbjabkhhlfaa
open Go.Shelf Go.RowKit Go.Lib Go.Sort

theorem mixedOrders : Try.prog.follows .mixedOrders = true := by kernel_rfl

theorem eq_pair (x : Pr) (w : World) : (Op.equalIn 10000 56 (.agg #[.string x.1, .int .u64 x.2]) (.agg #[.string x.1, .int .u64 x.2])).run Try.prog w = .ok true w := by
  have hS : Try.prog.underlying 56 = some (.struct (Try.prog.fieldsOf 56)) := by kernel_rfl
  have hp : Try.prog.stoodInHeld 56 = false := by kernel_rfl
  have a9 := Try.isAgg9; have z9 := Try.sizeOf9; have u9 := Try.underlying9
  have a24 := Try.isAgg22; have z24 := Try.sizeOf22; have u24 := Try.underlying22
  rw [show (10000 : Nat) = 9999 + 1 from rfl, run_equalIn_agg w 9999 56 _ _ hS hp]
  simp only [Program.fieldsOf, Try.underlying56]
  go_simp
theorem ne_pair (x y : Pr) (h : x ≠ y) (w : World) : (Op.equalIn 10000 56 (.agg #[.string x.1, .int .u64 x.2]) (.agg #[.string y.1, .int .u64 y.2])).run Try.prog w = .ok false w := by
  have hS : Try.prog.underlying 56 = some (.struct (Try.prog.fieldsOf 56)) := by kernel_rfl
  have hp : Try.prog.stoodInHeld 56 = false := by kernel_rfl
  have a9 := Try.isAgg9; have z9 := Try.sizeOf9; have u9 := Try.underlying9
  have a24 := Try.isAgg22; have z24 := Try.sizeOf22; have u24 := Try.underlying22
  rw [show (10000 : Nat) = 9999 + 1 from rfl, run_equalIn_agg w 9999 56 _ _ hS hp]
  simp only [Program.fieldsOf, Try.underlying56]
  by_cases h1 : x.1 = y.1
  · have h2 : (x.2 == y.2) = false := by rw [beq_eq_false_iff_ne]; exact fun e => h (Prod.ext h1 e)
    rw [h1]
    go_simp
  · have h2 : (x.1.toList == y.1.toList) = false := by rw [beq_eq_false_iff_ne, Lib.toList_data, Lib.toList_data]; exact fun e => h1 (key_ext e)
    go_simp

theorem pref_ne {α : Type} {xs ys : List α} {i : Nat} {x y : α} (hx : xs[i]? = some x) (hy : ys[i]? = some y) (h : x ≠ y) : xs ≠ ys := by
  rintro rfl
  rw [hx] at hy
  injection hy with e
  exact h e
theorem pref_all {α : Type} {xs ys : List α} (hl : xs.length = ys.length) (h : ∀ j, j < xs.length → xs[j]? = ys[j]?) : xs = ys := by
  apply List.ext_getElem?
  intro j
  by_cases hj : j < xs.length
  · exact h j hj
  · rw [List.getElem?_eq_none (by omega), List.getElem?_eq_none (by omega)]

set_option maxHeartbeats 1000000 in
theorem sequalR_any (A : Option Addr) (c : Nat) (xs : List Int) (B : Option Addr) (d : Nat) (ys : List Int) (b : Nat) (w : World) (h : RdR w b A xs) (g : RdR w b B ys) (hn : xs.length ≤ 1000000) (hm : ys.length ≤ 1000000) :
    Calls Try.prog 76 #[.slice A xs.length c, .slice B ys.length d] w fun e w' => e = .returned (.bool (decide (xs = ys))) ∧ ∃ q, w' = w.drewN q := by
  have H := Lib.hid h
  have G := Lib.hid g
  clear h g
  have mixed := mixedOrders
  by_cases hl : xs.length = ys.length
  · have ht : ((xs.length : Int) != (ys.length : Int)) = false := by rw [hl]; simp
    have ht2 : ((ys.length : Int) != (ys.length : Int)) = false := by simp
    have HL := Lib.hid hl
    clear hl
    go_enter Try.func76, Try.ntmps76
    go_wp2
    go_loopg [13] xs.length (fun kx s5 wr => ∃ i : Nat, s5 = .int .i64 i ∧ i ≤ xs.length ∧ xs.length - i ≤ kx ∧ Aside (∃ q, wr = w.drewN q) ∧ Aside (∀ j, j < i → xs[j]? = ys[j]?))
    case atStart => exact ⟨0, rfl, Nat.zero_le _, by omega, (⟨0, rfl⟩ : ∃ q, w = w.drewN q), (fun j hj => absurd hj (Nat.not_lt_zero _))⟩
    case round =>
      obtain ⟨i, rfl, hi, hkx, W, I⟩ := hrel
      by_cases hlt : i < xs.length
      · have hltz : (i : Int) < (xs.length : Int) := by omega
        have hltz2 : (i : Int) < (ys.length : Int) := by have := HL.out; omega
        have hr : RdR wr b A xs := by obtain ⟨q, hq⟩ := W.out; rw [hq]; exact H.out.drewN q
        have gr : RdR wr b B ys := by obtain ⟨q, hq⟩ := W.out; rw [hq]; exact G.out.drewN q
        obtain ⟨ad, x, rfl, hb, hx, c0⟩ := hr.at_ hlt
        obtain ⟨ad2, y, rfl, hb2, hy, d0⟩ := gr.at_ (show i < ys.length by omega)
        have X := Lib.hid hx
        have Y := Lib.hid hy
        clear hx hy hr gr
        by_cases hxy : x = y
        · have t0 : (x != y) = false := by simp [hxy]
          have E := Lib.hid hxy
          clear hxy
          go_wp2_with fail
          go_quiet (fail)
          clear c0 d0 t0
          go_wp2
          go_roundg (xs.length - (i + 1))
          case measure => omega
          case rel =>
            refine ⟨i + 1, by go_num, by omega, Nat.le_refl _, (by obtain ⟨q, hq⟩ := W.out; exact ⟨q + nq, by rw [hq]; exact World.drewN_drewN ..⟩ : ∃ q, _), (show ∀ j, _ from fun j hj => ?_)⟩
            by_cases e : j = i
            · subst e; rw [X.out, Y.out, E.out]
            · exact I.out j (by omega)
        · have t0 : (x != y) = true := by simp [hxy]
          have E := Lib.hid hxy
          clear hxy
          go_wp2_with fail
          go_quiet (fail)
          clear c0 d0 t0
          go_wp2
          go_ret
          exact ⟨ret_bool (decide_eq_false (pref_ne X.out Y.out E.out)).symm, by obtain ⟨q, hq⟩ := W.out; exact ⟨q + nq, by rw [hq]; exact World.drewN_drewN ..⟩⟩
      · obtain rfl : i = xs.length := by omega
        go_wp2
        go_ret
        exact ⟨ret_bool (decide_eq_true (pref_all HL.out I.out)).symm, W.out⟩
  · have ht : ((xs.length : Int) != (ys.length : Int)) = true := by rw [bne_iff_ne]; omega
    have HL := Lib.hid hl
    clear hl
    go_enter Try.func76, Try.ntmps76
    go_wp2
    go_ret
    exact ⟨ret_bool (decide_eq_false fun e => HL.out (by rw [e])).symm, 0, rfl⟩

set_option maxHeartbeats 1000000 in
theorem requalR_any (A : Option Addr) (c : Nat) (xs : List Int) (B : Option Addr) (d : Nat) (ys : List Int) (b : Nat) (w : World) (h : RdR w b A xs) (g : RdR w b B ys) (hn : xs.length ≤ 1000000) (hm : ys.length ≤ 1000000) :
    Calls Try.prog 32 #[.slice A xs.length c, .slice B ys.length d] w fun e w' => e = .returned (.bool (decide (xs = ys))) ∧ ∃ q, w' = w.drewN q := by
  have H := Lib.hid h
  have G := Lib.hid g
  clear h g
  have mixed := mixedOrders
  by_cases hl : xs.length = ys.length
  · have ht : ((xs.length : Int) != (ys.length : Int)) = false := by rw [hl]; simp
    have ht2 : ((ys.length : Int) != (ys.length : Int)) = false := by simp
    have HL := Lib.hid hl
    clear hl
    go_enter Try.func32, Try.ntmps32
    go_wp2
    go_loopg [5] xs.length (fun kx s5 wr => ∃ i : Nat, s5 = .int .i64 i ∧ i ≤ xs.length ∧ xs.length - i ≤ kx ∧ Aside (∃ q, wr = w.drewN q) ∧ Aside (∀ j, j < i → xs[j]? = ys[j]?))
    case atStart => exact ⟨0, rfl, Nat.zero_le _, by omega, (⟨0, rfl⟩ : ∃ q, w = w.drewN q), (fun j hj => absurd hj (Nat.not_lt_zero _))⟩
    case round =>
      obtain ⟨i, rfl, hi, hkx, W, I⟩ := hrel
      by_cases hlt : i < xs.length
      · have hltz : (i : Int) < (xs.length : Int) := by omega
        have hltz2 : (i : Int) < (ys.length : Int) := by have := HL.out; omega
        have hr : RdR wr b A xs := by obtain ⟨q, hq⟩ := W.out; rw [hq]; exact H.out.drewN q
        have gr : RdR wr b B ys := by obtain ⟨q, hq⟩ := W.out; rw [hq]; exact G.out.drewN q
        obtain ⟨ad, x, rfl, hb, hx, c0⟩ := hr.at_ hlt
        obtain ⟨ad2, y, rfl, hb2, hy, d0⟩ := gr.at_ (show i < ys.length by omega)
        have X := Lib.hid hx
        have Y := Lib.hid hy
        clear hx hy hr gr
        by_cases hxy : x = y
        · have t0 : (x != y) = false := by simp [hxy]
          have E := Lib.hid hxy
          clear hxy
          go_wp2_with fail
          go_quiet (fail)
          clear c0 d0 t0
          go_wp2
          go_roundg (xs.length - (i + 1))
          case measure => omega
          case rel =>
            refine ⟨i + 1, by go_num, by omega, Nat.le_refl _, (by obtain ⟨q, hq⟩ := W.out; exact ⟨q + nq, by rw [hq]; exact World.drewN_drewN ..⟩ : ∃ q, _), (show ∀ j, _ from fun j hj => ?_)⟩
            by_cases e : j = i
            · subst e; rw [X.out, Y.out, E.out]
            · exact I.out j (by omega)
        · have t0 : (x != y) = true := by simp [hxy]
          have E := Lib.hid hxy
          clear hxy
          go_wp2_with fail
          go_quiet (fail)
          clear c0 d0 t0
          go_wp2
          go_ret
          exact ⟨ret_bool (decide_eq_false (pref_ne X.out Y.out E.out)).symm, by obtain ⟨q, hq⟩ := W.out; exact ⟨q + nq, by rw [hq]; exact World.drewN_drewN ..⟩⟩
      · obtain rfl : i = xs.length := by omega
        go_wp2
        go_ret
        exact ⟨ret_bool (decide_eq_true (pref_all HL.out I.out)).symm, W.out⟩
  · have ht : ((xs.length : Int) != (ys.length : Int)) = true := by rw [bne_iff_ne]; omega
    have HL := Lib.hid hl
    clear hl
    go_enter Try.func32, Try.ntmps32
    go_wp2
    go_ret
    exact ⟨ret_bool (decide_eq_false fun e => HL.out (by rw [e])).symm, 0, rfl⟩

set_option maxHeartbeats 1000000 in
theorem sequalP_any (A : Option Addr) (c : Nat) (xs : List Pr) (B : Option Addr) (d : Nat) (ys : List Pr) (b : Nat) (w : World) (h : Rd w b A xs) (g : Rd w b B ys) (hn : xs.length ≤ 1000000) (hm : ys.length ≤ 1000000) :
    Calls Try.prog 77 #[.slice A xs.length c, .slice B ys.length d] w fun e w' => e = .returned (.bool (decide (xs = ys))) ∧ ∃ q, w' = w.drewN q := by
  have H := Lib.hid h
  have G := Lib.hid g
  clear h g
  have mixed := mixedOrders
  by_cases hl : xs.length = ys.length
  · have ht : ((xs.length : Int) != (ys.length : Int)) = false := by rw [hl]; simp
    have ht2 : ((ys.length : Int) != (ys.length : Int)) = false := by simp
    have HL := Lib.hid hl
    clear hl
    go_enter Try.func77, Try.ntmps77
    go_wp2
    go_loopg [13] xs.length (fun kx s5 wr => ∃ i : Nat, s5 = .int .i64 i ∧ i ≤ xs.length ∧ xs.length - i ≤ kx ∧ Aside (∃ q, wr = w.drewN q) ∧ Aside (∀ j, j < i → xs[j]? = ys[j]?))
    case atStart => exact ⟨0, rfl, Nat.zero_le _, by omega, (⟨0, rfl⟩ : ∃ q, w = w.drewN q), (fun j hj => absurd hj (Nat.not_lt_zero _))⟩
    case round =>
      obtain ⟨i, rfl, hi, hkx, W, I⟩ := hrel
      by_cases hlt : i < xs.length
      · have hltz : (i : Int) < (xs.length : Int) := by omega
        have hltz2 : (i : Int) < (ys.length : Int) := by have := HL.out; omega
        have hr : Rd wr b A xs := by obtain ⟨q, hq⟩ := W.out; rw [hq]; exact H.out.drewN q
        have gr : Rd wr b B ys := by obtain ⟨q, hq⟩ := W.out; rw [hq]; exact G.out.drewN q
        obtain ⟨ad, p, x, rfl, hp, hb, hx, c0, c1⟩ := hr.at2 hlt
        obtain ⟨ad2, p2, y, rfl, hp2, hb2, hy, d0, d1⟩ := gr.at2 (show i < ys.length by omega)
        have X := Lib.hid hx
        have Y := Lib.hid hy
        clear hx hy hr gr
        by_cases hxy : x = y
        · obtain rfl := hxy
          have t0 := eq_pair x
          go_wp2_with fail
          go_quiet (fail)
          clear c0 d0 c1 d1 t0 hp hp2
          go_wp2
          go_roundg (xs.length - (i + 1))
          case measure => omega
          case rel =>
            refine ⟨i + 1, by go_num, by omega, Nat.le_refl _, (by obtain ⟨q, hq⟩ := W.out; exact ⟨q + nq, by rw [hq]; exact World.drewN_drewN ..⟩ : ∃ q, _), (show ∀ j, _ from fun j hj => ?_)⟩
            by_cases e : j = i
            · subst e; rw [X.out, Y.out]
            · exact I.out j (by omega)
        · have t0 := ne_pair x y hxy
          have E := Lib.hid hxy
          clear hxy
          go_wp2_with fail
          go_quiet (fail)
          clear c0 d0 c1 d1 t0 hp hp2
          go_wp2
          go_ret
          exact ⟨ret_bool (decide_eq_false (pref_ne X.out Y.out E.out)).symm, by obtain ⟨q, hq⟩ := W.out; exact ⟨q + nq, by rw [hq]; exact World.drewN_drewN ..⟩⟩
      · obtain rfl : i = xs.length := by omega
        go_wp2
        go_ret
        exact ⟨ret_bool (decide_eq_true (pref_all HL.out I.out)).symm, W.out⟩
  · have ht : ((xs.length : Int) != (ys.length : Int)) = true := by rw [bne_iff_ne]; omega
    have HL := Lib.hid hl
    clear hl
    go_enter Try.func77, Try.ntmps77
    go_wp2
    go_ret
    exact ⟨ret_bool (decide_eq_false fun e => HL.out (by rw [e])).symm, 0, rfl⟩

set_option maxHeartbeats 1000000 in
theorem requalP_any (A : Option Addr) (c : Nat) (xs : List Pr) (B : Option Addr) (d : Nat) (ys : List Pr) (b : Nat) (w : World) (h : Rd w b A xs) (g : Rd w b B ys) (hn : xs.length ≤ 1000000) (hm : ys.length ≤ 1000000) :
    Calls Try.prog 18 #[.slice A xs.length c, .slice B ys.length d] w fun e w' => e = .returned (.bool (decide (xs = ys))) ∧ ∃ q, w' = w.drewN q := by
  have H := Lib.hid h
  have G := Lib.hid g
  clear h g
  have mixed := mixedOrders
  by_cases hl : xs.length = ys.length
  · have ht : ((xs.length : Int) != (ys.length : Int)) = false := by rw [hl]; simp
    have ht2 : ((ys.length : Int) != (ys.length : Int)) = false := by simp
    have HL := Lib.hid hl
    clear hl
    go_enter Try.func18, Try.ntmps18
    go_wp2
    go_loopg [5] xs.length (fun kx s5 wr => ∃ i : Nat, s5 = .int .i64 i ∧ i ≤ xs.length ∧ xs.length - i ≤ kx ∧ Aside (∃ q, wr = w.drewN q) ∧ Aside (∀ j, j < i → xs[j]? = ys[j]?))
    case atStart => exact ⟨0, rfl, Nat.zero_le _, by omega, (⟨0, rfl⟩ : ∃ q, w = w.drewN q), (fun j hj => absurd hj (Nat.not_lt_zero _))⟩
    case round =>
      obtain ⟨i, rfl, hi, hkx, W, I⟩ := hrel
      by_cases hlt : i < xs.length
      · have hltz : (i : Int) < (xs.length : Int) := by omega
        have hltz2 : (i : Int) < (ys.length : Int) := by have := HL.out; omega
        have hr : Rd wr b A xs := by obtain ⟨q, hq⟩ := W.out; rw [hq]; exact H.out.drewN q
        have gr : Rd wr b B ys := by obtain ⟨q, hq⟩ := W.out; rw [hq]; exact G.out.drewN q
        obtain ⟨ad, p, x, rfl, hp, hb, hx, c0, c1⟩ := hr.at2 hlt
        obtain ⟨ad2, p2, y, rfl, hp2, hb2, hy, d0, d1⟩ := gr.at2 (show i < ys.length by omega)
        have X := Lib.hid hx
        have Y := Lib.hid hy
        clear hx hy hr gr
        by_cases hxy : x = y
        · obtain rfl := hxy
          have t0 := eq_pair x
          go_wp2_with fail
          go_quiet (fail)
          clear c0 d0 c1 d1 t0 hp hp2
          go_wp2
          go_roundg (xs.length - (i + 1))
          case measure => omega
          case rel =>
            refine ⟨i + 1, by go_num, by omega, Nat.le_refl _, (by obtain ⟨q, hq⟩ := W.out; exact ⟨q + nq, by rw [hq]; exact World.drewN_drewN ..⟩ : ∃ q, _), (show ∀ j, _ from fun j hj => ?_)⟩
            by_cases e : j = i
            · subst e; rw [X.out, Y.out]
            · exact I.out j (by omega)
        · have t0 := ne_pair x y hxy
          have E := Lib.hid hxy
          clear hxy
          go_wp2_with fail
          go_quiet (fail)
          clear c0 d0 c1 d1 t0 hp hp2
          go_wp2
          go_ret
          exact ⟨ret_bool (decide_eq_false (pref_ne X.out Y.out E.out)).symm, by obtain ⟨q, hq⟩ := W.out; exact ⟨q + nq, by rw [hq]; exact World.drewN_drewN ..⟩⟩
      · obtain rfl : i = xs.length := by omega
        go_wp2
        go_ret
        exact ⟨ret_bool (decide_eq_true (pref_all HL.out I.out)).symm, W.out⟩
  · have ht : ((xs.length : Int) != (ys.length : Int)) = true := by rw [bne_iff_ne]; omega
    have HL := Lib.hid hl
    clear hl
    go_enter Try.func18, Try.ntmps18
    go_wp2
    go_ret
    exact ⟨ret_bool (decide_eq_false fun e => HL.out (by rw [e])).symm, 0, rfl⟩

end Go.Proofs.Ytbknbjabkhhlfaa
/-
  The walks over lists that ask of each element: valid pairs, keys that are too long, numbers that are no node.
-/
set_option linter.unusedVariables false
set_option maxRecDepth 100000
namespace Go.Proofs.Ytbknbjabkhhlfaa
open Go.Shelf Go.RowKit Go.Lib Go.Sort
set_option maxHeartbeats 1000000 in
theorem pvalid_any (A : Option Addr) (c : Nat) (xs : List Pr) (B : Nat) (w : World) (h : Rd w B A xs) (hn : xs.length < 4611686018427387904) :
    Calls Try.prog 80 #[.slice A xs.length c] w fun e w' => e = .returned (.bool (validB xs)) ∧ ∃ q, w' = w.drewN q := by
  have H := Lib.hid h
  clear h
  have mixed := mixedOrders
  go_enter Try.func80, Try.ntmps80
  go_wp2
  go_loopg [3] xs.length (fun kx s3 wr => ∃ i : Nat, s3 = .int .i64 i ∧ 1 ≤ i ∧ (i ≤ xs.length ∨ i = 1) ∧ xs.length - i ≤ kx ∧ Aside (∃ q, wr = w.drewN q) ∧ Aside (∀ t x y, t + 1 < i → xs[t]? = some x → xs[t + 1]? = some y → kl x.1 y.1 = true))
  case atStart => exact ⟨1, rfl, Nat.le_refl _, .inr rfl, by omega, (⟨0, rfl⟩ : ∃ q, w = w.drewN q), (fun t x y ht => by omega)⟩
  case round =>
    obtain ⟨i, rfl, hi1, hil, hkx, W, I⟩ := hrel
    by_cases hlt : i < xs.length
    · have hltz : (i : Int) < (xs.length : Int) := by omega
      obtain ⟨j, rfl⟩ : ∃ j, i = j + 1 := ⟨i - 1, by omega⟩
      have hr : Rd wr B A xs := by obtain ⟨q, hq⟩ := W.out; rw [hq]; exact H.out.drewN q
      obtain ⟨ad, x, rfl, hb, hx, c0, c1⟩ := hr.at_ (show j < xs.length by omega)
      obtain ⟨ad', y, e, hb', hy, d0, d1⟩ := hr.at_ hlt
      obtain rfl : ad = ad' := by injection e
      have j1 : (j : Int) < (xs.length : Int) := by omega
      have j2 : (j : Int) + 1 < (xs.length : Int) := by omega
      have j4 : (0 : Int) ≤ (j : Int) + 1 := by omega
      have j5 : ((j : Int) + 1).toNat = j + 1 := by omega
      have j3 : IntKind.i64.wrap (j : Int) = (j : Int) := by rw [IntKind.wrap_i64]; omega
      have X := Lib.hid hx
      have Y := Lib.hid hy
      clear hx hy hr e
      by_cases hk : kl x.1 y.1 = true
      · have ht : Op.bytesLess x.1.toList y.1.toList = true := by rw [bl_kl]; exact hk
        have HK := Lib.hid hk
        clear hk
        go_wp2_with fail
        go_quiet (fail)
        clear c0 c1 d0 d1 ht j3 j5
        go_wp2
        go_roundg (xs.length - (j + 1 + 1))
        case measure => omega
        case rel =>
          refine ⟨j + 1 + 1, by go_num, by omega, .inl (by omega), Nat.le_refl _, (by obtain ⟨q, hq⟩ := W.out; exact ⟨q + nq, by rw [hq]; exact World.drewN_drewN ..⟩ : ∃ q, _), (fun t a b ht ha hb => ?_)⟩
          by_cases ht' : t + 1 < j + 1
          · exact I.out t a b ht' ha hb
          · obtain rfl : t = j := by omega
            rw [X.out] at ha
            rw [Y.out] at hb
            injection ha with ha
            injection hb with hb
            rw [← ha, ← hb]
            exact HK.out
      · have ht : Op.bytesLess x.1.toList y.1.toList = false := by rw [bl_kl]; simpa using hk
        have HK := Lib.hid hk
        clear hk
        go_wp2_with fail
        go_quiet (fail)
        clear c0 c1 d0 d1 ht j3 j5
        go_wp2
        go_ret
        refine ⟨ret_bool (validB_false fun ha => HK.out (adj_of_asc ha X.out Y.out)).symm, ?_⟩
        obtain ⟨q, hq⟩ := W.out
        exact ⟨q + nq, by rw [hq]; exact World.drewN_drewN ..⟩
    · go_wp2
      go_ret
      refine ⟨ret_bool (validB_true (asc_of_adj xs fun t x y hx hy => ?_)).symm, W.out⟩
      have := (List.getElem?_eq_some_iff.1 hy).1
      exact I.out t x y (by omega) hx hy

/-- Some key has more than 64 bytes. -/
def longK (k : ByteArray) : Bool := decide ((64 : Int) < (k.size : Int))
def longB (xs : List Pr) : Bool := xs.any fun p => longK p.1
/-- Some number is less than 1. -/
def lowK (z : Int) : Bool := decide (z < 1)
def lowB (zs : List Int) : Bool := zs.any lowK
theorem longB_true {xs : List Pr} {i : Nat} {x : Pr} (h : xs[i]? = some x) (hx : longK x.1 = true) : longB xs = true :=
  List.any_eq_true.2 ⟨x, List.mem_of_getElem? h, hx⟩
theorem longB_false {xs : List Pr} (h : ∀ j x, j < xs.length → xs[j]? = some x → longK x.1 = false) : longB xs = false := by
  rw [longB, List.any_eq_false]
  intro x hx
  obtain ⟨j, hj, e⟩ := List.getElem_of_mem hx
  have := h j x hj (by rw [List.getElem?_eq_getElem hj, e])
  rw [this]; simp
theorem lowB_true {zs : List Int} {i : Nat} {z : Int} (h : zs[i]? = some z) (hz : lowK z = true) : lowB zs = true :=
  List.any_eq_true.2 ⟨z, List.mem_of_getElem? h, hz⟩
theorem lowB_false {zs : List Int} (h : ∀ j z, j < zs.length → zs[j]? = some z → lowK z = false) : lowB zs = false := by
  rw [lowB, List.any_eq_false]
  intro x hx
  obtain ⟨j, hj, e⟩ := List.getElem_of_mem hx
  have := h j x hj (by rw [List.getElem?_eq_getElem hj, e])
  rw [this]; simp

theorem noNode_any (z : Int) (w : World) : Calls Try.prog 79 #[.int .i64 z] w fun e w' => e = .returned (.bool (lowK z)) ∧ w = w' := by
  go_enter Try.func79, Try.ntmps79
  go_wp2
  go_ret
  exact ⟨rfl, rfl⟩
theorem tooLong_any (x : Pr) (w : World) : Calls Try.prog 82 #[.agg #[.string x.1, .int .u64 x.2]] w fun e w' => e = .returned (.bool (longK x.1)) ∧ Gr w w' := by
  go_enter Try.func82, Try.ntmps82
  go_wp2
  go_ret
  exact ⟨rfl, (Gr.refl w).alloc _⟩

/-- An index, or -1. -/
def IdxPost (b : Bool) (w : World) (e : Ending) (w' : World) : Prop := ∃ r : Int, e = .returned (.int .i64 r) ∧ (decide (r ≥ 0)) = b ∧ Gr w w'

set_option maxHeartbeats 1000000 in
theorem idxR_any (A : Option Addr) (c : Nat) (xs : List Int) (b : Nat) (w : World) (h : RdR w b A xs) (hn : xs.length ≤ 1000000) :
    Calls Try.prog 65 #[.slice A xs.length c, .func (.func 79) #[] #[]] w (IdxPost (lowB xs) w) := by
  have H := Lib.hid h
  clear h
  go_enter Try.func65, Try.ntmps65
  go_wp2
  go_loopg [8] xs.length (fun kx s5 wr => ∃ i : Nat, s5 = .int .i64 i ∧ i ≤ xs.length ∧ xs.length - i ≤ kx ∧ w = wr ∧ Aside (∀ j z, j < i → xs[j]? = some z → lowK z = false))
  case atStart => exact ⟨0, rfl, Nat.zero_le _, by omega, rfl, (fun j z hj => absurd hj (Nat.not_lt_zero _))⟩
  case round =>
    obtain ⟨i, rfl, hi, hkx, rfl, I⟩ := hrel
    by_cases hlt : i < xs.length
    · have hltz : (i : Int) < (xs.length : Int) := by omega
      obtain ⟨ad, x, rfl, hb, hx, c0⟩ := H.out.at_ hlt
      have X := Lib.hid hx
      clear hx
      cases hz : lowK x with
      | true =>
        have HZ := Lib.hid hz
        go_wp2_with (go_at_call 79; refine (noNode_any _ _).mono ?_; rintro e w' ⟨rfl, rfl⟩)
        go_ret
        exact ⟨i, rfl, by rw [lowB_true X.out HZ.out]; simp, Gr.refl _⟩
      | false =>
        have HZ := Lib.hid hz
        go_wp2_with (go_at_call 79; refine (noNode_any _ _).mono ?_; rintro e w' ⟨rfl, rfl⟩)
        go_roundg (xs.length - (i + 1))
        case measure => omega
        case rel =>
          refine ⟨i + 1, by go_num, by omega, Nat.le_refl _, rfl, (show ∀ j z, _ from fun j z hj hx => ?_)⟩
          by_cases e : j = i
          · subst e; rw [X.out] at hx; injection hx with hx; rw [← hx]; exact HZ.out
          · exact I.out j z (by omega) hx
    · obtain rfl : i = xs.length := by omega
      go_wp2
      go_ret
      exact ⟨-1, rfl, by rw [lowB_false I.out]; simp, Gr.refl _⟩
theorem hasR_any (A : Option Addr) (c : Nat) (xs : List Int) (b : Nat) (w : World) (h : RdR w b A xs) (hn : xs.length ≤ 1000000) :
    Calls Try.prog 53 #[.slice A xs.length c, .func (.func 79) #[] #[]] w fun e w' => e = .returned (.bool (lowB xs)) ∧ Gr w w' := by
  have H := Lib.hid h
  clear h
  go_enter Try.func53, Try.ntmps53
  go_wp2_with (go_at_call 65; refine (idxR_any _ _ _ _ _ H.out hn).mono ?_; rintro e w' ⟨r, rfl, hr, hg⟩; have HR := Lib.hid hr; have HG := Lib.hid hg; clear hr hg)
  go_ret
  exact ⟨ret_bool HR.out, HG.out⟩

set_option maxHeartbeats 1000000 in
theorem idxP_any (A : Option Addr) (c : Nat) (xs : List Pr) (b : Nat) (w : World) (h : Rd w b A xs) (hb : b ≤ w.heap.size) (hn : xs.length ≤ 1000000) :
    Calls Try.prog 87 #[.slice A xs.length c, .func (.func 82) #[] #[]] w (IdxPost (longB xs) w) := by
  have H := Lib.hid h
  have HB := Lib.hid hb
  clear h hb
  go_enter Try.func87, Try.ntmps87
  go_wp2
  go_loopg [8] xs.length (fun kx s5 wr => ∃ i : Nat, s5 = .int .i64 i ∧ i ≤ xs.length ∧ xs.length - i ≤ kx ∧ Aside (Gr w wr) ∧ Aside (∀ j (z : Pr), j < i → xs[j]? = some z → longK z.1 = false))
  case atStart => exact ⟨0, rfl, Nat.zero_le _, by omega, Gr.refl _, (fun j z hj => absurd hj (Nat.not_lt_zero _))⟩
  case round =>
    obtain ⟨i, rfl, hi, hkx, G, I⟩ := hrel
    by_cases hlt : i < xs.length
    · have hltz : (i : Int) < (xs.length : Int) := by omega
      have hr : Rd wr b A xs := H.out.gr HB.out G.out
      obtain ⟨ad, p, x, rfl, hp, hb, hx, c0, c1⟩ := hr.at2 hlt
      have X := Lib.hid hx
      clear hx hr
      cases hz : longK x.1 with
      | true =>
        have HZ := Lib.hid hz
        go_wp2_with (go_at_call 82; refine (tooLong_any x _).mono ?_; rintro e w' ⟨rfl, hg⟩; have G2 := Lib.hid hg; clear hg)
        go_ret
        exact ⟨i, rfl, by rw [longB_true X.out HZ.out]; simp, G.out.trans G2.out⟩
      | false =>
        have HZ := Lib.hid hz
        go_wp2_with (go_at_call 82; refine (tooLong_any x _).mono ?_; rintro e w' ⟨rfl, hg⟩; have G2 := Lib.hid hg; clear hg)
        go_roundg (xs.length - (i + 1))
        case measure => omega
        case rel =>
          refine ⟨i + 1, by go_num, by omega, Nat.le_refl _, G.out.trans G2.out, (show ∀ j (z : Pr), _ from fun j z hj hx => ?_)⟩
          by_cases e : j = i
          · subst e; rw [X.out] at hx; injection hx with hx; rw [← hx]; exact HZ.out
          · exact I.out j z (by omega) hx
    · obtain rfl : i = xs.length := by omega
      go_wp2
      go_ret
      exact ⟨-1, rfl, by rw [longB_false I.out]; simp, G.out⟩
theorem hasP_any (A : Option Addr) (c : Nat) (xs : List Pr) (b : Nat) (w : World) (h : Rd w b A xs) (hb : b ≤ w.heap.size) (hn : xs.length ≤ 1000000) :
    Calls Try.prog 81 #[.slice A xs.length c, .func (.func 82) #[] #[]] w fun e w' => e = .returned (.bool (longB xs)) ∧ Gr w w' := by
  have H := Lib.hid h
  go_enter Try.func81, Try.ntmps81
  go_wp2_with (go_at_call 87; refine (idxP_any _ _ _ _ _ H.out hb hn).mono ?_; rintro e w' ⟨r, rfl, hr, hg⟩; have HR := Lib.hid hr; have HG := Lib.hid hg; clear hr hg)
  go_ret
  exact ⟨ret_bool HR.out, HG.out⟩

end Go.Proofs.Ytbknbjabkhhlfaa
