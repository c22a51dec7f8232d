/-
  The walks that compare lists: of refs and of pairs, in the library, in the reference.
-/
import Derived.Test.YtcmnmimkjkpimaaLMemR
set_option linter.unusedVariables false
set_option maxRecDepth 100000
namespace Go.Proofs.Ytcmnmimkjkpimaa
open Go.Shelf Go.RowKit Go.Lib Go.Sort

theorem mixedOrders : Try.prog.follows .mixedOrders = true := by kernel_rfl

theorem eq_pair (x : Pr) (w : World) : (Op.equalIn 10000 66 (.agg #[.string x.1, .int .u64 x.2]) (.agg #[.string x.1, .int .u64 x.2])).run Try.prog w = .ok true w := by
  have hS : Try.prog.underlying 66 = some (.struct (Try.prog.fieldsOf 66)) := by kernel_rfl
  have hp : Try.prog.stoodInHeld 66 = false := by kernel_rfl
  have a9 := Try.isAgg9; have z9 := Try.sizeOf9; have u9 := Try.underlying9
  have a24 := Try.isAgg40; have z24 := Try.sizeOf40; have u24 := Try.underlying40
  rw [show (10000 : Nat) = 9999 + 1 from rfl, run_equalIn_agg w 9999 66 _ _ hS hp]
  simp only [Program.fieldsOf, Try.underlying66]
  go_simp
theorem ne_pair (x y : Pr) (h : x ≠ y) (w : World) : (Op.equalIn 10000 66 (.agg #[.string x.1, .int .u64 x.2]) (.agg #[.string y.1, .int .u64 y.2])).run Try.prog w = .ok false w := by
  have hS : Try.prog.underlying 66 = some (.struct (Try.prog.fieldsOf 66)) := by kernel_rfl
  have hp : Try.prog.stoodInHeld 66 = false := by kernel_rfl
  have a9 := Try.isAgg9; have z9 := Try.sizeOf9; have u9 := Try.underlying9
  have a24 := Try.isAgg40; have z24 := Try.sizeOf40; have u24 := Try.underlying40
  rw [show (10000 : Nat) = 9999 + 1 from rfl, run_equalIn_agg w 9999 66 _ _ hS hp]
  simp only [Program.fieldsOf, Try.underlying66]
  by_cases h1 : x.1 = y.1
  · have h2 : (x.2 == y.2) = false := by rw [beq_eq_false_iff_ne]; exact fun e => h (Prod.ext h1 e)
    rw [h1]
    go_simp
  · have h2 : (x.1.toList == y.1.toList) = false := by rw [beq_eq_false_iff_ne, Lib.toList_data, Lib.toList_data]; exact fun e => h1 (key_ext e)
    go_simp

theorem pref_ne {α : Type} {xs ys : List α} {i : Nat} {x y : α} (hx : xs[i]? = some x) (hy : ys[i]? = some y) (h : x ≠ y) : xs ≠ ys := by
  rintro rfl
  rw [hx] at hy
  injection hy with e
  exact h e
theorem pref_all {α : Type} {xs ys : List α} (hl : xs.length = ys.length) (h : ∀ j, j < xs.length → xs[j]? = ys[j]?) : xs = ys := by
  apply List.ext_getElem?
  intro j
  by_cases hj : j < xs.length
  · exact h j hj
  · rw [List.getElem?_eq_none (by omega), List.getElem?_eq_none (by omega)]

set_option maxHeartbeats 2000000 in
theorem sequalR_any (A : Option Addr) (c : Nat) (xs : List Int) (B : Option Addr) (d : Nat) (ys : List Int) (b : Nat) (w : World) (h : RdR w b A xs) (g : RdR w b B ys) (hn : xs.length ≤ 2000000) (hm : ys.length ≤ 2000000) :
    Calls Try.prog 74 #[.slice A xs.length c, .slice B ys.length d] w fun e w' => e = .returned (.bool (decide (xs = ys))) ∧ ∃ q, w' = w.drewN q := by
  have H := Lib.hid h
  have G := Lib.hid g
  clear h g
  have mixed := mixedOrders
  by_cases hl : xs.length = ys.length
  · have ht : ((xs.length : Int) != (ys.length : Int)) = false := by rw [hl]; simp
    have ht2 : ((ys.length : Int) != (ys.length : Int)) = false := by simp
    have HL := Lib.hid hl
    clear hl
    go_enter Try.func74, Try.ntmps74
    go_wp2
    go_loopg [13] xs.length (fun kx s5 wr => ∃ i : Nat, s5 = .int .i64 i ∧ i ≤ xs.length ∧ xs.length - i ≤ kx ∧ Aside (∃ q, wr = w.drewN q) ∧ Aside (∀ j, j < i → xs[j]? = ys[j]?))
    case atStart => exact ⟨0, rfl, Nat.zero_le _, by omega, (⟨0, rfl⟩ : ∃ q, w = w.drewN q), (fun j hj => absurd hj (Nat.not_lt_zero _))⟩
    case round =>
      obtain ⟨i, rfl, hi, hkx, W, I⟩ := hrel
      by_cases hlt : i < xs.length
      · have hltz : (i : Int) < (xs.length : Int) := by omega
        have hltz2 : (i : Int) < (ys.length : Int) := by have := HL.out; omega
        have hr : RdR wr b A xs := by obtain ⟨q, hq⟩ := W.out; rw [hq]; exact H.out.drewN q
        have gr : RdR wr b B ys := by obtain ⟨q, hq⟩ := W.out; rw [hq]; exact G.out.drewN q
        obtain ⟨ad, x, rfl, hb, hx, c0⟩ := hr.at_ hlt
        obtain ⟨ad2, y, rfl, hb2, hy, d0⟩ := gr.at_ (show i < ys.length by omega)
        have X := Lib.hid hx
        have Y := Lib.hid hy
        clear hx hy hr gr
        by_cases hxy : x = y
        · have t0 : (x != y) = false := by simp [hxy]
          have E := Lib.hid hxy
          clear hxy
          go_wp2_with fail
          go_quiet (fail)
          clear c0 d0 t0
          go_wp2
          go_roundg (xs.length - (i + 1))
          case measure => omega
          case rel =>
            refine ⟨i + 1, by go_num, by omega, Nat.le_refl _, (by obtain ⟨q, hq⟩ := W.out; exact ⟨q + nq, by rw [hq]; exact World.drewN_drewN ..⟩ : ∃ q, _), (show ∀ j, _ from fun j hj => ?_)⟩
            by_cases e : j = i
            · subst e; rw [X.out, Y.out, E.out]
            · exact I.out j (by omega)
        · have t0 : (x != y) = true := by simp [hxy]
          have E := Lib.hid hxy
          clear hxy
          go_wp2_with fail
          go_quiet (fail)
          clear c0 d0 t0
          go_wp2
          go_ret
          exact ⟨ret_bool (decide_eq_false (pref_ne X.out Y.out E.out)).symm, by obtain ⟨q, hq⟩ := W.out; exact ⟨q + nq, by rw [hq]; exact World.drewN_drewN ..⟩⟩
      · obtain rfl : i = xs.length := by omega
        go_wp2
        go_ret
        exact ⟨ret_bool (decide_eq_true (pref_all HL.out I.out)).symm, W.out⟩
  · have ht : ((xs.length : Int) != (ys.length : Int)) = true := by rw [bne_iff_ne]; omega
    have HL := Lib.hid hl
    clear hl
    go_enter Try.func74, Try.ntmps74
    go_wp2
    go_ret
    exact ⟨ret_bool (decide_eq_false fun e => HL.out (by rw [e])).symm, 0, rfl⟩

set_option maxHeartbeats 2000000 in
theorem requalR_any (A : Option Addr) (c : Nat) (xs : List Int) (B : Option Addr) (d : Nat) (ys : List Int) (b : Nat) (w : World) (h : RdR w b A xs) (g : RdR w b B ys) (hn : xs.length ≤ 2000000) (hm : ys.length ≤ 2000000) :
    Calls Try.prog 48 #[.slice A xs.length c, .slice B ys.length d] w fun e w' => e = .returned (.bool (decide (xs = ys))) ∧ ∃ q, w' = w.drewN q := by
  have H := Lib.hid h
  have G := Lib.hid g
  clear h g
  have mixed := mixedOrders
  by_cases hl : xs.length = ys.length
  · have ht : ((xs.length : Int) != (ys.length : Int)) = false := by rw [hl]; simp
    have ht2 : ((ys.length : Int) != (ys.length : Int)) = false := by simp
    have HL := Lib.hid hl
    clear hl
    go_enter Try.func48, Try.ntmps48
    go_wp2
    go_loopg [5] xs.length (fun kx s5 wr => ∃ i : Nat, s5 = .int .i64 i ∧ i ≤ xs.length ∧ xs.length - i ≤ kx ∧ Aside (∃ q, wr = w.drewN q) ∧ Aside (∀ j, j < i → xs[j]? = ys[j]?))
    case atStart => exact ⟨0, rfl, Nat.zero_le _, by omega, (⟨0, rfl⟩ : ∃ q, w = w.drewN q), (fun j hj => absurd hj (Nat.not_lt_zero _))⟩
    case round =>
      obtain ⟨i, rfl, hi, hkx, W, I⟩ := hrel
      by_cases hlt : i < xs.length
      · have hltz : (i : Int) < (xs.length : Int) := by omega
        have hltz2 : (i : Int) < (ys.length : Int) := by have := HL.out; omega
        have hr : RdR wr b A xs := by obtain ⟨q, hq⟩ := W.out; rw [hq]; exact H.out.drewN q
        have gr : RdR wr b B ys := by obtain ⟨q, hq⟩ := W.out; rw [hq]; exact G.out.drewN q
        obtain ⟨ad, x, rfl, hb, hx, c0⟩ := hr.at_ hlt
        obtain ⟨ad2, y, rfl, hb2, hy, d0⟩ := gr.at_ (show i < ys.length by omega)
        have X := Lib.hid hx
        have Y := Lib.hid hy
        clear hx hy hr gr
        by_cases hxy : x = y
        · have t0 : (x != y) = false := by simp [hxy]
          have E := Lib.hid hxy
          clear hxy
          go_wp2_with fail
          go_quiet (fail)
          clear c0 d0 t0
          go_wp2
          go_roundg (xs.length - (i + 1))
          case measure => omega
          case rel =>
            refine ⟨i + 1, by go_num, by omega, Nat.le_refl _, (by obtain ⟨q, hq⟩ := W.out; exact ⟨q + nq, by rw [hq]; exact World.drewN_drewN ..⟩ : ∃ q, _), (show ∀ j, _ from fun j hj => ?_)⟩
            by_cases e : j = i
            · subst e; rw [X.out, Y.out, E.out]
            · exact I.out j (by omega)
        · have t0 : (x != y) = true := by simp [hxy]
          have E := Lib.hid hxy
          clear hxy
          go_wp2_with fail
          go_quiet (fail)
          clear c0 d0 t0
          go_wp2
          go_ret
          exact ⟨ret_bool (decide_eq_false (pref_ne X.out Y.out E.out)).symm, by obtain ⟨q, hq⟩ := W.out; exact ⟨q + nq, by rw [hq]; exact World.drewN_drewN ..⟩⟩
      · obtain rfl : i = xs.length := by omega
        go_wp2
        go_ret
        exact ⟨ret_bool (decide_eq_true (pref_all HL.out I.out)).symm, W.out⟩
  · have ht : ((xs.length : Int) != (ys.length : Int)) = true := by rw [bne_iff_ne]; omega
    have HL := Lib.hid hl
    clear hl
    go_enter Try.func48, Try.ntmps48
    go_wp2
    go_ret
    exact ⟨ret_bool (decide_eq_false fun e => HL.out (by rw [e])).symm, 0, rfl⟩

set_option maxHeartbeats 2000000 in
theorem sequalP_any (A : Option Addr) (c : Nat) (xs : List Pr) (B : Option Addr) (d : Nat) (ys : List Pr) (b : Nat) (w : World) (h : Rd w b A xs) (g : Rd w b B ys) (hn : xs.length ≤ 2000000) (hm : ys.length ≤ 2000000) :
    Calls Try.prog 75 #[.slice A xs.length c, .slice B ys.length d] w fun e w' => e = .returned (.bool (decide (xs = ys))) ∧ ∃ q, w' = w.drewN q := by
  have H := Lib.hid h
  have G := Lib.hid g
  clear h g
  have mixed := mixedOrders
  by_cases hl : xs.length = ys.length
  · have ht : ((xs.length : Int) != (ys.length : Int)) = false := by rw [hl]; simp
    have ht2 : ((ys.length : Int) != (ys.length : Int)) = false := by simp
    have HL := Lib.hid hl
    clear hl
    go_enter Try.func75, Try.ntmps75
    go_wp2
    go_loopg [13] xs.length (fun kx s5 wr => ∃ i : Nat, s5 = .int .i64 i ∧ i ≤ xs.length ∧ xs.length - i ≤ kx ∧ Aside (∃ q, wr = w.drewN q) ∧ Aside (∀ j, j < i → xs[j]? = ys[j]?))
    case atStart => exact ⟨0, rfl, Nat.zero_le _, by omega, (⟨0, rfl⟩ : ∃ q, w = w.drewN q), (fun j hj => absurd hj (Nat.not_lt_zero _))⟩
    case round =>
      obtain ⟨i, rfl, hi, hkx, W, I⟩ := hrel
      by_cases hlt : i < xs.length
      · have hltz : (i : Int) < (xs.length : Int) := by omega
        have hltz2 : (i : Int) < (ys.length : Int) := by have := HL.out; omega
        have hr : Rd wr b A xs := by obtain ⟨q, hq⟩ := W.out; rw [hq]; exact H.out.drewN q
        have gr : Rd wr b B ys := by obtain ⟨q, hq⟩ := W.out; rw [hq]; exact G.out.drewN q
        obtain ⟨ad, p, x, rfl, hp, hb, hx, c0, c1⟩ := hr.at2 hlt
        obtain ⟨ad2, p2, y, rfl, hp2, hb2, hy, d0, d1⟩ := gr.at2 (show i < ys.length by omega)
        have X := Lib.hid hx
        have Y := Lib.hid hy
        clear hx hy hr gr
        by_cases hxy : x = y
        · obtain rfl := hxy
          have t0 := eq_pair x
          go_wp2_with fail
          go_quiet (fail)
          clear c0 d0 c1 d1 t0 hp hp2
          go_wp2
          go_roundg (xs.length - (i + 1))
          case measure => omega
          case rel =>
            refine ⟨i + 1, by go_num, by omega, Nat.le_refl _, (by obtain ⟨q, hq⟩ := W.out; exact ⟨q + nq, by rw [hq]; exact World.drewN_drewN ..⟩ : ∃ q, _), (show ∀ j, _ from fun j hj => ?_)⟩
            by_cases e : j = i
            · subst e; rw [X.out, Y.out]
            · exact I.out j (by omega)
        · have t0 := ne_pair x y hxy
          have E := Lib.hid hxy
          clear hxy
          go_wp2_with fail
          go_quiet (fail)
          clear c0 d0 c1 d1 t0 hp hp2
          go_wp2
          go_ret
          exact ⟨ret_bool (decide_eq_false (pref_ne X.out Y.out E.out)).symm, by obtain ⟨q, hq⟩ := W.out; exact ⟨q + nq, by rw [hq]; exact World.drewN_drewN ..⟩⟩
      · obtain rfl : i = xs.length := by omega
        go_wp2
        go_ret
        exact ⟨ret_bool (decide_eq_true (pref_all HL.out I.out)).symm, W.out⟩
  · have ht : ((xs.length : Int) != (ys.length : Int)) = true := by rw [bne_iff_ne]; omega
    have HL := Lib.hid hl
    clear hl
    go_enter Try.func75, Try.ntmps75
    go_wp2
    go_ret
    exact ⟨ret_bool (decide_eq_false fun e => HL.out (by rw [e])).symm, 0, rfl⟩

set_option maxHeartbeats 2000000 in
theorem requalP_any (A : Option Addr) (c : Nat) (xs : List Pr) (B : Option Addr) (d : Nat) (ys : List Pr) (b : Nat) (w : World) (h : Rd w b A xs) (g : Rd w b B ys) (hn : xs.length ≤ 2000000) (hm : ys.length ≤ 2000000) :
    Calls Try.prog 51 #[.slice A xs.length c, .slice B ys.length d] w fun e w' => e = .returned (.bool (decide (xs = ys))) ∧ ∃ q, w' = w.drewN q := by
  have H := Lib.hid h
  have G := Lib.hid g
  clear h g
  have mixed := mixedOrders
  by_cases hl : xs.length = ys.length
  · have ht : ((xs.length : Int) != (ys.length : Int)) = false := by rw [hl]; simp
    have ht2 : ((ys.length : Int) != (ys.length : Int)) = false := by simp
    have HL := Lib.hid hl
    clear hl
    go_enter Try.func51, Try.ntmps51
    go_wp2
    go_loopg [5] xs.length (fun kx s5 wr => ∃ i : Nat, s5 = .int .i64 i ∧ i ≤ xs.length ∧ xs.length - i ≤ kx ∧ Aside (∃ q, wr = w.drewN q) ∧ Aside (∀ j, j < i → xs[j]? = ys[j]?))
    case atStart => exact ⟨0, rfl, Nat.zero_le _, by omega, (⟨0, rfl⟩ : ∃ q, w = w.drewN q), (fun j hj => absurd hj (Nat.not_lt_zero _))⟩
    case round =>
      obtain ⟨i, rfl, hi, hkx, W, I⟩ := hrel
      by_cases hlt : i < xs.length
      · have hltz : (i : Int) < (xs.length : Int) := by omega
        have hltz2 : (i : Int) < (ys.length : Int) := by have := HL.out; omega
        have hr : Rd wr b A xs := by obtain ⟨q, hq⟩ := W.out; rw [hq]; exact H.out.drewN q
        have gr : Rd wr b B ys := by obtain ⟨q, hq⟩ := W.out; rw [hq]; exact G.out.drewN q
        obtain ⟨ad, p, x, rfl, hp, hb, hx, c0, c1⟩ := hr.at2 hlt
        obtain ⟨ad2, p2, y, rfl, hp2, hb2, hy, d0, d1⟩ := gr.at2 (show i < ys.length by omega)
        have X := Lib.hid hx
        have Y := Lib.hid hy
        clear hx hy hr gr
        by_cases hxy : x = y
        · obtain rfl := hxy
          have t0 := eq_pair x
          go_wp2_with fail
          go_quiet (fail)
          clear c0 d0 c1 d1 t0 hp hp2
          go_wp2
          go_roundg (xs.length - (i + 1))
          case measure => omega
          case rel =>
            refine ⟨i + 1, by go_num, by omega, Nat.le_refl _, (by obtain ⟨q, hq⟩ := W.out; exact ⟨q + nq, by rw [hq]; exact World.drewN_drewN ..⟩ : ∃ q, _), (show ∀ j, _ from fun j hj => ?_)⟩
            by_cases e : j = i
            · subst e; rw [X.out, Y.out]
            · exact I.out j (by omega)
        · have t0 := ne_pair x y hxy
          have E := Lib.hid hxy
          clear hxy
          go_wp2_with fail
          go_quiet (fail)
          clear c0 d0 c1 d1 t0 hp hp2
          go_wp2
          go_ret
          exact ⟨ret_bool (decide_eq_false (pref_ne X.out Y.out E.out)).symm, by obtain ⟨q, hq⟩ := W.out; exact ⟨q + nq, by rw [hq]; exact World.drewN_drewN ..⟩⟩
      · obtain rfl : i = xs.length := by omega
        go_wp2
        go_ret
        exact ⟨ret_bool (decide_eq_true (pref_all HL.out I.out)).symm, W.out⟩
  · have ht : ((xs.length : Int) != (ys.length : Int)) = true := by rw [bne_iff_ne]; omega
    have HL := Lib.hid hl
    clear hl
    go_enter Try.func51, Try.ntmps51
    go_wp2
    go_ret
    exact ⟨ret_bool (decide_eq_false fun e => HL.out (by rw [e])).symm, 0, rfl⟩

end Go.Proofs.Ytcmnmimkjkpimaa
