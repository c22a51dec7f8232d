/-
  The walks over lists that ask of each element: valid pairs, keys that are too long, numbers that are no node.
-/
import Derived.Test.YtcmnmimkjkpimaaLWalksB
set_option linter.unusedVariables false
set_option maxRecDepth 100000
namespace Go.Proofs.Ytcmnmimkjkpimaa
open Go.Shelf Go.RowKit Go.Lib Go.Sort
set_option maxHeartbeats 2000000 in
theorem pvalid_any (A : Option Addr) (c : Nat) (xs : List Pr) (B : Nat) (w : World) (h : Rd w B A xs) (hn : xs.length < 4611686018427387904) :
    Calls Try.prog 78 #[.slice A xs.length c] w fun e w' => e = .returned (.bool (validB xs)) ∧ ∃ q, w' = w.drewN q := by
  have H := Lib.hid h
  clear h
  have mixed := mixedOrders
  go_enter Try.func78, Try.ntmps78
  go_wp2
  go_loopg [3] xs.length (fun kx s3 wr => ∃ i : Nat, s3 = .int .i64 i ∧ 1 ≤ i ∧ (i ≤ xs.length ∨ i = 1) ∧ xs.length - i ≤ kx ∧ Aside (∃ q, wr = w.drewN q) ∧ Aside (∀ t x y, t + 1 < i → xs[t]? = some x → xs[t + 1]? = some y → kl x.1 y.1 = true))
  case atStart => exact ⟨1, rfl, Nat.le_refl _, .inr rfl, by omega, (⟨0, rfl⟩ : ∃ q, w = w.drewN q), (fun t x y ht => by omega)⟩
  case round =>
    obtain ⟨i, rfl, hi1, hil, hkx, W, I⟩ := hrel
    by_cases hlt : i < xs.length
    · have hltz : (i : Int) < (xs.length : Int) := by omega
      obtain ⟨j, rfl⟩ : ∃ j, i = j + 1 := ⟨i - 1, by omega⟩
      have hr : Rd wr B A xs := by obtain ⟨q, hq⟩ := W.out; rw [hq]; exact H.out.drewN q
      obtain ⟨ad, x, rfl, hb, hx, c0, c1⟩ := hr.at_ (show j < xs.length by omega)
      obtain ⟨ad', y, e, hb', hy, d0, d1⟩ := hr.at_ hlt
      obtain rfl : ad = ad' := by injection e
      have j1 : (j : Int) < (xs.length : Int) := by omega
      have j2 : (j : Int) + 1 < (xs.length : Int) := by omega
      have j4 : (0 : Int) ≤ (j : Int) + 1 := by omega
      have j5 : ((j : Int) + 1).toNat = j + 1 := by omega
      have j3 : IntKind.i64.wrap (j : Int) = (j : Int) := by rw [IntKind.wrap_i64]; omega
      have X := Lib.hid hx
      have Y := Lib.hid hy
      clear hx hy hr e
      by_cases hk : kl x.1 y.1 = true
      · have ht : Op.bytesLess x.1.toList y.1.toList = true := by rw [bl_kl]; exact hk
        have HK := Lib.hid hk
        clear hk
        go_wp2_with fail
        go_quiet (fail)
        clear c0 c1 d0 d1 ht j3 j5
        go_wp2
        go_roundg (xs.length - (j + 1 + 1))
        case measure => omega
        case rel =>
          refine ⟨j + 1 + 1, by go_num, by omega, .inl (by omega), Nat.le_refl _, (by obtain ⟨q, hq⟩ := W.out; exact ⟨q + nq, by rw [hq]; exact World.drewN_drewN ..⟩ : ∃ q, _), (fun t a b ht ha hb => ?_)⟩
          by_cases ht' : t + 1 < j + 1
          · exact I.out t a b ht' ha hb
          · obtain rfl : t = j := by omega
            rw [X.out] at ha
            rw [Y.out] at hb
            injection ha with ha
            injection hb with hb
            rw [← ha, ← hb]
            exact HK.out
      · have ht : Op.bytesLess x.1.toList y.1.toList = false := by rw [bl_kl]; simpa using hk
        have HK := Lib.hid hk
        clear hk
        go_wp2_with fail
        go_quiet (fail)
        clear c0 c1 d0 d1 ht j3 j5
        go_wp2
        go_ret
        refine ⟨ret_bool (validB_false fun ha => HK.out (adj_of_asc ha X.out Y.out)).symm, ?_⟩
        obtain ⟨q, hq⟩ := W.out
        exact ⟨q + nq, by rw [hq]; exact World.drewN_drewN ..⟩
    · go_wp2
      go_ret
      refine ⟨ret_bool (validB_true (asc_of_adj xs fun t x y hx hy => ?_)).symm, W.out⟩
      have := (List.getElem?_eq_some_iff.1 hy).1
      exact I.out t x y (by omega) hx hy

set_option maxHeartbeats 2000000 in
theorem prvalid_any (A : Option Addr) (c : Nat) (xs : List Pr) (B : Nat) (w : World) (h : Rd w B A xs) (hn : xs.length < 4611686018427387904) :
    Calls Try.prog 62 #[.slice A xs.length c] w fun e w' => e = .returned (.bool (validB xs)) ∧ ∃ q, w' = w.drewN q := by
  have H := Lib.hid h
  clear h
  have mixed := mixedOrders
  go_enter Try.func62, Try.ntmps62
  go_wp2
  go_loopg [3] xs.length (fun kx s3 wr => ∃ i : Nat, s3 = .int .i64 i ∧ 1 ≤ i ∧ (i ≤ xs.length ∨ i = 1) ∧ xs.length - i ≤ kx ∧ Aside (∃ q, wr = w.drewN q) ∧ Aside (∀ t x y, t + 1 < i → xs[t]? = some x → xs[t + 1]? = some y → kl x.1 y.1 = true))
  case atStart => exact ⟨1, rfl, Nat.le_refl _, .inr rfl, by omega, (⟨0, rfl⟩ : ∃ q, w = w.drewN q), (fun t x y ht => by omega)⟩
  case round =>
    obtain ⟨i, rfl, hi1, hil, hkx, W, I⟩ := hrel
    by_cases hlt : i < xs.length
    · have hltz : (i : Int) < (xs.length : Int) := by omega
      obtain ⟨j, rfl⟩ : ∃ j, i = j + 1 := ⟨i - 1, by omega⟩
      have hr : Rd wr B A xs := by obtain ⟨q, hq⟩ := W.out; rw [hq]; exact H.out.drewN q
      obtain ⟨ad, x, rfl, hb, hx, c0, c1⟩ := hr.at_ (show j < xs.length by omega)
      obtain ⟨ad', y, e, hb', hy, d0, d1⟩ := hr.at_ hlt
      obtain rfl : ad = ad' := by injection e
      have j1 : (j : Int) < (xs.length : Int) := by omega
      have j2 : (j : Int) + 1 < (xs.length : Int) := by omega
      have j4 : (0 : Int) ≤ (j : Int) + 1 := by omega
      have j5 : ((j : Int) + 1).toNat = j + 1 := by omega
      have j3 : IntKind.i64.wrap (j : Int) = (j : Int) := by rw [IntKind.wrap_i64]; omega
      have X := Lib.hid hx
      have Y := Lib.hid hy
      clear hx hy hr e
      by_cases hk : kl x.1 y.1 = true
      · have ht : Op.bytesLess y.1.toList x.1.toList = false := by rw [bl_kl]; exact kl_asymm hk
        have ht2 : (y.1.toList == x.1.toList) = false := by rw [beq_eq_false_iff_ne, Lib.toList_data, Lib.toList_data]; exact fun e => kl_ne hk (key_ext e).symm
        have HK := Lib.hid hk
        clear hk
        go_wp2_with fail
        go_quiet (fail)
        clear c0 c1 d0 d1 ht j3 j5
        go_wp2
        go_roundg (xs.length - (j + 1 + 1))
        case measure => omega
        case rel =>
          refine ⟨j + 1 + 1, by go_num, by omega, .inl (by omega), Nat.le_refl _, (by obtain ⟨q, hq⟩ := W.out; exact ⟨q + nq, by rw [hq]; exact World.drewN_drewN ..⟩ : ∃ q, _), (fun t a b ht ha hb => ?_)⟩
          by_cases ht' : t + 1 < j + 1
          · exact I.out t a b ht' ha hb
          · obtain rfl : t = j := by omega
            rw [X.out] at ha
            rw [Y.out] at hb
            injection ha with ha
            injection hb with hb
            rw [← ha, ← hb]
            exact HK.out
      · have HK := Lib.hid hk
        have hk' : kl x.1 y.1 = false := by simpa using hk
        by_cases hk2 : kl y.1 x.1 = true
        · have ht : Op.bytesLess y.1.toList x.1.toList = true := by rw [bl_kl]; exact hk2
          clear hk hk' hk2
          go_wp2_with fail
          go_quiet (fail)
          clear c0 c1 d0 d1 ht j3 j5
          go_wp2
          go_ret
          refine ⟨ret_bool (validB_false fun ha => HK.out (adj_of_asc ha X.out Y.out)).symm, ?_⟩
          obtain ⟨q, hq⟩ := W.out
          exact ⟨q + nq, by rw [hq]; exact World.drewN_drewN ..⟩
        · have ht : Op.bytesLess y.1.toList x.1.toList = false := by rw [bl_kl]; simpa using hk2
          have ht2 : (y.1.toList == x.1.toList) = true := by rw [kl_eq hk' (by simpa using hk2)]; exact beq_self_eq_true _
          clear hk hk' hk2
          go_wp2_with fail
          go_quiet (fail)
          clear c0 c1 d0 d1 ht ht2 j3 j5
          go_wp2
          go_ret
          refine ⟨ret_bool (validB_false fun ha => HK.out (adj_of_asc ha X.out Y.out)).symm, ?_⟩
          obtain ⟨q, hq⟩ := W.out
          exact ⟨q + nq, by rw [hq]; exact World.drewN_drewN ..⟩
    · go_wp2
      go_ret
      refine ⟨ret_bool (validB_true (asc_of_adj xs fun t x y hx hy => ?_)).symm, W.out⟩
      have := (List.getElem?_eq_some_iff.1 hy).1
      exact I.out t x y (by omega) hx hy


/-- Some key has more than 64 bytes. -/
def longK (k : ByteArray) : Bool := decide ((64 : Int) < (k.size : Int))
def longB (xs : List Pr) : Bool := xs.any fun p => longK p.1
/-- Some number is less than 1. -/
def lowK (z : Int) : Bool := decide (z < 1)
def lowB (zs : List Int) : Bool := zs.any lowK
theorem longB_true {xs : List Pr} {i : Nat} {x : Pr} (h : xs[i]? = some x) (hx : longK x.1 = true) : longB xs = true :=
  List.any_eq_true.2 ⟨x, List.mem_of_getElem? h, hx⟩
theorem longB_false {xs : List Pr} (h : ∀ j x, j < xs.length → xs[j]? = some x → longK x.1 = false) : longB xs = false := by
  rw [longB, List.any_eq_false]
  intro x hx
  obtain ⟨j, hj, e⟩ := List.getElem_of_mem hx
  have := h j x hj (by rw [List.getElem?_eq_getElem hj, e])
  rw [this]; simp
theorem lowB_true {zs : List Int} {i : Nat} {z : Int} (h : zs[i]? = some z) (hz : lowK z = true) : lowB zs = true :=
  List.any_eq_true.2 ⟨z, List.mem_of_getElem? h, hz⟩
theorem lowB_false {zs : List Int} (h : ∀ j z, j < zs.length → zs[j]? = some z → lowK z = false) : lowB zs = false := by
  rw [lowB, List.any_eq_false]
  intro x hx
  obtain ⟨j, hj, e⟩ := List.getElem_of_mem hx
  have := h j x hj (by rw [List.getElem?_eq_getElem hj, e])
  rw [this]; simp

theorem noNode_any (z : Int) (w : World) : Calls Try.prog 77 #[.int .i64 z] w fun e w' => e = .returned (.bool (lowK z)) ∧ w = w' := by
  go_enter Try.func77, Try.ntmps77
  go_wp2
  go_ret
  exact ⟨rfl, rfl⟩
theorem tooLong_any (x : Pr) (w : World) : Calls Try.prog 80 #[.agg #[.string x.1, .int .u64 x.2]] w fun e w' => e = .returned (.bool (longK x.1)) ∧ Gr w w' := by
  go_enter Try.func80, Try.ntmps80
  go_wp2
  go_ret
  exact ⟨rfl, (Gr.refl w).alloc _⟩

/-- An index, or -1. -/
def IdxPost (b : Bool) (w : World) (e : Ending) (w' : World) : Prop := ∃ r : Int, e = .returned (.int .i64 r) ∧ (decide (r ≥ 0)) = b ∧ Gr w w'

set_option maxHeartbeats 2000000 in
theorem idxR_any (A : Option Addr) (c : Nat) (xs : List Int) (b : Nat) (w : World) (h : RdR w b A xs) (hn : xs.length ≤ 2000000) :
    Calls Try.prog 72 #[.slice A xs.length c, .func (.func 77) #[] #[]] w (IdxPost (lowB xs) w) := by
  have H := Lib.hid h
  clear h
  go_enter Try.func72, Try.ntmps72
  go_wp2
  go_loopg [8] xs.length (fun kx s5 wr => ∃ i : Nat, s5 = .int .i64 i ∧ i ≤ xs.length ∧ xs.length - i ≤ kx ∧ w = wr ∧ Aside (∀ j z, j < i → xs[j]? = some z → lowK z = false))
  case atStart => exact ⟨0, rfl, Nat.zero_le _, by omega, rfl, (fun j z hj => absurd hj (Nat.not_lt_zero _))⟩
  case round =>
    obtain ⟨i, rfl, hi, hkx, rfl, I⟩ := hrel
    by_cases hlt : i < xs.length
    · have hltz : (i : Int) < (xs.length : Int) := by omega
      obtain ⟨ad, x, rfl, hb, hx, c0⟩ := H.out.at_ hlt
      have X := Lib.hid hx
      clear hx
      cases hz : lowK x with
      | true =>
        have HZ := Lib.hid hz
        go_wp2_with (go_at_call 77; refine (noNode_any _ _).mono ?_; rintro e w' ⟨rfl, rfl⟩)
        go_ret
        exact ⟨i, rfl, by rw [lowB_true X.out HZ.out]; simp, Gr.refl _⟩
      | false =>
        have HZ := Lib.hid hz
        go_wp2_with (go_at_call 77; refine (noNode_any _ _).mono ?_; rintro e w' ⟨rfl, rfl⟩)
        go_roundg (xs.length - (i + 1))
        case measure => omega
        case rel =>
          refine ⟨i + 1, by go_num, by omega, Nat.le_refl _, rfl, (show ∀ j z, _ from fun j z hj hx => ?_)⟩
          by_cases e : j = i
          · subst e; rw [X.out] at hx; injection hx with hx; rw [← hx]; exact HZ.out
          · exact I.out j z (by omega) hx
    · obtain rfl : i = xs.length := by omega
      go_wp2
      go_ret
      exact ⟨-1, rfl, by rw [lowB_false I.out]; simp, Gr.refl _⟩
theorem hasR_any (A : Option Addr) (c : Nat) (xs : List Int) (b : Nat) (w : World) (h : RdR w b A xs) (hn : xs.length ≤ 2000000) :
    Calls Try.prog 66 #[.slice A xs.length c, .func (.func 77) #[] #[]] w fun e w' => e = .returned (.bool (lowB xs)) ∧ Gr w w' := by
  have H := Lib.hid h
  clear h
  go_enter Try.func66, Try.ntmps66
  go_wp2_with (go_at_call 72; refine (idxR_any _ _ _ _ _ H.out hn).mono ?_; rintro e w' ⟨r, rfl, hr, hg⟩; have HR := Lib.hid hr; have HG := Lib.hid hg; clear hr hg)
  go_ret
  exact ⟨ret_bool HR.out, HG.out⟩

set_option maxHeartbeats 2000000 in
theorem idxP_any (A : Option Addr) (c : Nat) (xs : List Pr) (b : Nat) (w : World) (h : Rd w b A xs) (hb : b ≤ w.heap.size) (hn : xs.length ≤ 2000000) :
    Calls Try.prog 82 #[.slice A xs.length c, .func (.func 80) #[] #[]] w (IdxPost (longB xs) w) := by
  have H := Lib.hid h
  have HB := Lib.hid hb
  clear h hb
  go_enter Try.func82, Try.ntmps82
  go_wp2
  go_loopg [8] xs.length (fun kx s5 wr => ∃ i : Nat, s5 = .int .i64 i ∧ i ≤ xs.length ∧ xs.length - i ≤ kx ∧ Aside (Gr w wr) ∧ Aside (∀ j (z : Pr), j < i → xs[j]? = some z → longK z.1 = false))
  case atStart => exact ⟨0, rfl, Nat.zero_le _, by omega, Gr.refl _, (fun j z hj => absurd hj (Nat.not_lt_zero _))⟩
  case round =>
    obtain ⟨i, rfl, hi, hkx, G, I⟩ := hrel
    by_cases hlt : i < xs.length
    · have hltz : (i : Int) < (xs.length : Int) := by omega
      have hr : Rd wr b A xs := H.out.gr HB.out G.out
      obtain ⟨ad, p, x, rfl, hp, hb, hx, c0, c1⟩ := hr.at2 hlt
      have X := Lib.hid hx
      clear hx hr
      cases hz : longK x.1 with
      | true =>
        have HZ := Lib.hid hz
        go_wp2_with (go_at_call 80; refine (tooLong_any x _).mono ?_; rintro e w' ⟨rfl, hg⟩; have G2 := Lib.hid hg; clear hg)
        go_ret
        exact ⟨i, rfl, by rw [longB_true X.out HZ.out]; simp, G.out.trans G2.out⟩
      | false =>
        have HZ := Lib.hid hz
        go_wp2_with (go_at_call 80; refine (tooLong_any x _).mono ?_; rintro e w' ⟨rfl, hg⟩; have G2 := Lib.hid hg; clear hg)
        go_roundg (xs.length - (i + 1))
        case measure => omega
        case rel =>
          refine ⟨i + 1, by go_num, by omega, Nat.le_refl _, G.out.trans G2.out, (show ∀ j (z : Pr), _ from fun j z hj hx => ?_)⟩
          by_cases e : j = i
          · subst e; rw [X.out] at hx; injection hx with hx; rw [← hx]; exact HZ.out
          · exact I.out j z (by omega) hx
    · obtain rfl : i = xs.length := by omega
      go_wp2
      go_ret
      exact ⟨-1, rfl, by rw [longB_false I.out]; simp, G.out⟩
theorem hasP_any (A : Option Addr) (c : Nat) (xs : List Pr) (b : Nat) (w : World) (h : Rd w b A xs) (hb : b ≤ w.heap.size) (hn : xs.length ≤ 2000000) :
    Calls Try.prog 79 #[.slice A xs.length c, .func (.func 80) #[] #[]] w fun e w' => e = .returned (.bool (longB xs)) ∧ Gr w w' := by
  have H := Lib.hid h
  go_enter Try.func79, Try.ntmps79
  go_wp2_with (go_at_call 82; refine (idxP_any _ _ _ _ _ H.out hb hn).mono ?_; rintro e w' ⟨r, rfl, hr, hg⟩; have HR := Lib.hid hr; have HG := Lib.hid hg; clear hr hg)
  go_ret
  exact ⟨ret_bool HR.out, HG.out⟩

set_option maxHeartbeats 2000000 in
theorem rkeys_any (A : Option Addr) (c : Nat) (xs : List Pr) (b : Nat) (w : World) (h : Rd w b A xs) (hn : xs.length ≤ 2000000) :
    Calls Try.prog 63 #[.slice A xs.length c] w fun e w' => e = .returned (.bool (!longB xs)) ∧ w = w' := by
  have H := Lib.hid h
  clear h
  go_enter Try.func63, Try.ntmps63
  go_wp2
  go_loopg [3] xs.length (fun kx s5 wr => ∃ i : Nat, s5 = .int .i64 i ∧ i ≤ xs.length ∧ xs.length - i ≤ kx ∧ w = wr ∧ Aside (∀ j (z : Pr), j < i → xs[j]? = some z → longK z.1 = false))
  case atStart => exact ⟨0, rfl, Nat.zero_le _, by omega, rfl, (fun j z hj => absurd hj (Nat.not_lt_zero _))⟩
  case round =>
    obtain ⟨i, rfl, hi, hkx, rfl, I⟩ := hrel
    by_cases hlt : i < xs.length
    · have hltz : (i : Int) < (xs.length : Int) := by omega
      obtain ⟨ad, p, x, rfl, hp, hb, hx, c0, c1⟩ := H.out.at2 hlt
      have X := Lib.hid hx
      clear hx
      by_cases hz : (64 : Int) < (x.1.size : Int)
      · have HZ := Lib.hid (show longK x.1 = true from decide_eq_true hz)
        go_wp2
        go_ret
        exact ⟨ret_bool (by rw [longB_true X.out HZ.out]; rfl), rfl⟩
      · have HZ := Lib.hid (show longK x.1 = false from decide_eq_false hz)
        go_wp2
        go_roundg (xs.length - (i + 1))
        case measure => omega
        case rel =>
          refine ⟨i + 1, by go_num, by omega, Nat.le_refl _, rfl, (show ∀ j (z : Pr), _ from fun j z hj hx => ?_)⟩
          by_cases e : j = i
          · subst e; rw [X.out] at hx; injection hx with hx; rw [← hx]; exact HZ.out
          · exact I.out j z (by omega) hx
    · obtain rfl : i = xs.length := by omega
      go_wp2
      go_ret
      exact ⟨ret_bool (by rw [longB_false I.out]; rfl), rfl⟩

end Go.Proofs.Ytcmnmimkjkpimaa
