/-
  The walks of the binary search and of the span of a key.
-/
import Derived.Test.YtpopoihggomfiaaTbB
import Derived.Test.YtpopoihggomfiaaWalksC
import Derived.Shelf.SlSortCmp.QuietGrown
set_option linter.unusedVariables false
set_option maxRecDepth 100000
namespace Go.Proofs.Ytpopoihggomfiaa
open Go.Shelf Go.RowKit Go.Lib Go.Sort

theorem below_grow {B : Nat} {w wr : World} (h : Below B w wr) (hB : B ≤ wr.heap.size) (n : Nat) (os : Array Obj) : Below B w (grow (wr.drewN n) os) :=
  h.trans ⟨rfl, rfl, rfl, by rw [size_grow]; exact Nat.le_add_right _ _, fun k hk => by
    rw [heap_grow_old _ _ (by show k < wr.heap.size; omega)]; rfl⟩
theorem BS.grown {w : World} {k : ByteArray} {wr : World} (h : BS w k wr) (n : Nat) (os : Array Obj) : BS w k (grow (wr.drewN n) os) :=
  ⟨below_grow h.below (Nat.le_of_lt h.lt) n os, cell_grown (by exact h.lt) h.c0 n os, cell_grown (by exact h.lt) h.c1 n os, by rw [size_grow]; exact Nat.lt_of_lt_of_le h.lt (Nat.le_add_right _ _)⟩

def Found (xs : List Pr) (k : ByteArray) (i : Nat) (f : Bool) : Prop :=
  i ≤ xs.length ∧ ((f = true ∧ ∃ u, xs[i]? = some (k, u) ∧ Split xs k (xs.take i) [(k, u)] (xs.drop (i + 1))) ∨ (f = false ∧ Split xs k (xs.take i) [] (xs.drop i)))

def SearchPost (xs : List Pr) (k : ByteArray) (w : World) (e : Ending) (w' : World) : Prop :=
  ∃ (i : Nat) (f : Bool), e = .returned (.tuple #[.int .i64 i, .bool f]) ∧ Found xs k i f ∧ Below w.heap.size w w'

theorem Rd.grown {w : World} {B : Nat} {A : Option Addr} {xs : List Pr} (h : Rd w B A xs) (hB : B ≤ w.heap.size) (n : Nat) (os : Array Obj) : Rd (grow (w.drewN n) os) B A xs :=
  h.keep fun p hp => by rw [cell?_grow _ _ _ (by show p.block < w.heap.size; omega)]; rfl

set_option maxHeartbeats 4000000 in
theorem search_any (A : Option Addr) (c : Nat) (xs : List Pr) (k : ByteArray) (B : Nat) (w : World) (h : Rd w B A xs) (hB : B ≤ w.heap.size) (ha : Asc xs) (hn : xs.length < 4611686018427387904) :
    Calls Try.prog 64 #[.slice A xs.length c, .agg #[.string k, .int .u64 0], .func (.func 65) #[] #[]] w (SearchPost xs k w) := by
  have H := Lib.hid h
  have HA := Lib.hid ha
  clear h ha
  have mixed := mixedOrders
  have W0 : Aside (BS w k (w.alloc (.cells #[.string k, .int .u64 0] 54))) := ⟨(Below.refl _ _).alloc (Nat.le_refl _) _, by simp, by simp, by simp⟩
  go_enter Try.func64, Try.ntmps64
  go_wp2
  go_loopg [9, 10] xs.length (fun kx s9 s10 wr => ∃ lo hi : Nat, s9 = .int .i64 lo ∧ s10 = .int .i64 hi ∧ lo ≤ hi ∧ hi ≤ xs.length ∧ hi - lo ≤ kx ∧ Aside (BS w k wr) ∧
    Aside ((∀ t x, t < lo → xs[t]? = some x → kl x.1 k = true) ∧ (∀ t x, hi ≤ t → xs[t]? = some x → kl x.1 k = false)))
  case atStart => exact ⟨0, xs.length, rfl, rfl, Nat.zero_le _, Nat.le_refl _, by omega, W0, (⟨fun t x ht => by omega, fun t x ht hx => by have := (List.getElem?_eq_some_iff.1 hx).1; omega⟩ : _ ∧ _)⟩
  case round =>
    clear W0
    obtain ⟨lo, hi, rfl, rfl, hlh, hin, hg, S1, I⟩ := hrel
    have hrr : Rd wr w.heap.size A xs := (H.out.more hB).below S1.out.below
    by_cases hlt : lo < hi
    · have hltz : (lo : Int) < (hi : Int) := by omega
      have e1 : (((lo : Int) + (hi : Int)) / 2).toNat = (lo + hi) / 2 := by omega
      have p1 : (0 : Int) ≤ ((lo : Int) + (hi : Int)) / 2 := by omega
      have b1 : ((lo : Int) + (hi : Int)) / 2 < (xs.length : Int) := by omega
      obtain ⟨ad, p, x, rfl, hp, hb, hx, c0, c1⟩ := hrr.at2 (show (lo + hi) / 2 < xs.length by omega)
      have hbw : p.block < wr.heap.size := Nat.lt_trans hb S1.out.lt
      have l0 := fun n os => cell_grown (w := wr) (a := p) hbw c0 n os
      have l1 := fun n os => cell_grown (w := wr) (a := ⟨p.block, p.off + 1, none⟩) hbw c1 n os
      have k0 := fun n os => (S1.out.grown n os).c0
      have k1 := fun n os => (S1.out.grown n os).c1
      have hc := fun n os => byKey_any x (k, 0) (grow (wr.drewN n) os)
      have X := Lib.hid hx
      clear c0 c1 hx hrr
      by_cases hv : cfK x (k, 0) < 0
      · have hd : decide (cfK x (k, 0) < 0) = true := decide_eq_true hv
        go_wp2_with fail
        go_quiet_grown (first | (go_at_call 65; refine Calls.grown_of (hc _ _)))
        have S2 : Aside (BS w k (grow (wr.drewN nq) osq)) := S1.out.grown nq osq
        clear l0 l1 k0 k1 hc S1 hp
        generalize grow (wr.drewN nq) osq = w2 at S2 ⊢
        clear nq osq
        go_wp2
        go_roundg (hi - ((lo + hi) / 2 + 1))
        case measure => omega
        case rel =>
          have I1 : ∀ t y, t < (lo + hi) / 2 + 1 → xs[t]? = some y → kl y.1 k = true := fun t y ht hy => by
            have hxk : kl x.1 k = true := by have h4 := lt_of x (k, 0) (by omega); rw [lt', ltOf_cfK] at h4; exact h4
            by_cases e : t = (lo + hi) / 2
            · subst e; rw [X.out] at hy; injection hy with hy; rw [← hy]; exact hxk
            · obtain ⟨hl1, e1⟩ := List.getElem?_eq_some_iff.1 hy
              obtain ⟨hl2, e2⟩ := List.getElem?_eq_some_iff.1 X.out
              have := List.pairwise_iff_getElem.1 HA.out t ((lo + hi) / 2) hl1 hl2 (by omega)
              rw [e1, e2] at this
              exact kl_trans this hxk
          exact ⟨(lo + hi) / 2 + 1, hi, by go_num, rfl, by omega, hin, Nat.le_refl _, S2, (⟨I1, I.out.2⟩ : _ ∧ _)⟩
      · have hd : decide (cfK x (k, 0) < 0) = false := decide_eq_false hv
        go_wp2_with fail
        go_quiet_grown (first | (go_at_call 65; refine Calls.grown_of (hc _ _)))
        have S2 : Aside (BS w k (grow (wr.drewN nq) osq)) := S1.out.grown nq osq
        clear l0 l1 k0 k1 hc S1 hp
        generalize grow (wr.drewN nq) osq = w2 at S2 ⊢
        clear nq osq
        go_wp2
        go_roundg ((lo + hi) / 2 - lo)
        case measure => omega
        case rel =>
          have I2 : ∀ t y, (lo + hi) / 2 ≤ t → xs[t]? = some y → kl y.1 k = false := fun t y ht hy => by
            have hxk : kl x.1 k = false := by have h4 := nlt_of x (k, 0) (by omega); rw [lt', ltOf_cfK] at h4; exact h4
            by_cases e : t = (lo + hi) / 2
            · subst e; rw [X.out] at hy; injection hy with hy; rw [← hy]; exact hxk
            · obtain ⟨hl1, e1⟩ := List.getElem?_eq_some_iff.1 hy
              obtain ⟨hl2, e2⟩ := List.getElem?_eq_some_iff.1 X.out
              have := List.pairwise_iff_getElem.1 HA.out ((lo + hi) / 2) t hl2 hl1 (by omega)
              rw [e1, e2] at this
              exact kl_ntrans (kl_asymm this) hxk
          exact ⟨lo, (lo + hi) / 2, rfl, by go_num, by omega, by omega, Nat.le_refl _, S2, (⟨I.out.1, I2⟩ : _ ∧ _)⟩
    · obtain rfl : lo = hi := by omega
      have SP := Lib.hid (split_of HA.out hin I.out.1 I.out.2)
      clear I
      by_cases hn2 : lo < xs.length
      · have hltz : decide ((lo : Int) < (xs.length : Int)) = true := decide_eq_true (by omega)
        have hltz' : (lo : Int) < (xs.length : Int) := by omega
        obtain ⟨ad, p, x, rfl, hp, hb, hx, c0, c1⟩ := hrr.at2 hn2
        have hbw : p.block < wr.heap.size := Nat.lt_trans hb S1.out.lt
        have l0 := fun n os => cell_grown (w := wr) (a := p) hbw c0 n os
        have l1 := fun n os => cell_grown (w := wr) (a := ⟨p.block, p.off + 1, none⟩) hbw c1 n os
        have k0 := fun n os => (S1.out.grown n os).c0
        have k1 := fun n os => (S1.out.grown n os).c1
        have hc := fun n os => byKey_any x (k, 0) (grow (wr.drewN n) os)
        have X := Lib.hid hx
        clear c0 c1 hx hrr
        by_cases hv : cfK x (k, 0) = 0
        · have hd : (cfK x (k, 0) == 0) = true := by rw [beq_iff_eq]; exact hv
          have HV := Lib.hid hv
          clear hv
          go_wp2_with fail
          go_quiet_grown (first | (go_at_call 65; refine Calls.grown_of (hc _ _)))
          go_wp2
          refine bodyPost_ret (v := .tuple #[.int .i64 lo, .bool true]) (by simp [results, Try.results64]) rfl ?_
          refine ⟨lo, true, rfl, ⟨hin, .inl ⟨rfl, ?_⟩⟩, (S1.out.grown nq osq).below⟩
          rcases SP.out with ⟨u, h1, h2⟩ | ⟨h1, _⟩
          · exact ⟨u, h1, h2⟩
          · exact absurd ((cfK_zero x (k, 0)).1 HV.out) (h1 x X.out)
        · have hd : (cfK x (k, 0) == 0) = false := by rw [beq_eq_false_iff_ne]; exact hv
          have HV := Lib.hid hv
          clear hv
          go_wp2_with fail
          go_quiet_grown (first | (go_at_call 65; refine Calls.grown_of (hc _ _)))
          go_wp2
          refine bodyPost_ret (v := .tuple #[.int .i64 lo, .bool false]) (by simp [results, Try.results64]) rfl ?_
          refine ⟨lo, false, rfl, ⟨hin, .inr ⟨rfl, ?_⟩⟩, (S1.out.grown nq osq).below⟩
          rcases SP.out with ⟨u, h1, h2⟩ | ⟨_, h2⟩
          · rw [X.out] at h1
            injection h1 with h1
            exact absurd ((cfK_zero x (k, 0)).2 (by rw [h1])) HV.out
          · exact h2
      · have hltz : decide ((lo : Int) < (xs.length : Int)) = false := decide_eq_false (by omega)
        have hltz' : ¬ (lo : Int) < (xs.length : Int) := by omega
        clear hrr
        go_wp2_with fail
        go_quiet (fail)
        go_wp2
        refine bodyPost_ret (v := .tuple #[.int .i64 lo, .bool false]) (by simp [results, Try.results64]) rfl ?_
        refine ⟨lo, false, rfl, ⟨hin, .inr ⟨rfl, ?_⟩⟩, below_drew S1.out.below nq⟩
        rcases SP.out with ⟨u, h1, h2⟩ | ⟨_, h2⟩
        · have := (List.getElem?_eq_some_iff.1 h1).1
          omega
        · exact h2

def SpanPost (xs : List Pr) (k : ByteArray) (w : World) (e : Ending) (w' : World) : Prop :=
  ∃ (i j : Nat) (f : Bool), e = .returned (.tuple #[.int .i64 i, .int .i64 j]) ∧ Found xs k i f ∧ j = (if f then i + 1 else i) ∧ Below w.heap.size w w'

set_option maxHeartbeats 1000000 in
theorem span_any (A : Option Addr) (c : Nat) (xs : List Pr) (k : ByteArray) (B : Nat) (w : World) (h : Rd w B A xs) (hB : B ≤ w.heap.size) (ha : Asc xs) (hn : xs.length < 4611686018427387904) :
    Calls Try.prog 56 #[.slice A xs.length c, .string k] w (SpanPost xs k w) := by
  have c39 := Lib.hid (search_any A c xs k B w h hB ha hn)
  have HH := Lib.hid h
  clear h
  go_enter Try.func56, Try.ntmps56
  go_wp2_with (go_at_call 64; refine c39.out.mono ?_; rintro e w' ⟨i, f, rfl, hF, hb⟩; have HF := Lib.hid hF; have hil := hF.1; clear hF; cases f)
  · refine bodyPost_ret (v := .tuple #[.int .i64 i, .int .i64 i]) (by simp [results, Try.results56]) rfl ?_
    exact ⟨i, i, false, rfl, HF.out, rfl, hb⟩
  · refine bodyPost_ret (v := .tuple #[.int .i64 i, .int .i64 (i + 1)]) (by simp [results, Try.results56]) rfl ?_
    exact ⟨i, i + 1, true, by simp, HF.out, rfl, hb⟩

end Go.Proofs.Ytpopoihggomfiaa
