/- The contracts of the functions of layer 2 that make a list. -/
import Derived.Test.YtadmglkpjpfehaaDoorWalksA
import Derived.Test.YtadmglkpjpfehaaDoorMath5
import Derived.OwnWalk
import Derived.Below
import Derived.Deep.AppendLies
namespace Go.Proofs.YtadmglkpjpfehaaDoor
open Go.RowKit

theorem info3 : (Tryd.prog.info? 3).map (fun i => (i.zero, i.size, i.bytes)) = some (some (.int .i64 0), 1, 8) := by kernel_rfl

/-- The list of b's elements lies in new memory. -/
def Made (b : Int) (w : World) (e : Ending) (w' : World) : Prop :=
  e = .returned (.slice (some ⟨w.heap.size, 0, none⟩) (cntN b) (cntN b)) ∧ w'.ownsRow w.heap.size 3 1 (.slice (some ⟨w.heap.size, 0, none⟩) (cntN b) (cntN b)) (cntN b) ((lstI b).map (Value.int .i64)) ∧ Below w.heap.size w w'

set_option maxHeartbeats 1000000 in
theorem indices_any (b : Int) (hb : U64 b) (w : World) (T : Hid (Tab w)) : Calls Tryd.prog 22 #[.int .u64 b] w (Made b w) := by
  obtain ⟨i0, hi, hz0, hz1, hz2⟩ := info_parts info3
  have H := Lib.hid hb; clear hb
  have hc64 := cntN_le b
  go_enter Tryd.func22, Tryd.ntmps22
  go_wp2_with (first
    | (go_at_call 19; refine (count_any _ H.out _).mono ?_; rintro e w' ⟨rfl, rfl⟩)
    | (at_make; refine wpList_make_own _ rfl _ _ 23 rfl w.heap.size 3 i0 (.int .i64 0) 1 Tryd.underlying23 hi hz0 hz1 _ _ _ (cntN b) rfl rfl rfl (by rw [hz2]; omega) (by unfold maxLen; omega) (Nat.le_refl _) ?_))
  intro w0 hown0 hgrow0
  go_wp2
  go_loopw [0, 3] (fun x out wr => ∃ (m : Int) (p : Nat), U64 m ∧ p ≤ cntN b ∧ x = .int .u64 m ∧ out = .slice (some ⟨w.heap.size, 0, none⟩) p (cntN b) ∧
      wr.ownsRow w.heap.size 3 1 (.slice (some ⟨w.heap.size, 0, none⟩) p (cntN b)) p (((lstI b).take p).map (Value.int .i64)) ∧ els m.toNat = (els b.toNat).drop p ∧ Below w.heap.size w wr)
    (fun x _ _ => (intOf x).toNat)
  case atStart => exact ⟨b, 0, H.out, Nat.zero_le _, rfl, rfl, hown0, rfl, (Below.refl _ _).grown hgrow0 (Nat.le_refl _) (fun k h => by cases h)⟩
  case round =>
    obtain ⟨m, p, hm, hp, rfl, rfl, hown, he, hbl⟩ := hrel
    have M := Lib.hid hm
    have hm0 := hm.1
    have E := Lib.hid he; clear he hm
    have Tr := Lib.hid (T.out.below hbl)
    by_cases h0 : 0 < m
    · have hz : (m != 0) = true := by simp; omega
      have W := Lib.hid (wl_lt' h0)
      obtain ⟨hpl, el, es⟩ := els_drop_lo M.out h0 E.out
      have EL := Lib.hid el
      have ES := Lib.hid es
      clear el es
      go_wp2_with (first
        | (go_at_call 25; refine (lowest_any _ M.out h0 _ Tr).mono ?_; rintro e w' ⟨rfl, rfl⟩)
        | (go_at_call 26; refine (wl_any _ M.out h0 _).mono ?_; rintro e w' ⟨rfl, rfl⟩)
        | (at_builtin; refine wpList_append_fits _ rfl _ _ 23 rfl w.heap.size 3 i0 1 Tryd.underlying23 hi hz1 w.heap.size p (cntN b) _ rfl (hown.alloc _) ⟨wr.heap.size, 0, none⟩ 1 1 [.int .i64 (loI m)] rfl rfl (by intro t u ht; match t, ht with | 0, ht => simp at ht; subst ht; simp [Addr.add]) (by intro u hu; simp at hu; subst hu; rfl) (by omega) ?_; intro w1 hown1 hgrow1))
      go_roundw
      case rel => exact ⟨_, p + 1, wl_u64 M.out, hpl, rfl, rfl, by rw [lst_take hpl, List.map_append, ← EL.out]; exact hown1, ES.out, (hbl.alloc hbl.size _).grown hgrow1 (by simp; have := hbl.size; omega) (fun k hk => by cases hk; exact Nat.le_refl _)⟩
      case measure => have := W.out; simp [intOf]; omega
    · obtain rfl : m = 0 := by omega
      have e := drop_end hp E.out
      have P := Lib.hid e; clear e
      go_wp2
      go_ret
      rw [P.out, ← lst_len, List.take_length, lst_len] at hown
      refine ⟨?_, hown, hbl⟩
      show Ending.returned (Value.slice _ p _) = _
      rw [P.out]

/-! ### The reference's list -/
def lk (b : Int) (k : Nat) : List Int := ((List.range k).filter b.toNat.testBit).map fun (k : Nat) => (k : Int)
theorem lk_all (b : Int) : lk b 64 = lstI b := rfl
theorem lk_yes {b : Int} {k : Nat} (h : hasB b k = true) : lk b (k + 1) = lk b k ++ [(k : Int)] := by
  unfold hasB at h
  rw [Bool.and_eq_true, Int.toNat_natCast] at h
  unfold lk
  rw [List.range_succ, List.filter_append, List.filter_cons_of_pos h.2]; simp
theorem lk_no {b : Int} {k : Nat} (hk : k < 64) (h : hasB b k = false) : lk b (k + 1) = lk b k := by
  unfold hasB at h
  rw [Int.toNat_natCast, (inr_iff _).2 (by omega), Bool.true_and] at h
  unfold lk
  rw [List.range_succ, List.filter_append, List.filter_cons_of_neg (by rw [h]; simp)]; simp
theorem lk_len (b : Int) (k : Nat) : (lk b k).length ≤ k := by
  unfold lk
  have := List.length_filter_le b.toNat.testBit (List.range k)
  simpa using this
theorem own_form {w : World} {base : Nat} {e : TypeId} {size : Nat} {v : Value} {n : Nat} {xs : List Value} (h : w.ownsRow base e size v n xs) : ∃ A c, v = .slice A n c := by
  rcases h.2 with ⟨hv, h0⟩ | ⟨g, cap, cur, hv, _⟩
  · exact ⟨none, 0, by rw [hv, h0]⟩
  · exact ⟨_, cap, hv⟩
/-- The list of b's elements lies in memory that was not there before. -/
def Listed (b : Int) (w : World) (e : Ending) (w' : World) : Prop :=
  ∃ A c, e = .returned (.slice A (cntN b) c) ∧ w'.ownsRow w.heap.size 3 1 (.slice A (cntN b) c) (cntN b) ((lstI b).map (Value.int .i64)) ∧ Below w.heap.size w w'

set_option maxHeartbeats 1000000 in
theorem rindices_any (b : Int) (hb : U64 b) (w : World) : Calls Tryd.prog 23 #[.int .u64 b] w (Listed b w) := by
  obtain ⟨i0, hi, hz0, hz1, hz2⟩ := info_parts info3
  have H := Lib.hid hb; clear hb
  go_enter Tryd.func23, Tryd.ntmps23
  go_wp2
  go_loopw [3, 4] (fun out x wr => ∃ (k : Nat), k ≤ 64 ∧ x = .int .i64 k ∧
      wr.ownsRow w.heap.size 3 1 out (lk b k).length ((lk b k).map (Value.int .i64)) ∧ Below w.heap.size w wr)
    (fun _ x _ => 64 - (intOf x).toNat)
  case atStart => exact ⟨0, Nat.zero_le _, rfl, World.ownsRow_nil _ _ _ _, Below.refl _ _⟩
  case round =>
    obtain ⟨k, hk, rfl, hown, hbl⟩ := hrel
    have hl := lk_len b k
    by_cases h64 : k < 64
    · cases hh : hasB b k
      · have N := Lib.hid (lk_no h64 hh)
        go_wp2_with (go_at_call 9; refine (rhas_any _ _ H.out _).mono ?_; rintro e w' ⟨rfl, rfl⟩)
        go_roundw
        case rel => exact ⟨k + 1, h64, by go_num, by rw [N.out]; exact hown, hbl⟩
        case measure => simp [intOf]; omega
      · have N := Lib.hid (lk_yes hh)
        go_wp2_with (first
          | (go_at_call 9; refine (rhas_any _ _ H.out _).mono ?_; rintro e w' ⟨rfl, rfl⟩)
          | (at_builtin; refine wpList_append_own _ rfl _ _ 23 rfl w.heap.size 3 i0 (.int .i64 0) 1 8 Tryd.underlying23 hi hz0 hz1 hz2 rfl (by decide) _ (lk b k).length _ rfl (hown.alloc _) ⟨wr.heap.size, 0, none⟩ 1 1 [.int .i64 k] rfl rfl (by intro t u ht; match t, ht with | 0, ht => simp at ht; subst ht; simp [Addr.add]) (by intro u hu; simp at hu; subst hu; rfl) (by unfold maxLen; omega) (by omega) (by simp; have := hbl.size; omega) ?_; intro v1 w1 hown1 hgrow1 _))
        go_roundw
        case rel => exact ⟨k + 1, h64, by go_num, by rw [N.out, List.map_append, List.length_append]; exact hown1, (hbl.alloc hbl.size _).grown hgrow1 (by simp; have := hbl.size; omega) (fun j hj => (hown.lt j hj).1)⟩
        case measure => simp [intOf]; omega
    · obtain rfl : k = 64 := by omega
      obtain ⟨A, c, hv⟩ := own_form hown
      rw [lk_all, lst_len] at hown hv
      subst hv
      go_wp2
      go_ret
      exact ⟨A, c, rfl, hown, hbl⟩

/-! ### Reading a list -/
def Holds (w : World) (A : Option Addr) (xs : List Int) : Prop := 0 < xs.length → ∃ g, A = some ⟨g, 0, none⟩ ∧ ∀ k, k < xs.length → w.cell? ⟨g, k, none⟩ = some (.int .i64 (xs.getD k 0))
theorem holds_of {w : World} {base : Nat} {e : TypeId} {A : Option Addr} {n c : Nat} {xs : List Int} (hn : n = xs.length) (h : w.ownsRow base e 1 (.slice A n c) n (xs.map (Value.int .i64))) : Holds w A xs := by
  intro h0
  obtain ⟨g, cap, hv, _, _⟩ := h.form (by omega)
  injection hv with hA _ hc
  subst hA; subst hc
  refine ⟨g, rfl, fun k hk => ?_⟩
  rw [h.cellAt k (by omega)]
  simp [List.getD, hk]
theorem Holds.same {w w' : World} {A : Option Addr} {xs : List Int} (h : Holds w A xs) (hs : ∀ a, w'.cell? a = w.cell? a) : Holds w' A xs := by
  intro h0
  obtain ⟨g, hA, hc⟩ := h h0
  exact ⟨g, hA, fun k hk => (hs _).trans (hc k hk)⟩
theorem lst_getD {b : Int} {p : Nat} (h : p < cntN b) : (lstI b).getD p 0 = elI b p := by simp [List.getD, lst_get h]

set_option maxHeartbeats 1000000 in
theorem rat_any (b i : Int) (hb : U64 b) (w : World) : Calls Tryd.prog 17 #[.int .u64 b, .int .i64 i] w fun e w' => e = .returned (.int .i64 (atI b i)) ∧ Below w.heap.size w w' := by
  have H := Lib.hid hb; clear hb
  by_cases h0 : i < 0
  · have e : atI b i = -1 := by unfold atI; rw [if_pos h0]
    have E := Lib.hid e; clear e
    go_enter Tryd.func17, Tryd.ntmps17
    go_wp2_with fail
    refine (rindices_any _ H.out _).mono ?_
    rintro e w1 ⟨A, c, rfl, hown, hbl⟩
    clear hown
    go_wp2
    go_ret
    exact ⟨ret_int E.out.symm, hbl⟩
  · obtain ⟨k, rfl⟩ := Int.eq_ofNat_of_zero_le (by omega : 0 ≤ i)
    by_cases hk : k < cntN b
    · have E := Lib.hid (el_at hk)
      go_enter Tryd.func17, Tryd.ntmps17
      go_wp2_with fail
      refine (rindices_any _ H.out _).mono ?_
      rintro e w1 ⟨A, c, rfl, hown, hbl⟩
      obtain ⟨g, hA, hc⟩ := holds_of (lst_len b).symm hown (by rw [lst_len]; omega)
      subst hA
      have hcell := hc k (by rw [lst_len]; omega)
      rw [lst_getD hk] at hcell
      clear hown hc
      go_wp2
      go_ret
      exact ⟨ret_int E.out.symm, hbl⟩
    · have e : atI b k = -1 := by
        unfold atI; rw [if_neg (by omega), Int.toNat_natCast, List.getElem?_eq_none (by unfold cntN at hk; omega)]; rfl
      have E := Lib.hid e; clear e
      go_enter Tryd.func17, Tryd.ntmps17
      go_wp2_with fail
      refine (rindices_any _ H.out _).mono ?_
      rintro e w1 ⟨A, c, rfl, hown, hbl⟩
      clear hown
      go_wp2
      go_ret
      exact ⟨ret_int E.out.symm, hbl⟩

set_option maxHeartbeats 1000000 in
theorem equal_any (A B : Option Addr) (n c d : Nat) (xs : List Int) (w : World) (hn : n = xs.length) (h64 : n ≤ 64) (hA : Holds w A xs) (hB : Holds w B xs) :
    Calls Tryd.prog 21 #[.slice A n c, .slice B n d] w fun e w' => e = .returned (.bool true) ∧ Below w.heap.size w w' := by
  have N := Lib.hid hn; clear hn
  have HA := Lib.hid hA; clear hA
  have HB := Lib.hid hB; clear hB
  go_enter Tryd.func21, Tryd.ntmps21
  go_wp2
  go_loopw [5] (fun x wr => ∃ (k : Nat), k ≤ n ∧ x = .int .i64 k ∧ (∀ a, wr.cell? a = w.cell? a) ∧ Below w.heap.size w wr) (fun x _ => n - (intOf x).toNat)
  case atStart => exact ⟨0, Nat.zero_le _, rfl, fun _ => rfl, Below.refl _ _⟩
  case round =>
    obtain ⟨k, hk, rfl, hs, hbl⟩ := hrel
    have S := Lib.hid hs; clear hs
    by_cases hlt : k < n
    · obtain ⟨g, e1, c1⟩ := HA.out.same S.out (by have := N.out; omega)
      obtain ⟨g', e2, c2⟩ := HB.out.same S.out (by have := N.out; omega)
      subst e1; subst e2
      have k1 := c1 k (by have := N.out; omega)
      have k2 := c2 k (by have := N.out; omega)
      clear c1 c2
      go_wp2
      go_region
      all_goals go_wp2
      all_goals
        go_roundw
        case rel => exact ⟨k + 1, hlt, by go_num, fun a => S.out a, hbl.drew⟩
        case measure => simp [intOf]; omega
    · go_wp2
      go_ret
      exact ⟨rfl, hbl⟩
end Go.Proofs.YtadmglkpjpfehaaDoor
