/- The contracts of package bitmap and of its reference: each function returns the number that the plain mathematics names; no memory turns. -/
import Derived.Test.YtadmglkpjpfehaaDoorChecked
import Derived.Test.YtadmglkpjpfehaaDoorMath4
import Derived.WalkKit
import Derived.Lib.Hide
import Derived.WalkLawsBesides

namespace Go.Proofs.YtadmglkpjpfehaaDoor
open Go.RowKit
theorem ret_int {k : IntKind} {a b : Int} (h : a = b) : Ending.returned (.int k a) = .returned (.int k b) := by rw [h]
theorem ret_bool {a b : Bool} (h : a = b) : Ending.returned (.bool a) = .returned (.bool b) := by rw [h]

theorem tz_any (b : Int) (hb : U64 b) (h0 : 0 < b) (w : World) (T : Hid (Tab w)) :
    Calls Tryd.prog 27 #[.int .u64 b] w fun e w' => e = .returned (.int .i64 (loI b)) ∧ w = w' := by
  have hz : (b == 0) = false := by simp; omega
  have hc := tab_cell T.out hb h0
  have hr := db_range hb h0
  have hr1 := hr.1
  have hr2 := hr.2
  have hl := lo_range hb h0
  clear hr T hb
  go_enter Tryd.func27, Tryd.ntmps27
  go_wp2
  go_ret
  exact ⟨ret_int (by first | rfl | exact IntWalk.wrap64_in _ (by omega)), rfl⟩
theorem lowest_any (b : Int) (hb : U64 b) (h0 : 0 < b) (w : World) (T : Hid (Tab w)) :
    Calls Tryd.prog 25 #[.int .u64 b] w fun e w' => e = .returned (.int .i64 (loI b)) ∧ w = w' := by
  have H := Lib.hid hb; clear hb
  go_enter Tryd.func25, Tryd.ntmps25
  go_wp2_with (go_at_call 27; refine (tz_any _ H.out h0 _ T).mono ?_; rintro e w' ⟨rfl, rfl⟩)
  go_ret
  exact ⟨rfl, rfl⟩
theorem wl_any (b : Int) (hb : U64 b) (h0 : 0 < b) (w : World) :
    Calls Tryd.prog 26 #[.int .u64 b] w fun e w' => e = .returned (.int .u64 (wlI b)) ∧ w = w' := by
  have hu := hb.2
  have H := Lib.hid hb; clear hb
  go_enter Tryd.func26, Tryd.ntmps26
  go_wp2
  go_ret
  exact ⟨ret_int (wl_walk H.out h0), rfl⟩
theorem single_any (i : Int) (w : World) :
    Calls Tryd.prog 24 #[.int .i64 i] w fun e w' => e = .returned (.int .u64 (sngI i)) ∧ w = w' := by
  by_cases h0 : i < 0
  · have hf : inr i = false := (inr_not i).2 (by omega)
    have S := Lib.hid (sng_out hf); clear hf
    go_enter Tryd.func24, Tryd.ntmps24
    go_wp2
    go_ret
    exact ⟨ret_int S.out.symm, rfl⟩
  · by_cases h1 : 64 ≤ i
    · have hf : inr i = false := (inr_not i).2 (by omega)
      have S := Lib.hid (sng_out hf); clear hf
      go_enter Tryd.func24, Tryd.ntmps24
      go_wp2
      go_ret
      exact ⟨ret_int S.out.symm, rfl⟩
    · have hf : inr i = true := (inr_iff i).2 (by omega)
      have S := Lib.hid (sng_walk hf); clear hf
      go_enter Tryd.func24, Tryd.ntmps24
      go_wp2
      go_ret
      exact ⟨ret_int S.out, rfl⟩
theorem has_any (b i : Int) (hb : U64 b) (w : World) :
    Calls Tryd.prog 8 #[.int .u64 b, .int .i64 i] w fun e w' => e = .returned (.bool (hasB b i)) ∧ w = w' := by
  have H := Lib.hid hb; clear hb
  go_enter Tryd.func8, Tryd.ntmps8
  go_wp2_with (go_at_call 24; refine (single_any _ _).mono ?_; rintro e w' ⟨rfl, rfl⟩)
  go_ret
  exact ⟨ret_bool (has_walk H.out), rfl⟩
theorem with_any (b i : Int) (hb : U64 b) (w : World) :
    Calls Tryd.prog 12 #[.int .u64 b, .int .i64 i] w fun e w' => e = .returned (.int .u64 (withI b i)) ∧ w = w' := by
  have H := Lib.hid hb; clear hb
  go_enter Tryd.func12, Tryd.ntmps12
  go_wp2_with (go_at_call 24; refine (single_any _ _).mono ?_; rintro e w' ⟨rfl, rfl⟩)
  go_ret
  exact ⟨ret_int (with_walk H.out), rfl⟩
theorem without_any (b i : Int) (hb : U64 b) (w : World) :
    Calls Tryd.prog 14 #[.int .u64 b, .int .i64 i] w fun e w' => e = .returned (.int .u64 (wtoI b i)) ∧ w = w' := by
  have H := Lib.hid hb; clear hb
  go_enter Tryd.func14, Tryd.ntmps14
  go_wp2_with (go_at_call 24; refine (single_any _ _).mono ?_; rintro e w' ⟨rfl, rfl⟩)
  go_ret
  exact ⟨ret_int (wto_walk H.out), rfl⟩
theorem count_any (b : Int) (hb : U64 b) (w : World) :
    Calls Tryd.prog 19 #[.int .u64 b] w fun e w' => e = .returned (.int .i64 (cntI b)) ∧ w = w' := by
  have H := Lib.hid hb; clear hb
  go_enter Tryd.func19, Tryd.ntmps19
  go_wp2
  go_loop [0, 3] (fun x n => ∃ (m c : Int), U64 m ∧ x = .int .u64 m ∧ n = .int .i64 c ∧ 0 ≤ c ∧ c + cntI m = cntI b) (fun x _ => (intOf x).toNat)
  case atStart => exact ⟨b, 0, H.out, rfl, rfl, by omega, by omega⟩
  case round =>
    obtain ⟨m, c, hm, rfl, rfl, hc0, hc⟩ := hrel
    have r1 := cnt_range b
    have r2 := cnt_range m
    have hcu : c ≤ 64 := by omega
    have M := Lib.hid hm
    have hm0 := hm.1
    have C := Lib.hid hc; clear hc hm r1 r2
    by_cases h0 : 0 < m
    · have hz : (m != 0) = true := by simp; omega
      have W := Lib.hid (wl_lt' h0)
      have S := Lib.hid (cnt_step M.out h0)
      go_wp2_with (go_at_call 26; refine (wl_any _ M.out h0 _).mono ?_; rintro e w' ⟨rfl, rfl⟩)
      go_round
      case rel => exact ⟨_, c + 1, wl_u64 M.out, rfl, by go_num, by omega, by have := C.out; have := S.out; omega⟩
      case measure => have := W.out; simp [intOf]; omega
    · obtain rfl : m = 0 := by omega
      go_wp2
      go_ret
      exact ⟨ret_int (by have := C.out; rw [cnt_zero] at this; omega), rfl⟩
theorem position_any (b i : Int) (hb : U64 b) (w : World) :
    Calls Tryd.prog 10 #[.int .u64 b, .int .i64 i] w fun e w' => e = .returned (.int .i64 (posI b i)) ∧ w = w' := by
  by_cases h0 : i < 0
  · have S := Lib.hid (pos_lo (b := b) (i := i) (by omega))
    clear hb
    go_enter Tryd.func10, Tryd.ntmps10
    go_wp2
    go_ret
    exact ⟨ret_int S.out.symm, rfl⟩
  · by_cases h1 : 64 ≤ i
    · have S := Lib.hid (pos_hi (b := b) (i := i) h1)
      have H := Lib.hid hb; clear hb
      go_enter Tryd.func10, Tryd.ntmps10
      go_wp2_with (go_at_call 19; refine (count_any _ H.out _).mono ?_; rintro e w' ⟨rfl, rfl⟩)
      go_ret
      exact ⟨ret_int S.out.symm, rfl⟩
    · have hf : inr i = true := (inr_iff i).2 (by omega)
      have S := Lib.hid (pos_mid hb hf)
      have L := Lib.hid (low_u64 hb hf)
      have U := (sng_u64 i).2
      have P := pow_le hf
      have P1 : 1 ≤ sngI i := by unfold sngI; rw [if_pos hf]; have := Nat.two_pow_pos i.toNat; omega
      clear hb hf P
      go_enter Tryd.func10, Tryd.ntmps10
      go_wp2_with (first | (go_at_call 24; refine (single_any _ _).mono ?_; rintro e w' ⟨rfl, rfl⟩) | (go_at_call 19; refine (count_any _ L.out _).mono ?_; rintro e w' ⟨rfl, rfl⟩))
      go_ret
      exact ⟨ret_int S.out, rfl⟩
theorem at_any (b i : Int) (hb : U64 b) (w : World) (T : Hid (Tab w)) :
    Calls Tryd.prog 16 #[.int .u64 b, .int .i64 i] w fun e w' => e = .returned (.int .i64 (atI b i)) ∧ w = w' := by
  have H := Lib.hid hb; clear hb
  go_enter Tryd.func16, Tryd.ntmps16
  go_wp2
  go_loop [0, 5] (fun x n => ∃ (m p : Int), U64 m ∧ x = .int .u64 m ∧ n = .int .i64 p ∧ 0 ≤ p ∧ p ≤ 64 ∧ (i < 0 ∨ p ≤ i) ∧ els m.toNat = (els b.toNat).drop p.toNat) (fun x _ => (intOf x).toNat)
  case atStart => exact ⟨b, 0, H.out, rfl, rfl, by omega, by omega, by omega, rfl⟩
  case round =>
    obtain ⟨m, p, hm, rfl, rfl, hp, hp2, hi, he⟩ := hrel
    have M := Lib.hid hm
    have hm0 := hm.1
    have E := Lib.hid he; clear he hm
    have I := Lib.hid hi; clear hi
    by_cases h0 : 0 < m
    · have hz : (m != 0) = true := by simp; omega
      have W := Lib.hid (wl_lt' h0)
      have h64 := drop_len h0 M.out hp E.out
      by_cases hpi : p = i
      · have hq : (p == i) = true := by simp [hpi]
        have A := Lib.hid (at_in M.out h0 hp E.out)
        have Q := Lib.hid hpi; clear hpi
        go_wp2_with (go_at_call 25; refine (lowest_any _ M.out h0 _ T).mono ?_; rintro e w' ⟨rfl, rfl⟩)
        go_ret
        exact ⟨ret_int (by rw [A.out, Q.out]), rfl⟩
      · have hq : (p == i) = false := by simp [hpi]
        have S := Lib.hid (at_step M.out h0 hp E.out)
        have N := Lib.hid hpi; clear hpi
        go_wp2_with (go_at_call 26; refine (wl_any _ M.out h0 _).mono ?_; rintro e w' ⟨rfl, rfl⟩)
        go_round
        case rel => exact ⟨_, p + 1, wl_u64 M.out, rfl, by go_num, by omega, by omega, by have := I.out; have := N.out; omega, S.out⟩
        case measure => have := W.out; simp [intOf]; omega
    · obtain rfl : m = 0 := by omega
      have A := Lib.hid (at_out (b := b) (i := i) p I.out hp E.out)
      go_wp2
      go_ret
      exact ⟨ret_int A.out.symm, rfl⟩
theorem rhas_any (b i : Int) (hb : U64 b) (w : World) :
    Calls Tryd.prog 9 #[.int .u64 b, .int .i64 i] w fun e w' => e = .returned (.bool (hasB b i)) ∧ w = w' := by
  by_cases h : 0 ≤ i ∧ i < 64
  · obtain ⟨h0, h1⟩ := h
    have S := Lib.hid (refhas_walk hb ((inr_iff i).2 ⟨h0, h1⟩)); clear hb
    go_enter Tryd.func9, Tryd.ntmps9
    go_wp2
    go_ret
    exact ⟨ret_bool S.out, rfl⟩
  · have S := Lib.hid (has_out (b := b) ((inr_not i).2 h)); clear hb
    by_cases h0 : i < 0
    · clear h
      go_enter Tryd.func9, Tryd.ntmps9
      go_wp2
      go_ret
      exact ⟨ret_bool S.out.symm, rfl⟩
    · have h1 : 64 ≤ i := by omega
      clear h
      go_enter Tryd.func9, Tryd.ntmps9
      go_wp2
      go_ret
      exact ⟨ret_bool S.out.symm, rfl⟩
theorem rwith_any (b i : Int) (hb : U64 b) (w : World) :
    Calls Tryd.prog 13 #[.int .u64 b, .int .i64 i] w fun e w' => e = .returned (.int .u64 (withI b i)) ∧ w = w' := by
  by_cases h : 0 ≤ i ∧ i < 64
  · obtain ⟨h0, h1⟩ := h
    have S := Lib.hid (refwith_walk hb ((inr_iff i).2 ⟨h0, h1⟩)); clear hb
    go_enter Tryd.func13, Tryd.ntmps13
    go_wp2
    go_ret
    exact ⟨ret_int S.out, rfl⟩
  · have S := Lib.hid (with_out (b := b) ((inr_not i).2 h)); clear hb
    by_cases h0 : i < 0
    · clear h
      go_enter Tryd.func13, Tryd.ntmps13
      go_wp2
      go_ret
      exact ⟨ret_int S.out.symm, rfl⟩
    · have h1 : 64 ≤ i := by omega
      clear h
      go_enter Tryd.func13, Tryd.ntmps13
      go_wp2
      go_ret
      exact ⟨ret_int S.out.symm, rfl⟩
theorem rwithout_any (b i : Int) (hb : U64 b) (w : World) :
    Calls Tryd.prog 15 #[.int .u64 b, .int .i64 i] w fun e w' => e = .returned (.int .u64 (wtoI b i)) ∧ w = w' := by
  have H := Lib.hid hb
  cases h : hasB b i
  · have S := Lib.hid (wto_not hb h); clear hb
    go_enter Tryd.func15, Tryd.ntmps15
    go_wp2_with (go_at_call 9; refine (rhas_any _ _ H.out _).mono ?_; rintro e w' ⟨rfl, rfl⟩)
    go_ret
    exact ⟨ret_int S.out.symm, rfl⟩
  · have S := Lib.hid (refwto_walk hb h); clear hb
    have hi : 0 ≤ i ∧ i < 64 := (inr_iff i).1 (by unfold hasB at h; rw [Bool.and_eq_true] at h; exact h.1)
    obtain ⟨h0, h1⟩ := hi
    go_enter Tryd.func15, Tryd.ntmps15
    go_wp2_with (go_at_call 9; refine (rhas_any _ _ H.out _).mono ?_; rintro e w' ⟨rfl, rfl⟩)
    go_ret
    exact ⟨ret_int S.out, rfl⟩
theorem rposition_any (b i : Int) (hb : U64 b) (w : World) :
    Calls Tryd.prog 11 #[.int .u64 b, .int .i64 i] w fun e w' => e = .returned (.int .i64 (posI b i)) ∧ w = w' := by
  have H := Lib.hid hb; clear hb
  go_enter Tryd.func11, Tryd.ntmps11
  go_wp2
  go_loop [5, 6] (fun n x => ∃ (k : Nat), k ≤ 64 ∧ (k = 0 ∨ (k : Int) ≤ i) ∧ x = .int .i64 k ∧ n = .int .i64 (posI b k)) (fun _ x => 64 - (intOf x).toNat)
  case atStart => exact ⟨0, by omega, by omega, rfl, by rw [pos_lo (by omega)]⟩
  case round =>
    obtain ⟨k, hk, hki, rfl, rfl⟩ := hrel
    have r := pos_range b k
    have r0 := r.1
    have r1 := r.2
    have K := Lib.hid hki; clear hki r
    by_cases h1 : k < 64
    · by_cases h2 : (k : Int) < i
      · have S := Lib.hid (pos_succ (b := b) k)
        cases hh : hasB b k
        all_goals
          go_wp2_with (go_at_call 9; refine (rhas_any _ _ H.out _).mono ?_; rintro e w' ⟨rfl, rfl⟩)
          go_round
          case rel => exact ⟨k + 1, by omega, by omega, by go_num, by rw [Int.natCast_add, Int.natCast_one, S.out, hh]; go_num⟩
          case measure => simp [intOf]; omega
      · have e : posI b k = posI b i := by
          rcases K.out with h | h
          · subst h; rw [pos_lo (by omega), pos_lo (by omega)]
          · rw [show (k : Int) = i by omega]
        have S := Lib.hid e; clear e
        go_wp2
        go_ret
        exact ⟨ret_int S.out, rfl⟩
    · obtain rfl : k = 64 := by omega
      have S := Lib.hid (show posI b (64 : Nat) = posI b i by rw [pos_hi (by omega), pos_hi (by have := K.out; omega)])
      go_wp2
      go_ret
      exact ⟨ret_int S.out, rfl⟩
theorem rcount_any (b : Int) (hb : U64 b) (w : World) :
    Calls Tryd.prog 20 #[.int .u64 b] w fun e w' => e = .returned (.int .i64 (cntI b)) ∧ w = w' := by
  have S := Lib.hid (pos_hi (b := b) (i := 64) (by omega))
  have H := Lib.hid hb; clear hb
  go_enter Tryd.func20, Tryd.ntmps20
  go_wp2_with (go_at_call 11; refine (rposition_any _ _ H.out _).mono ?_; rintro e w' ⟨rfl, rfl⟩)
  go_ret
  exact ⟨ret_int S.out, rfl⟩
theorem u9 : U64 9 := by unfold U64; omega
theorem c9 : cntI 9 = 2 := by decide +kernel
theorem p9 : posI 9 3 = 1 := by decide +kernel
theorem a9 : atI 9 1 = 3 := by decide +kernel
theorem h9 : hasB 9 3 = true := by decide +kernel
theorem w9 : withI 9 1 = 11 := by decide +kernel
theorem awake_any (w : World) (T : Hid (Tab w)) :
    Calls Tryd.prog 18 #[] w fun e w' => e = .returned (.bool true) ∧ w = w' := by
  have e1 := c9
  have e2 := p9
  have e3 := a9
  have e4 := h9
  have e5 := w9
  go_enter Tryd.func18, Tryd.ntmps18
  go_wp2_with (first
    | (go_at_call 19; refine (count_any _ u9 _).mono ?_; rintro e w' ⟨rfl, rfl⟩)
    | (go_at_call 10; refine (position_any _ _ u9 _).mono ?_; rintro e w' ⟨rfl, rfl⟩)
    | (go_at_call 16; refine (at_any _ _ u9 _ T).mono ?_; rintro e w' ⟨rfl, rfl⟩)
    | (go_at_call 8; refine (has_any _ _ u9 _).mono ?_; rintro e w' ⟨rfl, rfl⟩)
    | (go_at_call 12; refine (with_any _ _ u9 _).mono ?_; rintro e w' ⟨rfl, rfl⟩))
  go_ret
  exact ⟨rfl, rfl⟩
end Go.Proofs.YtadmglkpjpfehaaDoor
