/-
  The contracts of the functions of layer 2 that layer 4 calls: how many elements a bitmap has.
-/
import Derived.Test.YtcmnmimkjkpimaaChecked
import Derived.Test.YtcmnmimkjkpimaaBitB
import Derived.WalkKit
import Derived.Lib.Hide
import Derived.WalkLawsBesides
set_option linter.unusedVariables false
set_option maxRecDepth 100000
namespace Go.Proofs.Ytcmnmimkjkpimaa
open Go.RowKit
theorem ret_int {k : IntKind} {a b : Int} (h : a = b) : Ending.returned (.int k a) = .returned (.int k b) := by rw [h]
theorem ret_bool {a b : Bool} (h : a = b) : Ending.returned (.bool a) = .returned (.bool b) := by rw [h]
theorem wl_any (b : Int) (hb : U64 b) (h0 : 0 < b) (w : World) :
    Calls Try.prog 81 #[.int .u64 b] w fun e w' => e = .returned (.int .u64 (wlI b)) ∧ w = w' := by
  have hu := hb.2
  have H := Lib.hid hb; clear hb
  go_enter Try.func81, Try.ntmps81
  go_wp2
  go_ret
  exact ⟨ret_int (wl_walk H.out h0), rfl⟩
theorem count_any (b : Int) (hb : U64 b) (w : World) :
    Calls Try.prog 76 #[.int .u64 b] w fun e w' => e = .returned (.int .i64 (cntI b)) ∧ w = w' := by
  have H := Lib.hid hb; clear hb
  go_enter Try.func76, Try.ntmps76
  go_wp2
  go_loop [0, 3] (fun x n => ∃ (m c : Int), U64 m ∧ x = .int .u64 m ∧ n = .int .i64 c ∧ 0 ≤ c ∧ c + cntI m = cntI b) (fun x _ => (intOf x).toNat)
  case atStart => exact ⟨b, 0, H.out, rfl, rfl, by omega, by omega⟩
  case round =>
    obtain ⟨m, c, hm, rfl, rfl, hc0, hc⟩ := hrel
    have r1 := cnt_range b
    have r2 := cnt_range m
    have hcu : c ≤ 64 := by omega
    have M := Lib.hid hm
    have hm0 := hm.1
    have C := Lib.hid hc; clear hc hm r1 r2
    by_cases h0 : 0 < m
    · have hz : (m != 0) = true := by simp; omega
      have W := Lib.hid (wl_lt' h0)
      have S := Lib.hid (cnt_step M.out h0)
      go_wp2_with (go_at_call 81; refine (wl_any _ M.out h0 _).mono ?_; rintro e w' ⟨rfl, rfl⟩)
      go_round
      case rel => exact ⟨_, c + 1, wl_u64 M.out, rfl, by go_num, by omega, by have := C.out; have := S.out; omega⟩
      case measure => have := W.out; simp [intOf]; omega
    · obtain rfl : m = 0 := by omega
      go_wp2
      go_ret
      exact ⟨ret_int (by have := C.out; rw [cnt_zero] at this; omega), rfl⟩
theorem rhas_any (b i : Int) (hb : U64 b) (w : World) :
    Calls Try.prog 73 #[.int .u64 b, .int .i64 i] w fun e w' => e = .returned (.bool (hasB b i)) ∧ w = w' := by
  by_cases h : 0 ≤ i ∧ i < 64
  · obtain ⟨h0, h1⟩ := h
    have S := Lib.hid (refhas_walk hb ((inr_iff i).2 ⟨h0, h1⟩)); clear hb
    go_enter Try.func73, Try.ntmps73
    go_wp2
    go_ret
    exact ⟨ret_bool S.out, rfl⟩
  · have S := Lib.hid (has_out (b := b) ((inr_not i).2 h)); clear hb
    by_cases h0 : i < 0
    · clear h
      go_enter Try.func73, Try.ntmps73
      go_wp2
      go_ret
      exact ⟨ret_bool S.out.symm, rfl⟩
    · have h1 : 64 ≤ i := by omega
      clear h
      go_enter Try.func73, Try.ntmps73
      go_wp2
      go_ret
      exact ⟨ret_bool S.out.symm, rfl⟩
theorem rposition_any (b i : Int) (hb : U64 b) (w : World) :
    Calls Try.prog 67 #[.int .u64 b, .int .i64 i] w fun e w' => e = .returned (.int .i64 (posI b i)) ∧ w = w' := by
  have H := Lib.hid hb; clear hb
  go_enter Try.func67, Try.ntmps67
  go_wp2
  go_loop [5, 6] (fun n x => ∃ (k : Nat), k ≤ 64 ∧ (k = 0 ∨ (k : Int) ≤ i) ∧ x = .int .i64 k ∧ n = .int .i64 (posI b k)) (fun _ x => 64 - (intOf x).toNat)
  case atStart => exact ⟨0, by omega, by omega, rfl, by rw [pos_lo (by omega)]⟩
  case round =>
    obtain ⟨k, hk, hki, rfl, rfl⟩ := hrel
    have r := pos_range b k
    have r0 := r.1
    have r1 := r.2
    have K := Lib.hid hki; clear hki r
    by_cases h1 : k < 64
    · by_cases h2 : (k : Int) < i
      · have S := Lib.hid (pos_succ (b := b) k)
        cases hh : hasB b k
        all_goals
          go_wp2_with (go_at_call 73; refine (rhas_any _ _ H.out _).mono ?_; rintro e w' ⟨rfl, rfl⟩)
          go_round
          case rel => exact ⟨k + 1, by omega, by omega, by go_num, by rw [Int.natCast_add, Int.natCast_one, S.out, hh]; go_num⟩
          case measure => simp [intOf]; omega
      · have e : posI b k = posI b i := by
          rcases K.out with h | h
          · subst h; rw [pos_lo (by omega), pos_lo (by omega)]
          · rw [show (k : Int) = i by omega]
        have S := Lib.hid e; clear e
        go_wp2
        go_ret
        exact ⟨ret_int S.out, rfl⟩
    · obtain rfl : k = 64 := by omega
      have S := Lib.hid (show posI b (64 : Nat) = posI b i by rw [pos_hi (by omega), pos_hi (by have := K.out; omega)])
      go_wp2
      go_ret
      exact ⟨ret_int S.out, rfl⟩
theorem rcount_any (b : Int) (hb : U64 b) (w : World) :
    Calls Try.prog 61 #[.int .u64 b] w fun e w' => e = .returned (.int .i64 (cntI b)) ∧ w = w' := by
  have S := Lib.hid (pos_hi (b := b) (i := 64) (by omega))
  have H := Lib.hid hb; clear hb
  go_enter Try.func61, Try.ntmps61
  go_wp2_with (go_at_call 67; refine (rposition_any _ _ H.out _).mono ?_; rintro e w' ⟨rfl, rfl⟩)
  go_ret
  exact ⟨ret_int S.out, rfl⟩
end Go.Proofs.Ytcmnmimkjkpimaa
