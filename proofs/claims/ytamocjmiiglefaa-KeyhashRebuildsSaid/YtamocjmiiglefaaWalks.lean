import Derived.Test.YtamocjmiiglefaaChecked
import Derived.Test.YtamocjmiiglefaaMath3
import Derived.WalkKit
import Derived.Lib.Hide
import Derived.WalkLawsBesides
namespace Go.Proofs.Ytamocjmiiglefaa
open Go.RowKit

theorem ret_int {k : IntKind} {a b : Int} (h : a = b) : Ending.returned (.int k a) = .returned (.int k b) := by rw [h]
theorem ret_bool {a b : Bool} (h : a = b) : Ending.returned (.bool a) = .returned (.bool b) := by rw [h]

/-! ### Slice -/
theorem slice_in (h : Int) (l : Nat) (hh : U64 h) (l1 : l < 11) (w : World) :
    Calls Try.prog 15 #[.int .u64 h, .int .i64 l] w fun e w' => e = .returned (.int .i64 (sl h l)) ∧ w = w' := by
  have h0 := hh.1
  have H := Lib.hid hh; clear hh
  go_enter Try.func15, Try.ntmps15
  go_wp2
  go_ret
  exact ⟨ret_int (shr_sl h l H.out), rfl⟩
theorem slice_lo (h : Int) (l : Int) (l0 : l < 0) (w : World) :
    Calls Try.prog 15 #[.int .u64 h, .int .i64 l] w fun e w' => e = .returned (.int .i64 0) ∧ w = w' := by
  go_enter Try.func15, Try.ntmps15
  go_wp2
  go_ret
  exact ⟨rfl, rfl⟩
theorem slice_hi (h : Int) (l : Int) (l0 : 11 ≤ l) (w : World) :
    Calls Try.prog 15 #[.int .u64 h, .int .i64 l] w fun e w' => e = .returned (.int .i64 0) ∧ w = w' := by
  go_enter Try.func15, Try.ntmps15
  go_wp2
  go_ret
  exact ⟨rfl, rfl⟩

/-! ### Common -/
theorem common_any (h k : Int) (c : Nat) (hh : U64 h) (hk : U64 k) (hc : IsCom h k c) (w : World) :
    Calls Try.prog 17 #[.int .u64 h, .int .u64 k] w fun e w' => e = .returned (.int .i64 c) ∧ w = w' := by
  have hle := hc.1
  have H := Lib.hid hh; clear hh
  have K := Lib.hid hk; clear hk
  have C := Lib.hid hc; clear hc
  go_enter Try.func17, Try.ntmps17
  go_wp2
  go_loop [6] (fun i => ∃ j : Nat, j ≤ c ∧ i = .int .i64 j) (fun i => 11 - (intOf i).toNat)
  case atStart => exact ⟨0, Nat.zero_le _, rfl⟩
  case round =>
    obtain ⟨j, hj, rfl⟩ := hrel
    by_cases hjc : j < c
    · have E := C.out.2.1 j hjc
      have hb : (sl h j != sl k j) = false := by simp [E]
      clear E
      go_wp2_with (go_at_call 15; refine (slice_in _ _ (by first | exact H.out | exact K.out) (by omega) _).mono ?_; rintro e w' ⟨rfl, rfl⟩)
      go_round
      case rel => exact ⟨j + 1, by omega, by go_num⟩
      case measure => simp [intOf]; omega
    · obtain rfl : j = c := by omega
      by_cases h11 : j < 11
      · have E := C.out.2.2 h11
        have hb : (sl h j != sl k j) = true := by simpa using E
        clear E
        go_wp2_with (go_at_call 15; refine (slice_in _ _ (by first | exact H.out | exact K.out) (by omega) _).mono ?_; rintro e w' ⟨rfl, rfl⟩)
        go_ret
        exact ⟨rfl, rfl⟩
      · go_wp2
        go_ret
        exact ⟨ret_int (by omega), rfl⟩
theorem hash_any (s : ByteArray) (m : Int) (hs : s.size ≤ 9223372036854775807) (w : World) :
    Calls Try.prog 13 #[.string s, .int .u64 m] w fun e w' => e = .returned (.int .u64 (hsh s m)) ∧ w = w' := by
  go_enter Try.func13, Try.ntmps13
  go_wp2
  go_loop [5, 9] (fun x i => ∃ j : Nat, j ≤ s.size ∧ i = .int .i64 j ∧ x = .int .u64 (fnv (s.data.toList.take j))) (fun _ i => s.size - (intOf i).toNat)
  case atStart => exact ⟨0, Nat.zero_le _, rfl, rfl⟩
  case round =>
    obtain ⟨j, hj, rfl, rfl⟩ := hrel
    by_cases hlt : j < s.size
    · have F := Lib.hid (fnv_take s j hlt)
      go_wp2
      go_round
      case rel => exact ⟨j + 1, by omega, by go_num, by rw [F.out, fstep_walk]⟩
      case measure => simp [intOf]; omega
    · have F : Hid (s.data.toList.take j = s.data.toList) := Lib.hid (List.take_of_length_le (by simp; omega))
      go_wp2
      go_ret
      exact ⟨ret_int (by rw [F.out, hsh]), rfl⟩

/-! ### The reference -/
theorem rhash_any (s : ByteArray) (m : Int) (hs : s.size ≤ 9223372036854775807) (w : World) :
    Calls Try.prog 14 #[.string s, .int .u64 m] w fun e w' => e = .returned (.int .u64 (hsh s m)) ∧ w = w' := by
  go_enter Try.func14, Try.ntmps14
  go_wp2
  go_loop [5, 6] (fun x i => ∃ j : Nat, j ≤ s.size ∧ i = .int .i64 j ∧ x = .int .u64 (fnv (s.data.toList.take j))) (fun _ i => s.size - (intOf i).toNat)
  case atStart => exact ⟨0, Nat.zero_le _, rfl, rfl⟩
  case round =>
    obtain ⟨j, hj, rfl, rfl⟩ := hrel
    by_cases hlt : j < s.size
    · have F := Lib.hid (fnv_take s j hlt)
      go_wp2
      go_round
      case rel => exact ⟨j + 1, by omega, by go_num, by rw [F.out, fstep_walk]⟩
      case measure => simp [intOf]; omega
    · have F : Hid (s.data.toList.take j = s.data.toList) := Lib.hid (List.take_of_length_le (by simp; omega))
      go_wp2
      go_ret
      exact ⟨ret_int (by rw [F.out, hsh]), rfl⟩

theorem rslice_in (h : Int) (l : Nat) (hh : U64 h) (l1 : l < 11) (w : World) :
    Calls Try.prog 16 #[.int .u64 h, .int .i64 l] w fun e w' => e = .returned (.int .i64 (sl h l)) ∧ w = w' := by
  have h0 := hh.1
  have H := Lib.hid hh; clear hh
  go_enter Try.func16, Try.ntmps16
  go_wp2
  go_loop [0, 1] (fun x i => ∃ j : Nat, j ≤ l ∧ i = .int .i64 j ∧ x = .int .u64 (dv h (l - j))) (fun _ i => (intOf i).toNat)
  case atStart => exact ⟨l, Nat.le_refl _, rfl, by rw [Nat.sub_self, dv_zero h h0]⟩
  case round =>
    obtain ⟨j, hj, rfl, rfl⟩ := hrel
    by_cases hlt : 0 < j
    · go_wp2
      go_round
      case rel => exact ⟨j - 1, by omega, by go_num, by rw [dv_succ _ _ H.out, show l - j + 1 = l - (j - 1) from by omega]⟩
      case measure => simp [intOf]; omega
    · obtain rfl : j = 0 := by omega
      go_wp2
      go_ret
      exact ⟨ret_int (dv_mod h l), rfl⟩
theorem rslice_lo (h : Int) (l : Int) (l0 : l < 0) (w : World) :
    Calls Try.prog 16 #[.int .u64 h, .int .i64 l] w fun e w' => e = .returned (.int .i64 0) ∧ w = w' := by
  go_enter Try.func16, Try.ntmps16
  go_wp2
  go_ret
  exact ⟨rfl, rfl⟩
theorem rslice_hi (h : Int) (l : Int) (l0 : 11 ≤ l) (w : World) :
    Calls Try.prog 16 #[.int .u64 h, .int .i64 l] w fun e w' => e = .returned (.int .i64 0) ∧ w = w' := by
  go_enter Try.func16, Try.ntmps16
  go_wp2
  go_ret
  exact ⟨rfl, rfl⟩
theorem rcommon_any (h k : Int) (c : Nat) (hh : U64 h) (hk : U64 k) (hc : IsCom h k c) (w : World) :
    Calls Try.prog 18 #[.int .u64 h, .int .u64 k] w fun e w' => e = .returned (.int .i64 c) ∧ w = w' := by
  have hle := hc.1
  have H := Lib.hid hh; clear hh
  have K := Lib.hid hk; clear hk
  have C := Lib.hid hc; clear hc
  go_enter Try.func18, Try.ntmps18
  go_wp2
  go_loop [5] (fun i => ∃ j : Nat, j ≤ c ∧ i = .int .i64 j) (fun i => 11 - (intOf i).toNat)
  case atStart => exact ⟨0, Nat.zero_le _, rfl⟩
  case round =>
    obtain ⟨j, hj, rfl⟩ := hrel
    by_cases hjc : j < c
    · have E := C.out.2.1 j hjc
      have hb : (sl h j == sl k j) = true := by simp [E]
      clear E
      go_wp2_with (go_at_call 16; refine (rslice_in _ _ (by first | exact H.out | exact K.out) (by omega) _).mono ?_; rintro e w' ⟨rfl, rfl⟩)
      go_round
      case rel => exact ⟨j + 1, by omega, by go_num⟩
      case measure => simp [intOf]; omega
    · obtain rfl : j = c := by omega
      by_cases h11 : j < 11
      · have E := C.out.2.2 h11
        have hb : (sl h j == sl k j) = false := by simpa using E
        clear E
        go_wp2_with (go_at_call 16; refine (rslice_in _ _ (by first | exact H.out | exact K.out) (by omega) _).mono ?_; rintro e w' ⟨rfl, rfl⟩)
        go_ret
        exact ⟨rfl, rfl⟩
      · go_wp2
        go_ret
        exact ⟨rfl, rfl⟩

/-! ### Less -/
theorem less_eq (h k : Int) (a b : ByteArray) (hh : U64 h) (hk : U64 k) (hc : IsCom h k 11) (w : World) :
    Calls Try.prog 19 #[.int .u64 h, .string a, .int .u64 k, .string b] w fun e w' => e = .returned (.bool (Op.bytesLess a.toList b.toList)) ∧ w = w' := by
  have H := Lib.hid hh; clear hh
  have K := Lib.hid hk; clear hk
  have C := Lib.hid hc; clear hc
  go_enter Try.func19, Try.ntmps19
  go_wp2_with (go_at_call 17; refine (common_any _ _ 11 H.out K.out C.out _).mono ?_; rintro e w' ⟨rfl, rfl⟩)
  go_ret
  exact ⟨rfl, rfl⟩
theorem less_ne (h k : Int) (a b : ByteArray) (c : Nat) (hh : U64 h) (hk : U64 k) (hc : IsCom h k c) (h11 : c < 11) (w : World) :
    Calls Try.prog 19 #[.int .u64 h, .string a, .int .u64 k, .string b] w fun e w' => e = .returned (.bool (decide (sl h c < sl k c))) ∧ w = w' := by
  have H := Lib.hid hh; clear hh
  have K := Lib.hid hk; clear hk
  have C := Lib.hid hc; clear hc
  go_enter Try.func19, Try.ntmps19
  go_wp2_with (first | (go_at_call 17; refine (common_any _ _ c H.out K.out C.out _).mono ?_; rintro e w' ⟨rfl, rfl⟩) | (go_at_call 15; refine (slice_in _ _ (by first | exact H.out | exact K.out) (by omega) _).mono ?_; rintro e w' ⟨rfl, rfl⟩))
  go_ret
  exact ⟨rfl, rfl⟩
theorem rless_eq (h k : Int) (a b : ByteArray) (hh : U64 h) (hk : U64 k) (hc : IsCom h k 11) (w : World) :
    Calls Try.prog 20 #[.int .u64 h, .string a, .int .u64 k, .string b] w fun e w' => e = .returned (.bool (Op.bytesLess a.toList b.toList)) ∧ w = w' := by
  have H := Lib.hid hh; clear hh
  have K := Lib.hid hk; clear hk
  have C := Lib.hid hc; clear hc
  go_enter Try.func20, Try.ntmps20
  go_wp2
  go_loop [9] (fun i => ∃ j : Nat, j ≤ 11 ∧ i = .int .i64 j) (fun i => 11 - (intOf i).toNat)
  case atStart => exact ⟨0, Nat.zero_le _, rfl⟩
  case round =>
    obtain ⟨j, hj, rfl⟩ := hrel
    by_cases hjc : j < 11
    · have E := C.out.2.1 j hjc
      have hb : (sl h j != sl k j) = false := by simp [E]
      clear E
      go_wp2_with (go_at_call 16; refine (rslice_in _ _ (by first | exact H.out | exact K.out) (by omega) _).mono ?_; rintro e w' ⟨rfl, rfl⟩)
      go_round
      case rel => exact ⟨j + 1, by omega, by go_num⟩
      case measure => simp [intOf]; omega
    · go_wp2
      go_ret
      exact ⟨rfl, rfl⟩
theorem rless_ne (h k : Int) (a b : ByteArray) (c : Nat) (hh : U64 h) (hk : U64 k) (hc : IsCom h k c) (h11 : c < 11) (w : World) :
    Calls Try.prog 20 #[.int .u64 h, .string a, .int .u64 k, .string b] w fun e w' => e = .returned (.bool (decide (sl h c < sl k c))) ∧ w = w' := by
  have H := Lib.hid hh; clear hh
  have K := Lib.hid hk; clear hk
  have C := Lib.hid hc; clear hc
  go_enter Try.func20, Try.ntmps20
  go_wp2
  go_loop [9] (fun i => ∃ j : Nat, j ≤ c ∧ i = .int .i64 j) (fun i => 11 - (intOf i).toNat)
  case atStart => exact ⟨0, Nat.zero_le _, rfl⟩
  case round =>
    obtain ⟨j, hj, rfl⟩ := hrel
    by_cases hjc : j < c
    · have E := C.out.2.1 j hjc
      have hb : (sl h j != sl k j) = false := by simp [E]
      clear E
      go_wp2_with (go_at_call 16; refine (rslice_in _ _ (by first | exact H.out | exact K.out) (by omega) _).mono ?_; rintro e w' ⟨rfl, rfl⟩)
      go_round
      case rel => exact ⟨j + 1, by omega, by go_num⟩
      case measure => simp [intOf]; omega
    · obtain rfl : j = c := by omega
      have E := C.out.2.2 h11
      have hb : (sl h j != sl k j) = true := by simpa using E
      clear E
      go_wp2_with (go_at_call 16; refine (rslice_in _ _ (by first | exact H.out | exact K.out) (by omega) _).mono ?_; rintro e w' ⟨rfl, rfl⟩)
      go_ret
      exact ⟨rfl, rfl⟩

/-! ### Valid -/
theorem valid_any (s : ByteArray) (w : World) :
    Calls Try.prog 11 #[.string s] w fun e w' => e = .returned (.bool (decide ((s.size : Int) ≤ 64))) ∧ w = w' := by
  go_enter Try.func11, Try.ntmps11
  go_wp2
  go_ret
  exact ⟨rfl, rfl⟩
theorem rvalid_any (s : ByteArray) (w : World) :
    Calls Try.prog 12 #[.string s] w fun e w' => e = .returned (.bool (decide ((s.size : Int) ≤ 64))) ∧ w = w' := by
  go_enter Try.func12, Try.ntmps12
  go_wp2
  go_ret
  exact ⟨rfl, rfl⟩

/-! ### In one contract each -/
theorem slice_any (h l : Int) (hh : U64 h) (w : World) :
    Calls Try.prog 15 #[.int .u64 h, .int .i64 l] w fun e w' => e = .returned (.int .i64 (slA h l)) ∧ w = w' := by
  by_cases lo : l < 0
  · rw [slA_lo h l lo]; exact slice_lo h l lo w
  · by_cases hi : 11 ≤ l
    · rw [slA_hi h l hi]; exact slice_hi h l hi w
    · obtain ⟨n, rfl⟩ := Int.eq_ofNat_of_zero_le (by omega : 0 ≤ l)
      rw [slA_in h n (by omega)]; exact slice_in h n hh (by omega) w
theorem rslice_any (h l : Int) (hh : U64 h) (w : World) :
    Calls Try.prog 16 #[.int .u64 h, .int .i64 l] w fun e w' => e = .returned (.int .i64 (slA h l)) ∧ w = w' := by
  by_cases lo : l < 0
  · rw [slA_lo h l lo]; exact rslice_lo h l lo w
  · by_cases hi : 11 ≤ l
    · rw [slA_hi h l hi]; exact rslice_hi h l hi w
    · obtain ⟨n, rfl⟩ := Int.eq_ofNat_of_zero_le (by omega : 0 ≤ l)
      rw [slA_in h n (by omega)]; exact rslice_in h n hh (by omega) w
theorem less_any (h k : Int) (a b : ByteArray) (hh : U64 h) (hk : U64 k) (w : World) :
    Calls Try.prog 19 #[.int .u64 h, .string a, .int .u64 k, .string b] w fun e w' => e = .returned (.bool (lessB h a k b)) ∧ w = w' := by
  obtain ⟨c, hc⟩ := com_ex h k
  by_cases h11 : c < 11
  · rw [lessB_ne a b hc h11]; exact less_ne h k a b c hh hk hc h11 w
  · obtain rfl : c = 11 := by have := hc.1; omega
    rw [lessB_eq a b hc]; exact less_eq h k a b hh hk hc w
theorem rless_any (h k : Int) (a b : ByteArray) (hh : U64 h) (hk : U64 k) (w : World) :
    Calls Try.prog 20 #[.int .u64 h, .string a, .int .u64 k, .string b] w fun e w' => e = .returned (.bool (lessB h a k b)) ∧ w = w' := by
  obtain ⟨c, hc⟩ := com_ex h k
  by_cases h11 : c < 11
  · rw [lessB_ne a b hc h11]; exact rless_ne h k a b c hh hk hc h11 w
  · obtain rfl : c = 11 := by have := hc.1; omega
    rw [lessB_eq a b hc]; exact rless_eq h k a b hh hk hc w
theorem common_flip (h k : Int) (hh : U64 h) (w : World) :
    Calls Try.prog 17 #[.int .u64 h, .int .u64 (bits BinOp.xor IntKind.u64 h (IntKind.u64.wrap (2 ^ (k % 64).toNat)))] w fun e w' => e = .returned (.int .i64 (k % 64 / 6)) ∧ w = w' := by
  have e : (k % 64 / 6) = (((k % 64).toNat / 6 : Nat) : Int) := by omega
  rw [e]
  exact common_any h _ _ hh (u64_flip h k hh) (isCom_flip h k hh) w
theorem hash_all (s : ByteArray) (hs : s.size ≤ 9223372036854775807) (w : World) :
    Calls Try.prog 13 #[.string s, .int .u64 18446744073709551615] w fun e w' => e = .returned (.int .u64 (fnv s.data.toList)) ∧ w = w' := by
  rw [← hsh_all]; exact hash_any s _ hs w
theorem hash_e (w : World) : Calls Try.prog 13 #[.string { data := #[] }, .int .u64 18446744073709551615] w fun e w' => e = .returned (.int .u64 14695981039346656037) ∧ w = w' :=
  hash_all { data := #[] } (by decide) w

/-! ### The examples of the chapter -/
def keyA : ByteArray := { data := #[97] }
theorem hash_a (w : World) : Calls Try.prog 13 #[.string { data := #[97] }, .int .u64 18446744073709551615] w fun e w' => e = .returned (.int .u64 12638187200555641996) ∧ w = w' := by
  have e : hsh keyA 18446744073709551615 = 12638187200555641996 := by decide +kernel
  rw [← e]
  exact hash_any keyA _ (by decide) w
theorem slice_4095 (w : World) : Calls Try.prog 15 #[.int .u64 4095, .int .i64 1] w fun e w' => e = .returned (.int .i64 63) ∧ w = w' := by
  have e : sl 4095 1 = 63 := by decide +kernel
  rw [← e]
  exact slice_in 4095 1 (by unfold U64; omega) (by omega) w
theorem isCom_1_65 : IsCom 1 65 1 := ⟨by omega, fun j hj => by obtain rfl : j = 0 := by omega
                                                               decide +kernel, fun _ => by decide +kernel⟩
theorem common_1_65 (w : World) : Calls Try.prog 17 #[.int .u64 1, .int .u64 65] w fun e w' => e = .returned (.int .i64 1) ∧ w = w' :=
  common_any 1 65 1 (by unfold U64; omega) (by unfold U64; omega) isCom_1_65 w
theorem valid_a (w : World) : Calls Try.prog 11 #[.string { data := #[97] }] w fun e w' => e = .returned (.bool true) ∧ w = w' := by
  have e : decide (((keyA.size : Nat) : Int) ≤ 64) = true := by decide +kernel
  rw [← e]
  exact valid_any keyA w
theorem awake_any (w : World) : Calls Try.prog 10 #[] w fun e w' => e = .returned (.bool true) ∧ w = w' := by
  go_enter Try.func10, Try.ntmps10
  go_wp2_with (first | (go_at_call 13; refine (hash_a _).mono ?_; rintro e w' ⟨rfl, rfl⟩) | (go_at_call 15; refine (slice_4095 _).mono ?_; rintro e w' ⟨rfl, rfl⟩) | (go_at_call 17; refine (common_1_65 _).mono ?_; rintro e w' ⟨rfl, rfl⟩) | (go_at_call 11; refine (valid_a _).mono ?_; rintro e w' ⟨rfl, rfl⟩))
  go_ret
  exact ⟨rfl, rfl⟩
end Go.Proofs.Ytamocjmiiglefaa
