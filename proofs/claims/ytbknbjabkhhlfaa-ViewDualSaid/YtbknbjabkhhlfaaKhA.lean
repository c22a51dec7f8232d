/-
  Layer 1: slices of hash values, their first difference; the walks of Valid, Slice, Common and of the reference's.
-/
import Derived.Test.YtbknbjabkhhlfaaMemR
set_option linter.unusedVariables false
set_option maxRecDepth 100000
namespace Go.Proofs.Ytbknbjabkhhlfaa
open Go.RowKit
def sl (h : Int) (l : Nat) : Int := ((h.toNat / 64 ^ l % 64 : Nat) : Int)
theorem sl_range (h : Int) (l : Nat) : 0 ≤ sl h l ∧ sl h l < 64 := by unfold sl; omega
theorem shr_sl (h : Int) (l : Nat) (hh : U64 h) :
    wrap64 (bits BinOp.and IntKind.u64 (h / 2 ^ (6 * (l : Int)).toNat) 63) = sl h l := by
  obtain ⟨h0, h1⟩ := hh
  obtain ⟨n, rfl⟩ := Int.eq_ofNat_of_zero_le h0
  have e : (6 * (l : Int)).toNat = 6 * l := by omega
  have e2 : ((n : Int) / 2 ^ (6 * l)) = ((n / 2 ^ (6 * l) : Nat) : Int) := by simp
  have hlt : n / 2 ^ (6 * l) < 18446744073709551616 := Nat.lt_of_le_of_lt (Nat.div_le_self _ _) (by omega)
  rw [e, e2, show (63 : Int) = ((63 : Nat) : Int) from rfl, u64_and_nat _ 63 hlt (by decide), nat_mask6]
  have p : (2 : Nat) ^ (6 * l) = 64 ^ l := by rw [Nat.pow_mul]
  rw [p]; unfold sl
  have q : ((n : Int)).toNat = n := rfl
  rw [q]
  exact IntWalk.wrap64_in _ (by omega)
def dv (h : Int) (n : Nat) : Int := ((h.toNat / 64 ^ n : Nat) : Int)
theorem dv_range (h : Int) (n : Nat) (hh : U64 h) : 0 ≤ dv h n ∧ dv h n ≤ 18446744073709551615 := by
  have := Nat.div_le_self h.toNat (64 ^ n)
  unfold dv U64 at *
  generalize h.toNat / 64 ^ n = q at *
  omega
theorem dv_zero (h : Int) (h0 : 0 ≤ h) : dv h 0 = h := by unfold dv; simp; omega
theorem dv_succ (h : Int) (n : Nat) (hh : U64 h) : IntKind.u64.wrap ((dv h n).tdiv 64) = dv h (n + 1) := by
  have r := dv_range h n hh
  rw [IntWalk.u64_quo _ _ ⟨r.1, r.2, by omega⟩]
  unfold dv; rw [Nat.pow_succ, ← Nat.div_div_eq_div_mul]; omega
theorem dv_mod (h : Int) (n : Nat) : wrap64 ((dv h n).tmod 64) = sl h n := by
  have r : 0 ≤ dv h n := Int.natCast_nonneg _
  rw [IntWalk.rem_in _ _ r]
  have e : dv h n % 64 = sl h n := by unfold dv sl; rw [Int.natCast_emod]; rfl
  have := sl_range h n
  rw [e, IntWalk.wrap64_in _ (by omega)]
def IsCom (h k : Int) (c : Nat) : Prop := c ≤ 11 ∧ (∀ j, j < c → sl h j = sl k j) ∧ (c < 11 → sl h c ≠ sl k c)
theorem com_from (h k : Int) : ∀ n c : Nat, n + c = 11 → (∀ j, j < c → sl h j = sl k j) → ∃ c, IsCom h k c
  | 0, c, e, hc => ⟨c, by omega, hc, fun h => by omega⟩
  | n + 1, c, e, hc => by
    by_cases d : sl h c = sl k c
    · exact com_from h k n (c + 1) (by omega) fun j hj => by
        by_cases hjc : j = c
        · subst hjc; exact d
        · exact hc j (by omega)
    · exact ⟨c, by omega, hc, fun _ => d⟩
theorem com_ex (h k : Int) : ∃ c, IsCom h k c := com_from h k 11 0 rfl fun j hj => by omega
theorem com_un {h k : Int} {c d : Nat} (a : IsCom h k c) (b : IsCom h k d) : c = d := by
  obtain ⟨a1, a2, a3⟩ := a
  obtain ⟨b1, b2, b3⟩ := b
  rcases Nat.lt_trichotomy c d with h | h | h
  · exact absurd (b2 c h) (a3 (by omega))
  · exact h
  · exact absurd (a2 d h) (b3 (by omega))
def slA (h l : Int) : Int := if 0 ≤ l ∧ l < 11 then sl h l.toNat else 0
theorem slA_in (h : Int) (l : Nat) (hl : l < 11) : slA h l = sl h l := by unfold slA; rw [if_pos (by omega)]; rfl
theorem slA_lo (h l : Int) (hl : l < 0) : slA h l = 0 := by unfold slA; rw [if_neg (by omega)]
theorem slA_hi (h l : Int) (hl : 11 ≤ l) : slA h l = 0 := by unfold slA; rw [if_neg (by omega)]
theorem slA_range (h l : Int) : 0 ≤ slA h l ∧ slA h l < 64 := by
  unfold slA; split
  · exact sl_range _ _
  · omega
theorem u64_of_nat (n : Nat) (h : n < 18446744073709551616) : U64 (n : Int) := by unfold U64; omega
theorem pow64 (l : Nat) : (64 : Nat) ^ l = 2 ^ (6 * l) := by rw [Nat.pow_mul]
theorem nat_flip (x n j : Nat) : (x ^^^ 2 ^ n) / 64 ^ j % 64 = (x / 64 ^ j % 64) ^^^ (2 ^ n / 64 ^ j % 64) := by
  rw [pow64, ← Nat.shiftRight_eq_div_pow, Nat.shiftRight_xor_distrib, Nat.shiftRight_eq_div_pow, Nat.shiftRight_eq_div_pow]
  rw [show (64 : Nat) = 2 ^ 6 from rfl, Nat.xor_mod_two_pow]
theorem bit_low (n j : Nat) (h : j < n / 6) : 2 ^ n / 64 ^ j % 64 = 0 := by
  rw [pow64, Nat.pow_div (by omega) (by omega)]
  have e : n - 6 * j = 6 + (n - 6 * j - 6) := by omega
  rw [e, Nat.pow_add]; omega
theorem bit_at (n : Nat) : 2 ^ n / 64 ^ (n / 6) % 64 ≠ 0 := by
  rw [pow64, Nat.pow_div (by omega) (by omega)]
  have e : n - 6 * (n / 6) = n % 6 := by omega
  rw [e]
  have h : n % 6 < 6 := by omega
  generalize n % 6 = q at h
  have : q = 0 ∨ q = 1 ∨ q = 2 ∨ q = 3 ∨ q = 4 ∨ q = 5 := by omega
  rcases this with h | h | h | h | h | h <;> subst h <;> decide
theorem flip_eq (h k : Int) (hh : U64 h) : bits BinOp.xor IntKind.u64 h (IntKind.u64.wrap (2 ^ (k % 64).toNat)) = ((h.toNat ^^^ 2 ^ (k % 64).toNat : Nat) : Int) ∧ (h.toNat ^^^ 2 ^ (k % 64).toNat) < 18446744073709551616 := by
  have hn : (k % 64).toNat < 64 := by omega
  generalize (k % 64).toNat = n at hn
  have hp : (2 : Nat) ^ n < 2 ^ 64 := Nat.pow_lt_pow_right (by omega) hn
  have e : (2 : Int) ^ n = ((2 ^ n : Nat) : Int) := by simp
  have hx : h.toNat < 2 ^ 64 := by simp only [Nat.reducePow]; unfold U64 at hh; omega
  have hlt := Nat.xor_lt_two_pow hx hp
  simp only [Nat.reducePow] at hp hlt
  rw [e]
  clear e
  generalize (2 : Nat) ^ n = p at *
  rw [IntWalk.u64_in _ (by omega), u64_xor _ _ hh.1 hh.2 (by omega) (by omega)]
  exact ⟨rfl, hlt⟩
theorem isCom_flip (h k : Int) (hh : U64 h) : IsCom h (bits BinOp.xor IntKind.u64 h (IntKind.u64.wrap (2 ^ (k % 64).toNat))) ((k % 64).toNat / 6) := by
  obtain ⟨e, _⟩ := flip_eq h k hh
  rw [e]
  have hn : (k % 64).toNat < 64 := by omega
  generalize (k % 64).toNat = n at hn
  refine ⟨by omega, fun j hj => ?_, fun _ => ?_⟩
  · unfold sl; rw [Int.toNat_natCast, nat_flip, bit_low n j hj, Nat.xor_zero]
  · unfold sl; rw [Int.toNat_natCast, nat_flip]
    intro hc
    have hc' : h.toNat / 64 ^ (n / 6) % 64 = (h.toNat / 64 ^ (n / 6) % 64) ^^^ (2 ^ n / 64 ^ (n / 6) % 64) := by omega
    have h0 := bit_at n
    generalize 2 ^ n / 64 ^ (n / 6) % 64 = b at *
    generalize h.toNat / 64 ^ (n / 6) % 64 = x at *
    apply h0
    have : x ^^^ x = x ^^^ (x ^^^ b) := by rw [← hc']
    rw [Nat.xor_self, ← Nat.xor_assoc, Nat.xor_self, Nat.zero_xor] at this
    exact this.symm
theorem u64_flip (h k : Int) (hh : U64 h) : U64 (bits BinOp.xor IntKind.u64 h (IntKind.u64.wrap (2 ^ (k % 64).toNat))) := by
  rw [(flip_eq h k hh).1]; exact u64_of_nat _ (flip_eq h k hh).2
theorem slice_in (h : Int) (l : Nat) (hh : U64 h) (l1 : l < 11) (w : World) :
    Calls Try.prog 42 #[.int .u64 h, .int .i64 l] w fun e w' => e = .returned (.int .i64 (sl h l)) ∧ w = w' := by
  have h0 := hh.1
  have H := Lib.hid hh; clear hh
  go_enter Try.func42, Try.ntmps42
  go_wp2
  go_ret
  exact ⟨ret_int (shr_sl h l H.out), rfl⟩
theorem slice_lo (h : Int) (l : Int) (l0 : l < 0) (w : World) :
    Calls Try.prog 42 #[.int .u64 h, .int .i64 l] w fun e w' => e = .returned (.int .i64 0) ∧ w = w' := by
  go_enter Try.func42, Try.ntmps42
  go_wp2
  go_ret
  exact ⟨rfl, rfl⟩
theorem slice_hi (h : Int) (l : Int) (l0 : 11 ≤ l) (w : World) :
    Calls Try.prog 42 #[.int .u64 h, .int .i64 l] w fun e w' => e = .returned (.int .i64 0) ∧ w = w' := by
  go_enter Try.func42, Try.ntmps42
  go_wp2
  go_ret
  exact ⟨rfl, rfl⟩
theorem common_any (h k : Int) (c : Nat) (hh : U64 h) (hk : U64 k) (hc : IsCom h k c) (w : World) :
    Calls Try.prog 40 #[.int .u64 h, .int .u64 k] w fun e w' => e = .returned (.int .i64 c) ∧ w = w' := by
  have hle := hc.1
  have H := Lib.hid hh; clear hh
  have K := Lib.hid hk; clear hk
  have C := Lib.hid hc; clear hc
  go_enter Try.func40, Try.ntmps40
  go_wp2
  go_loop [6] (fun i => ∃ j : Nat, j ≤ c ∧ i = .int .i64 j) (fun i => 11 - (intOf i).toNat)
  case atStart => exact ⟨0, Nat.zero_le _, rfl⟩
  case round =>
    obtain ⟨j, hj, rfl⟩ := hrel
    by_cases hjc : j < c
    · have E := C.out.2.1 j hjc
      have hb : (sl h j != sl k j) = false := by simp [E]
      clear E
      go_wp2_with (go_at_call 42; refine (slice_in _ _ (by first | exact H.out | exact K.out) (by omega) _).mono ?_; rintro e w' ⟨rfl, rfl⟩)
      go_round
      case rel => exact ⟨j + 1, by omega, by go_num⟩
      case measure => simp [intOf]; omega
    · obtain rfl : j = c := by omega
      by_cases h11 : j < 11
      · have E := C.out.2.2 h11
        have hb : (sl h j != sl k j) = true := by simpa using E
        clear E
        go_wp2_with (go_at_call 42; refine (slice_in _ _ (by first | exact H.out | exact K.out) (by omega) _).mono ?_; rintro e w' ⟨rfl, rfl⟩)
        go_ret
        exact ⟨rfl, rfl⟩
      · go_wp2
        go_ret
        exact ⟨ret_int (by omega), rfl⟩
theorem rslice_in (h : Int) (l : Nat) (hh : U64 h) (l1 : l < 11) (w : World) :
    Calls Try.prog 31 #[.int .u64 h, .int .i64 l] w fun e w' => e = .returned (.int .i64 (sl h l)) ∧ w = w' := by
  have h0 := hh.1
  have H := Lib.hid hh; clear hh
  go_enter Try.func31, Try.ntmps31
  go_wp2
  go_loop [0, 1] (fun x i => ∃ j : Nat, j ≤ l ∧ i = .int .i64 j ∧ x = .int .u64 (dv h (l - j))) (fun _ i => (intOf i).toNat)
  case atStart => exact ⟨l, Nat.le_refl _, rfl, by rw [Nat.sub_self, dv_zero h h0]⟩
  case round =>
    obtain ⟨j, hj, rfl, rfl⟩ := hrel
    by_cases hlt : 0 < j
    · go_wp2
      go_round
      case rel => exact ⟨j - 1, by omega, by go_num, by rw [dv_succ _ _ H.out, show l - j + 1 = l - (j - 1) from by omega]⟩
      case measure => simp [intOf]; omega
    · obtain rfl : j = 0 := by omega
      go_wp2
      go_ret
      exact ⟨ret_int (dv_mod h l), rfl⟩
theorem rslice_lo (h : Int) (l : Int) (l0 : l < 0) (w : World) :
    Calls Try.prog 31 #[.int .u64 h, .int .i64 l] w fun e w' => e = .returned (.int .i64 0) ∧ w = w' := by
  go_enter Try.func31, Try.ntmps31
  go_wp2
  go_ret
  exact ⟨rfl, rfl⟩
theorem rslice_hi (h : Int) (l : Int) (l0 : 11 ≤ l) (w : World) :
    Calls Try.prog 31 #[.int .u64 h, .int .i64 l] w fun e w' => e = .returned (.int .i64 0) ∧ w = w' := by
  go_enter Try.func31, Try.ntmps31
  go_wp2
  go_ret
  exact ⟨rfl, rfl⟩
theorem rcommon_any (h k : Int) (c : Nat) (hh : U64 h) (hk : U64 k) (hc : IsCom h k c) (w : World) :
    Calls Try.prog 17 #[.int .u64 h, .int .u64 k] w fun e w' => e = .returned (.int .i64 c) ∧ w = w' := by
  have hle := hc.1
  have H := Lib.hid hh; clear hh
  have K := Lib.hid hk; clear hk
  have C := Lib.hid hc; clear hc
  go_enter Try.func17, Try.ntmps17
  go_wp2
  go_loop [5] (fun i => ∃ j : Nat, j ≤ c ∧ i = .int .i64 j) (fun i => 11 - (intOf i).toNat)
  case atStart => exact ⟨0, Nat.zero_le _, rfl⟩
  case round =>
    obtain ⟨j, hj, rfl⟩ := hrel
    by_cases hjc : j < c
    · have E := C.out.2.1 j hjc
      have hb : (sl h j == sl k j) = true := by simp [E]
      clear E
      go_wp2_with (go_at_call 31; refine (rslice_in _ _ (by first | exact H.out | exact K.out) (by omega) _).mono ?_; rintro e w' ⟨rfl, rfl⟩)
      go_round
      case rel => exact ⟨j + 1, by omega, by go_num⟩
      case measure => simp [intOf]; omega
    · obtain rfl : j = c := by omega
      by_cases h11 : j < 11
      · have E := C.out.2.2 h11
        have hb : (sl h j == sl k j) = false := by simpa using E
        clear E
        go_wp2_with (go_at_call 31; refine (rslice_in _ _ (by first | exact H.out | exact K.out) (by omega) _).mono ?_; rintro e w' ⟨rfl, rfl⟩)
        go_ret
        exact ⟨rfl, rfl⟩
      · go_wp2
        go_ret
        exact ⟨rfl, rfl⟩
theorem kvalid_any (s : ByteArray) (w : World) :
    Calls Try.prog 39 #[.string s] w fun e w' => e = .returned (.bool (decide ((s.size : Int) ≤ 64))) ∧ w = w' := by
  go_enter Try.func39, Try.ntmps39
  go_wp2
  go_ret
  exact ⟨rfl, rfl⟩
theorem slice_any (h l : Int) (hh : U64 h) (w : World) :
    Calls Try.prog 42 #[.int .u64 h, .int .i64 l] w fun e w' => e = .returned (.int .i64 (slA h l)) ∧ w = w' := by
  by_cases lo : l < 0
  · rw [slA_lo h l lo]; exact slice_lo h l lo w
  · by_cases hi : 11 ≤ l
    · rw [slA_hi h l hi]; exact slice_hi h l hi w
    · obtain ⟨n, rfl⟩ := Int.eq_ofNat_of_zero_le (by omega : 0 ≤ l)
      rw [slA_in h n (by omega)]; exact slice_in h n hh (by omega) w
theorem rslice_any (h l : Int) (hh : U64 h) (w : World) :
    Calls Try.prog 31 #[.int .u64 h, .int .i64 l] w fun e w' => e = .returned (.int .i64 (slA h l)) ∧ w = w' := by
  by_cases lo : l < 0
  · rw [slA_lo h l lo]; exact rslice_lo h l lo w
  · by_cases hi : 11 ≤ l
    · rw [slA_hi h l hi]; exact rslice_hi h l hi w
    · obtain ⟨n, rfl⟩ := Int.eq_ofNat_of_zero_le (by omega : 0 ≤ l)
      rw [slA_in h n (by omega)]; exact rslice_in h n hh (by omega) w
end Go.Proofs.Ytbknbjabkhhlfaa
