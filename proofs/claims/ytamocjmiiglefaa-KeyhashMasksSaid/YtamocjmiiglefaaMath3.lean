/- The plain mathematics of layer 1, third part: masks, one flipped bit, and a number out of its slices. -/
import Derived.Test.YtamocjmiiglefaaMath2
import Derived.Laws.BytesArg
namespace Go.Proofs.Ytamocjmiiglefaa
open Go.RowKit

theorem nat_andNot (x m : Nat) (hm : m < 18446744073709551616) : (x &&& m) &&& (18446744073709551615 - m) = 0 := by
  apply Nat.eq_of_testBit_eq
  intro i
  have e : (18446744073709551615 - m).testBit i = (decide (i < 64) && !m.testBit i) := by
    have := Nat.testBit_two_pow_sub_succ (x := m) (n := 64) (by simpa using hm) i
    simpa using this
  simp only [Nat.testBit_and, e, Nat.zero_testBit]
  cases x.testBit i <;> cases m.testBit i <;> simp
theorem andNot_hsh (s : ByteArray) (m : Int) (hm : U64 m) : (bits BinOp.andNot IntKind.u64 (hsh s m) m == 0) = true := by
  have h := hsh_u64 s m hm
  rw [u64_andNot _ _ h.1 h.2 hm.1 hm.2]
  unfold hsh
  rw [and_u64 _ _ (fnv_u64 _) hm]
  have := nat_andNot (fnv s.data.toList).toNat m.toNat (by unfold U64 at hm; omega)
  simp [this]

theorem u64_of_nat (n : Nat) (h : n < 18446744073709551616) : U64 (n : Int) := by unfold U64; omega
theorem hsh_assoc (s : ByteArray) (m n : Int) (hm : U64 m) (hn : U64 n) : (bits BinOp.and IntKind.u64 (hsh s m) n == hsh s (bits BinOp.and IntKind.u64 m n)) = true := by
  rw [and_u64 _ _ (hsh_u64 s m hm) hn]
  unfold hsh
  have hmn : U64 (bits BinOp.and IntKind.u64 m n) := by
    rw [and_u64 _ _ hm hn]
    have := Nat.and_le_left (n := m.toNat) (m := n.toNat)
    unfold U64 at *; omega
  rw [and_u64 _ _ (fnv_u64 _) hmn, and_u64 _ _ (fnv_u64 _) hm, and_u64 _ _ hm hn]
  simp [Nat.and_assoc]

theorem nat_mid (x m : Nat) : (x &&& (63 * 2 ^ m)) / 2 ^ m = x / 2 ^ m % 64 := by
  rw [← Nat.shiftRight_eq_div_pow, Nat.shiftRight_and_distrib, Nat.shiftRight_eq_div_pow, Nat.shiftRight_eq_div_pow, Nat.mul_div_cancel _ (Nat.two_pow_pos m), nat_mask6]
/-- The mask of a slice. -/
theorem mask_eq (l : Nat) (hl : l < 10) : IntKind.u64.wrap (63 * 2 ^ (6 * l)) = ((63 * 2 ^ (6 * l) : Nat) : Int) ∧ (63 * 2 ^ (6 * l) : Nat) < 18446744073709551616 := by
  have h : (2 : Nat) ^ (6 * l) ≤ 2 ^ 54 := Nat.pow_le_pow_right (by omega) (by omega)
  have hlt : 63 * 2 ^ (6 * l) < 18446744073709551616 := by simp only [Nat.reducePow] at h; omega
  refine ⟨?_, hlt⟩
  have e : (63 * 2 ^ (6 * l) : Int) = ((63 * 2 ^ (6 * l) : Nat) : Int) := by simp
  rw [e]; exact IntWalk.u64_in _ (by omega)
theorem hsh_nat (s : ByteArray) (m : Nat) (hm : m < 18446744073709551616) : hsh s (m : Int) = (((fnv s.data.toList).toNat &&& m : Nat) : Int) := by
  unfold hsh; rw [and_u64 _ _ (fnv_u64 _) (u64_of_nat m hm)]; rfl
theorem pow64 (l : Nat) : (64 : Nat) ^ l = 2 ^ (6 * l) := by rw [Nat.pow_mul]
theorem mask_this (s : ByteArray) (l : Nat) (hl : l < 10) : sl (hsh s (IntKind.u64.wrap (63 * 2 ^ (6 * l)))) l = sl (fnv s.data.toList) l := by
  obtain ⟨e, hlt⟩ := mask_eq l hl
  rw [e, hsh_nat _ _ hlt]; unfold sl
  rw [pow64, Int.toNat_natCast, nat_mid]; omega
theorem mask_next (s : ByteArray) (l : Nat) (hl : l < 10) : sl (hsh s (IntKind.u64.wrap (63 * 2 ^ (6 * l)))) (l + 1) = 0 := by
  obtain ⟨e, hlt⟩ := mask_eq l hl
  rw [e, hsh_nat _ _ hlt]; unfold sl
  rw [Nat.pow_succ, ← Nat.div_div_eq_div_mul, pow64, Int.toNat_natCast, nat_mid]; omega
/-- The same in the walk's own terms. -/
theorem mask_facts (s : ByteArray) (a : Int) :
    (slA (hsh s (IntKind.u64.wrap (63 * 2 ^ (6 * (a % 10)).toNat))) (a % 10) == slA (fnv s.data.toList) (a % 10)) = true
    ∧ (slA (hsh s (IntKind.u64.wrap (63 * 2 ^ (6 * (a % 10)).toNat))) (a % 10 + 1) == 0) = true
    ∧ U64 (IntKind.u64.wrap (63 * 2 ^ (6 * (a % 10)).toNat)) := by
  obtain ⟨l, hl⟩ := Int.eq_ofNat_of_zero_le (by omega : 0 ≤ a % 10)
  rw [hl, show (6 * (l : Int)).toNat = 6 * l from by omega]
  have hl10 : l < 10 := by omega
  have e1 : ((l : Int) + 1) = ((l + 1 : Nat) : Int) := by omega
  rw [e1, slA_in _ l (by omega), slA_in _ l (by omega), slA_in _ (l + 1) (by omega), mask_this s l hl10, mask_next s l hl10]
  refine ⟨by simp, by simp, ?_⟩
  rw [(mask_eq l hl10).1]; exact u64_of_nat _ (mask_eq l hl10).2
theorem hsh_all (s : ByteArray) : hsh s 18446744073709551615 = fnv s.data.toList := by
  have e : (18446744073709551615 : Int) = ((2 ^ 64 - 1 : Nat) : Int) := by simp
  have u := fnv_u64 s.data.toList
  unfold U64 at u
  rw [e, hsh_nat _ _ (by simp), Nat.and_two_pow_sub_one_of_lt_two_pow (by simp only [Nat.reducePow]; omega)]
  omega

/-- One flipped bit. -/
theorem nat_flip (x n j : Nat) : (x ^^^ 2 ^ n) / 64 ^ j % 64 = (x / 64 ^ j % 64) ^^^ (2 ^ n / 64 ^ j % 64) := by
  rw [pow64, ← Nat.shiftRight_eq_div_pow, Nat.shiftRight_xor_distrib, Nat.shiftRight_eq_div_pow, Nat.shiftRight_eq_div_pow]
  rw [show (64 : Nat) = 2 ^ 6 from rfl, Nat.xor_mod_two_pow]
theorem bit_low (n j : Nat) (h : j < n / 6) : 2 ^ n / 64 ^ j % 64 = 0 := by
  rw [pow64, Nat.pow_div (by omega) (by omega)]
  have e : n - 6 * j = 6 + (n - 6 * j - 6) := by omega
  rw [e, Nat.pow_add]; omega
theorem bit_at (n : Nat) : 2 ^ n / 64 ^ (n / 6) % 64 ≠ 0 := by
  rw [pow64, Nat.pow_div (by omega) (by omega)]
  have e : n - 6 * (n / 6) = n % 6 := by omega
  rw [e]
  have h : n % 6 < 6 := by omega
  generalize n % 6 = q at h
  have : q = 0 ∨ q = 1 ∨ q = 2 ∨ q = 3 ∨ q = 4 ∨ q = 5 := by omega
  rcases this with h | h | h | h | h | h <;> subst h <;> decide
theorem flip_eq (h k : Int) (hh : U64 h) : bits BinOp.xor IntKind.u64 h (IntKind.u64.wrap (2 ^ (k % 64).toNat)) = ((h.toNat ^^^ 2 ^ (k % 64).toNat : Nat) : Int) ∧ (h.toNat ^^^ 2 ^ (k % 64).toNat) < 18446744073709551616 := by
  have hn : (k % 64).toNat < 64 := by omega
  generalize (k % 64).toNat = n at hn
  have hp : (2 : Nat) ^ n < 2 ^ 64 := Nat.pow_lt_pow_right (by omega) hn
  have e : (2 : Int) ^ n = ((2 ^ n : Nat) : Int) := by simp
  have hx : h.toNat < 2 ^ 64 := by simp only [Nat.reducePow]; unfold U64 at hh; omega
  have hlt := Nat.xor_lt_two_pow hx hp
  simp only [Nat.reducePow] at hp hlt
  rw [e]
  clear e
  generalize (2 : Nat) ^ n = p at *
  rw [IntWalk.u64_in _ (by omega), u64_xor _ _ hh.1 hh.2 (by omega) (by omega)]
  exact ⟨rfl, hlt⟩
theorem isCom_flip (h k : Int) (hh : U64 h) : IsCom h (bits BinOp.xor IntKind.u64 h (IntKind.u64.wrap (2 ^ (k % 64).toNat))) ((k % 64).toNat / 6) := by
  obtain ⟨e, _⟩ := flip_eq h k hh
  rw [e]
  have hn : (k % 64).toNat < 64 := by omega
  generalize (k % 64).toNat = n at hn
  refine ⟨by omega, fun j hj => ?_, fun _ => ?_⟩
  · unfold sl; rw [Int.toNat_natCast, nat_flip, bit_low n j hj, Nat.xor_zero]
  · unfold sl; rw [Int.toNat_natCast, nat_flip]
    intro hc
    have hc' : h.toNat / 64 ^ (n / 6) % 64 = (h.toNat / 64 ^ (n / 6) % 64) ^^^ (2 ^ n / 64 ^ (n / 6) % 64) := by omega
    have h0 := bit_at n
    generalize 2 ^ n / 64 ^ (n / 6) % 64 = b at *
    generalize h.toNat / 64 ^ (n / 6) % 64 = x at *
    apply h0
    have : x ^^^ x = x ^^^ (x ^^^ b) := by rw [← hc']
    rw [Nat.xor_self, ← Nat.xor_assoc, Nat.xor_self, Nat.zero_xor] at this
    exact this.symm
theorem u64_flip (h k : Int) (hh : U64 h) : U64 (bits BinOp.xor IntKind.u64 h (IntKind.u64.wrap (2 ^ (k % 64).toNat))) := by
  rw [(flip_eq h k hh).1]; exact u64_of_nat _ (flip_eq h k hh).2

/-- A number out of its slices, from the top. -/
theorem dv_top (h : Int) (hh : U64 h) : dv h 11 = 0 := by
  unfold dv; simp only [Nat.reducePow]; unfold U64 at hh; omega
theorem dv_cut (h : Int) (j : Nat) : dv h j = dv h (j + 1) * 64 + sl h j := by
  unfold dv sl; rw [Nat.pow_succ, ← Nat.div_div_eq_div_mul]; generalize h.toNat / 64 ^ j = q; omega
theorem dv_join (h : Int) (j : Nat) (hh : U64 h) : bits BinOp.or IntKind.u64 (IntKind.u64.wrap (dv h (j + 1) * 64)) (sl h j) = dv h j := by
  have c := dv_cut h j
  have r := dv_range h j hh
  have s := sl_range h j
  have t := dv_range h (j + 1) hh
  rw [IntWalk.u64_in _ (by omega), u64_or _ _ (by omega) (by omega) (by omega) (by omega), nat_join 6 _ _ (by omega) (by simp only [Nat.reducePow]; omega)]
  omega

/-- One byte behind a string. -/
theorem one_size (a : ByteArray) (b : Int) : (a ++ strOfNums [b]).size = a.size + 1 := by
  simp [strOfNums]; try rfl
theorem one_list (a : ByteArray) (b : Int) : (a ++ strOfNums [b]).data.toList = a.data.toList ++ [UInt8.ofNat b.toNat] := by
  simp [strOfNums]; try rfl
theorem step_one (a : ByteArray) (b : Int) (h0 : 0 ≤ b) (h1 : b ≤ 255) : fnv (a ++ strOfNums [b]).data.toList = IntKind.u64.wrap (bits BinOp.xor IntKind.u64 (fnv a.data.toList) b * 1099511628211) := by
  rw [one_list, fnv_snoc, fstep]
  have e : (((UInt8.ofNat b.toNat).toNat : Nat) : Int) = b := by
    rw [UInt8.toNat_ofNat_of_lt' (by simp [UInt8.size]; omega)]; omega
  rw [e]
theorem bytes_ext {a b : ByteArray} (h : a.toList = b.toList) : a = b := by
  rw [ByteArray.toList_eq, ByteArray.toList_eq] at h
  cases a; cases b; simp at h; rw [h]
end Go.Proofs.Ytamocjmiiglefaa
