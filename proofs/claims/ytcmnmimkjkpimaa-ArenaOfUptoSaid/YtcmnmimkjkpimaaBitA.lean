/- The plain mathematics of layer 2: the elements of a 64-bit number, its lowest bit, and what adding and removing elements does. Nothing of the dump is imported. -/
import Derived.WalkKit
import Derived.Laws.BitsAllLaws
namespace Go.Proofs.Ytcmnmimkjkpimaa
open Go.RowKit

/-- A number of 64 bits. -/
def U64 (h : Int) : Prop := 0 ≤ h ∧ h < 18446744073709551616
theorem u64_of_wf {h : Int} (w : (Lit.int .u64 h).wf = true) : U64 h := by
  have a : IntKind.u64.min = 0 := by decide
  have b : IntKind.u64.max = 18446744073709551615 := by decide
  simp [Lit.wf, a, b] at w
  unfold U64; omega
theorem u8_of_wf {h : Int} (w : (Lit.int .u8 h).wf = true) : 0 ≤ h ∧ h ≤ 255 := by
  have a : IntKind.u8.min = 0 := by decide
  have b : IntKind.u8.max = 255 := by decide
  simp [Lit.wf, a, b] at w
  omega
theorem i64_of_wf {h : Int} (w : (Lit.int .i64 h).wf = true) : -9223372036854775808 ≤ h ∧ h ≤ 9223372036854775807 := by
  have a : IntKind.i64.min = -9223372036854775808 := by decide
  have b : IntKind.i64.max = 9223372036854775807 := by decide
  simp [Lit.wf, a, b] at w
  omega
theorem u64_nat (n : Nat) (h : n < 2 ^ 64) : U64 (n : Int) := by unfold U64; simp only [Nat.reducePow] at h; omega

/-! ### The elements -/
def els (n : Nat) : List Nat := (List.range 64).filter n.testBit
theorem mem_els {n i : Nat} : i ∈ els n ↔ i < 64 ∧ n.testBit i = true := by simp [els]
theorem els_lt {n i : Nat} (h : i ∈ els n) : i < 64 := (mem_els.1 h).1
theorem els_sorted (n : Nat) : (els n).Pairwise (· < ·) := List.Pairwise.filter _ List.pairwise_lt_range
theorem els_len (n : Nat) : (els n).length ≤ 64 := by
  have := List.length_filter_le n.testBit (List.range 64)
  simpa [els] using this
theorem els_zero : els 0 = [] := by simp [els]
theorem testBit_hi {n i : Nat} (h : n < 2 ^ 64) (hi : 64 ≤ i) : n.testBit i = false :=
  Nat.testBit_lt_two_pow (Nat.lt_of_lt_of_le h (Nat.pow_le_pow_right (by omega) hi))
theorem els_inj {n m : Nat} (hn : n < 2 ^ 64) (hm : m < 2 ^ 64) (h : els n = els m) : n = m := by
  apply Nat.eq_of_testBit_eq
  intro i
  by_cases hi : i < 64
  · rw [Bool.eq_iff_iff]
    have e : i ∈ els n ↔ i ∈ els m := by rw [h]
    simpa [mem_els, hi] using e
  · rw [testBit_hi hn (by omega), testBit_hi hm (by omega)]

/-! ### The lowest bit -/
theorem low_exists : ∀ n : Nat, n ≠ 0 → ∃ t q, n = 2 ^ t * (2 * q + 1)
  | n, h => by
    by_cases e : n % 2 = 1
    · exact ⟨0, n / 2, by simp; omega⟩
    · obtain ⟨t, q, hq⟩ := low_exists (n / 2) (by omega)
      exact ⟨t + 1, q, by rw [Nat.pow_succ, Nat.mul_assoc, Nat.mul_left_comm, ← hq]; omega⟩
termination_by n => n
theorem odd_and (q : Nat) : (2 * q + 1) &&& (2 * q) = 2 * q := by
  apply Nat.eq_of_testBit_eq
  intro i
  rw [Nat.testBit_and]
  cases i with
  | zero => simp
  | succ k => simp [Nat.testBit_succ]; rw [show (2 * q + 1) / 2 = q by omega]; simp
theorem mul_and (t a b : Nat) : (2 ^ t * a) &&& (2 ^ t * b) = 2 ^ t * (a &&& b) := by
  apply Nat.eq_of_testBit_eq
  intro i
  simp only [Nat.testBit_and, Nat.testBit_two_pow_mul]
  cases decide (i ≥ t) <;> simp
theorem wl_eq (t q : Nat) : (2 ^ t * (2 * q + 1)) &&& (2 ^ t * (2 * q + 1) - 1) = 2 ^ t * (2 * q) := by
  have p := Nat.two_pow_pos t
  have e : 2 ^ t * (2 * q + 1) - 1 = 2 ^ t * (2 * q) + (2 ^ t - 1) := by rw [Nat.mul_add, Nat.mul_one]; omega
  rw [e]
  apply Nat.eq_of_testBit_eq
  intro i
  rw [Nat.testBit_and, Nat.testBit_two_pow_mul_add _ (by omega), Nat.testBit_two_pow_mul, Nat.testBit_two_pow_mul]
  by_cases h : i < t
  · have d : decide (i ≥ t) = false := by simp; omega
    simp only [d, Bool.false_and]
  · have o := congrArg (fun z => Nat.testBit z (i - t)) (odd_and q)
    simp only [Nat.testBit_and] at o
    rw [if_neg h]
    have d : decide (i ≥ t) = true := by simp; omega
    rw [d, Bool.true_and, Bool.true_and, o]
theorem neg_and (t q : Nat) (h : 2 ^ t * (2 * q + 1) < 2 ^ 64) : (2 ^ t * (2 * q + 1)) &&& (2 ^ 64 - 2 ^ t * (2 * q + 1)) = 2 ^ t := by
  have ht : t < 64 := by
    rcases Nat.lt_or_ge t 64 with g | g
    · exact g
    · have := Nat.pow_le_pow_right (n := 2) (by omega) g
      have : 2 ^ t ≤ 2 ^ t * (2 * q + 1) := Nat.le_mul_of_pos_right _ (by omega)
      omega
  obtain ⟨r, hr⟩ : ∃ r, 64 = t + 1 + r := ⟨63 - t, by omega⟩
  have e0 : 2 ^ 64 = 2 ^ t * (2 * 2 ^ r) := by rw [hr, Nat.pow_add, Nat.pow_succ, Nat.mul_assoc]
  rw [e0] at h ⊢
  have hq : 2 * q + 1 < 2 * 2 ^ r := Nat.lt_of_mul_lt_mul_left h
  rw [← Nat.mul_sub, mul_and]
  suffices g : (2 * q + 1) &&& (2 * 2 ^ r - (2 * q + 1)) = 1 by rw [g, Nat.mul_one]
  have e1 : 2 * 2 ^ r - (2 * q + 1) = 2 * (2 ^ r - (q + 1)) + 1 := by omega
  rw [e1]
  apply Nat.eq_of_testBit_eq
  intro i
  rw [Nat.testBit_and]
  cases i with
  | zero => simp
  | succ k =>
    rw [Nat.testBit_succ, Nat.testBit_succ, Nat.testBit_succ, show (2 * q + 1) / 2 = q by omega, show (2 * (2 ^ r - (q + 1)) + 1) / 2 = 2 ^ r - (q + 1) by omega,
      Nat.testBit_two_pow_sub_succ (by omega)]
    simp
    intro a _
    exact a
theorem low_lt {t q : Nat} (h : 2 ^ t * (2 * q + 1) < 2 ^ 64) : t < 64 := by
  rcases Nat.lt_or_ge t 64 with g | g
  · exact g
  · have := Nat.pow_le_pow_right (n := 2) (by omega) g
    have : 2 ^ t ≤ 2 ^ t * (2 * q + 1) := Nat.le_mul_of_pos_right _ (by omega)
    omega
theorem els_low (t q : Nat) (h : 2 ^ t * (2 * q + 1) < 2 ^ 64) : els (2 ^ t * (2 * q + 1)) = t :: els (2 ^ t * (2 * q)) := by
  have ht := low_lt h
  have er : List.range 64 = List.range' 0 t ++ t :: List.range' (t + 1) (63 - t) := by
    rw [List.range_eq_range', show (64 : Nat) = t + (1 + (63 - t)) by omega, List.range'_append_1.symm, Nat.zero_add]
    congr 1
    rw [Nat.add_comm, List.range'_succ]
  have lo : ∀ a, (List.range' 0 t).filter (Nat.testBit (2 ^ t * a)) = [] := by
    intro a
    rw [List.filter_eq_nil_iff]
    intro i hi
    rw [List.mem_range'_1] at hi
    rw [Nat.testBit_two_pow_mul]
    have : decide (i ≥ t) = false := by simp; omega
    simp [this]
  have hi : (List.range' (t + 1) (63 - t)).filter (Nat.testBit (2 ^ t * (2 * q + 1))) = (List.range' (t + 1) (63 - t)).filter (Nat.testBit (2 ^ t * (2 * q))) := by
    apply List.filter_congr
    intro i hi
    rw [List.mem_range'_1] at hi
    rw [Nat.testBit_two_pow_mul, Nat.testBit_two_pow_mul]
    obtain ⟨k, hk⟩ : ∃ k, i - t = k + 1 := ⟨i - t - 1, by omega⟩
    rw [hk, Nat.testBit_succ, Nat.testBit_succ, show (2 * q + 1) / 2 = q by omega, show 2 * q / 2 = q by omega]
  have b1 : Nat.testBit (2 ^ t * (2 * q + 1)) t = true := by rw [Nat.testBit_two_pow_mul]; simp
  have b0 : Nat.testBit (2 ^ t * (2 * q)) t = false := by rw [Nat.testBit_two_pow_mul]; simp
  unfold els
  rw [er, List.filter_append, List.filter_append, lo, lo, List.filter_cons_of_pos (by rw [b1]), List.filter_cons_of_neg (by rw [b0]; simp), hi]
  simp

/-- The lowest element, and what is left without it. -/
def lo (n : Nat) : Nat := (els n).headD 64
def wl (n : Nat) : Nat := n &&& (n - 1)
theorem wl_lt {n : Nat} (h : n < 2 ^ 64) : wl n < 2 ^ 64 := Nat.lt_of_le_of_lt Nat.and_le_left h
theorem els_wl {n : Nat} (h : n < 2 ^ 64) (h0 : n ≠ 0) : els n = lo n :: els (wl n) := by
  obtain ⟨t, q, rfl⟩ := low_exists n h0
  unfold lo wl
  rw [wl_eq, els_low t q h]
  rfl
theorem lo_lt {n : Nat} (h : n < 2 ^ 64) (h0 : n ≠ 0) : lo n < 64 := by
  have : lo n ∈ els n := by rw [els_wl h h0]; simp
  exact els_lt this
theorem lo_neg {n : Nat} (h : n < 2 ^ 64) (h0 : n ≠ 0) : n &&& (2 ^ 64 - n) = 2 ^ lo n := by
  obtain ⟨t, q, rfl⟩ := low_exists n h0
  rw [neg_and t q h]
  unfold lo
  rw [els_low t q h]
  rfl
theorem els_nil {n : Nat} (h : n < 2 ^ 64) (e : els n = []) : n = 0 := by
  rcases Nat.eq_zero_or_pos n with h0 | h0
  · exact h0
  · rw [els_wl h (by omega)] at e; cases e
end Go.Proofs.Ytcmnmimkjkpimaa
