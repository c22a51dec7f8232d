/- The plain mathematics of layer 2: the elements of a 64-bit number, its lowest bit, and what adding and removing elements does. Nothing of the dump is imported. -/
import Derived.WalkKit
import Derived.Laws.BitsAllLaws
namespace Go.Proofs.Ytbknbjabkhhlfaa
open Go.RowKit

/-- A number of 64 bits. -/
def U64 (h : Int) : Prop := 0 ≤ h ∧ h < 18446744073709551616
theorem u64_of_wf {h : Int} (w : (Lit.int .u64 h).wf = true) : U64 h := by
  have a : IntKind.u64.min = 0 := by decide
  have b : IntKind.u64.max = 18446744073709551615 := by decide
  simp [Lit.wf, a, b] at w
  unfold U64; omega
theorem u8_of_wf {h : Int} (w : (Lit.int .u8 h).wf = true) : 0 ≤ h ∧ h ≤ 255 := by
  have a : IntKind.u8.min = 0 := by decide
  have b : IntKind.u8.max = 255 := by decide
  simp [Lit.wf, a, b] at w
  omega
theorem i64_of_wf {h : Int} (w : (Lit.int .i64 h).wf = true) : -9223372036854775808 ≤ h ∧ h ≤ 9223372036854775807 := by
  have a : IntKind.i64.min = -9223372036854775808 := by decide
  have b : IntKind.i64.max = 9223372036854775807 := by decide
  simp [Lit.wf, a, b] at w
  omega
theorem u64_nat (n : Nat) (h : n < 2 ^ 64) : U64 (n : Int) := by unfold U64; simp only [Nat.reducePow] at h; omega

/-! ### The elements -/
def els (n : Nat) : List Nat := (List.range 64).filter n.testBit
theorem mem_els {n i : Nat} : i ∈ els n ↔ i < 64 ∧ n.testBit i = true := by simp [els]
theorem els_lt {n i : Nat} (h : i ∈ els n) : i < 64 := (mem_els.1 h).1
theorem els_sorted (n : Nat) : (els n).Pairwise (· < ·) := List.Pairwise.filter _ List.pairwise_lt_range
theorem els_len (n : Nat) : (els n).length ≤ 64 := by
  have := List.length_filter_le n.testBit (List.range 64)
  simpa [els] using this
theorem els_zero : els 0 = [] := by simp [els]
theorem testBit_hi {n i : Nat} (h : n < 2 ^ 64) (hi : 64 ≤ i) : n.testBit i = false :=
  Nat.testBit_lt_two_pow (Nat.lt_of_lt_of_le h (Nat.pow_le_pow_right (by omega) hi))
theorem els_inj {n m : Nat} (hn : n < 2 ^ 64) (hm : m < 2 ^ 64) (h : els n = els m) : n = m := by
  apply Nat.eq_of_testBit_eq
  intro i
  by_cases hi : i < 64
  · rw [Bool.eq_iff_iff]
    have e : i ∈ els n ↔ i ∈ els m := by rw [h]
    simpa [mem_els, hi] using e
  · rw [testBit_hi hn (by omega), testBit_hi hm (by omega)]

/-! ### The lowest bit -/
theorem low_exists : ∀ n : Nat, n ≠ 0 → ∃ t q, n = 2 ^ t * (2 * q + 1)
  | n, h => by
    by_cases e : n % 2 = 1
    · exact ⟨0, n / 2, by simp; omega⟩
    · obtain ⟨t, q, hq⟩ := low_exists (n / 2) (by omega)
      exact ⟨t + 1, q, by rw [Nat.pow_succ, Nat.mul_assoc, Nat.mul_left_comm, ← hq]; omega⟩
termination_by n => n
theorem odd_and (q : Nat) : (2 * q + 1) &&& (2 * q) = 2 * q := by
  apply Nat.eq_of_testBit_eq
  intro i
  rw [Nat.testBit_and]
  cases i with
  | zero => simp
  | succ k => simp [Nat.testBit_succ]; rw [show (2 * q + 1) / 2 = q by omega]; simp
theorem mul_and (t a b : Nat) : (2 ^ t * a) &&& (2 ^ t * b) = 2 ^ t * (a &&& b) := by
  apply Nat.eq_of_testBit_eq
  intro i
  simp only [Nat.testBit_and, Nat.testBit_two_pow_mul]
  cases decide (i ≥ t) <;> simp
theorem wl_eq (t q : Nat) : (2 ^ t * (2 * q + 1)) &&& (2 ^ t * (2 * q + 1) - 1) = 2 ^ t * (2 * q) := by
  have p := Nat.two_pow_pos t
  have e : 2 ^ t * (2 * q + 1) - 1 = 2 ^ t * (2 * q) + (2 ^ t - 1) := by rw [Nat.mul_add, Nat.mul_one]; omega
  rw [e]
  apply Nat.eq_of_testBit_eq
  intro i
  rw [Nat.testBit_and, Nat.testBit_two_pow_mul_add _ (by omega), Nat.testBit_two_pow_mul, Nat.testBit_two_pow_mul]
  by_cases h : i < t
  · have d : decide (i ≥ t) = false := by simp; omega
    simp only [d, Bool.false_and]
  · have o := congrArg (fun z => Nat.testBit z (i - t)) (odd_and q)
    simp only [Nat.testBit_and] at o
    rw [if_neg h]
    have d : decide (i ≥ t) = true := by simp; omega
    rw [d, Bool.true_and, Bool.true_and, o]
theorem neg_and (t q : Nat) (h : 2 ^ t * (2 * q + 1) < 2 ^ 64) : (2 ^ t * (2 * q + 1)) &&& (2 ^ 64 - 2 ^ t * (2 * q + 1)) = 2 ^ t := by
  have ht : t < 64 := by
    rcases Nat.lt_or_ge t 64 with g | g
    · exact g
    · have := Nat.pow_le_pow_right (n := 2) (by omega) g
      have : 2 ^ t ≤ 2 ^ t * (2 * q + 1) := Nat.le_mul_of_pos_right _ (by omega)
      omega
  obtain ⟨r, hr⟩ : ∃ r, 64 = t + 1 + r := ⟨63 - t, by omega⟩
  have e0 : 2 ^ 64 = 2 ^ t * (2 * 2 ^ r) := by rw [hr, Nat.pow_add, Nat.pow_succ, Nat.mul_assoc]
  rw [e0] at h ⊢
  have hq : 2 * q + 1 < 2 * 2 ^ r := Nat.lt_of_mul_lt_mul_left h
  rw [← Nat.mul_sub, mul_and]
  suffices g : (2 * q + 1) &&& (2 * 2 ^ r - (2 * q + 1)) = 1 by rw [g, Nat.mul_one]
  have e1 : 2 * 2 ^ r - (2 * q + 1) = 2 * (2 ^ r - (q + 1)) + 1 := by omega
  rw [e1]
  apply Nat.eq_of_testBit_eq
  intro i
  rw [Nat.testBit_and]
  cases i with
  | zero => simp
  | succ k =>
    rw [Nat.testBit_succ, Nat.testBit_succ, Nat.testBit_succ, show (2 * q + 1) / 2 = q by omega, show (2 * (2 ^ r - (q + 1)) + 1) / 2 = 2 ^ r - (q + 1) by omega,
      Nat.testBit_two_pow_sub_succ (by omega)]
    simp
    intro a _
    exact a
theorem low_lt {t q : Nat} (h : 2 ^ t * (2 * q + 1) < 2 ^ 64) : t < 64 := by
  rcases Nat.lt_or_ge t 64 with g | g
  · exact g
  · have := Nat.pow_le_pow_right (n := 2) (by omega) g
    have : 2 ^ t ≤ 2 ^ t * (2 * q + 1) := Nat.le_mul_of_pos_right _ (by omega)
    omega
theorem els_low (t q : Nat) (h : 2 ^ t * (2 * q + 1) < 2 ^ 64) : els (2 ^ t * (2 * q + 1)) = t :: els (2 ^ t * (2 * q)) := by
  have ht := low_lt h
  have er : List.range 64 = List.range' 0 t ++ t :: List.range' (t + 1) (63 - t) := by
    rw [List.range_eq_range', show (64 : Nat) = t + (1 + (63 - t)) by omega, List.range'_append_1.symm, Nat.zero_add]
    congr 1
    rw [Nat.add_comm, List.range'_succ]
  have lo : ∀ a, (List.range' 0 t).filter (Nat.testBit (2 ^ t * a)) = [] := by
    intro a
    rw [List.filter_eq_nil_iff]
    intro i hi
    rw [List.mem_range'_1] at hi
    rw [Nat.testBit_two_pow_mul]
    have : decide (i ≥ t) = false := by simp; omega
    simp [this]
  have hi : (List.range' (t + 1) (63 - t)).filter (Nat.testBit (2 ^ t * (2 * q + 1))) = (List.range' (t + 1) (63 - t)).filter (Nat.testBit (2 ^ t * (2 * q))) := by
    apply List.filter_congr
    intro i hi
    rw [List.mem_range'_1] at hi
    rw [Nat.testBit_two_pow_mul, Nat.testBit_two_pow_mul]
    obtain ⟨k, hk⟩ : ∃ k, i - t = k + 1 := ⟨i - t - 1, by omega⟩
    rw [hk, Nat.testBit_succ, Nat.testBit_succ, show (2 * q + 1) / 2 = q by omega, show 2 * q / 2 = q by omega]
  have b1 : Nat.testBit (2 ^ t * (2 * q + 1)) t = true := by rw [Nat.testBit_two_pow_mul]; simp
  have b0 : Nat.testBit (2 ^ t * (2 * q)) t = false := by rw [Nat.testBit_two_pow_mul]; simp
  unfold els
  rw [er, List.filter_append, List.filter_append, lo, lo, List.filter_cons_of_pos (by rw [b1]), List.filter_cons_of_neg (by rw [b0]; simp), hi]
  simp

/-- The lowest element, and what is left without it. -/
def lo (n : Nat) : Nat := (els n).headD 64
def wl (n : Nat) : Nat := n &&& (n - 1)
theorem wl_lt {n : Nat} (h : n < 2 ^ 64) : wl n < 2 ^ 64 := Nat.lt_of_le_of_lt Nat.and_le_left h
theorem els_wl {n : Nat} (h : n < 2 ^ 64) (h0 : n ≠ 0) : els n = lo n :: els (wl n) := by
  obtain ⟨t, q, rfl⟩ := low_exists n h0
  unfold lo wl
  rw [wl_eq, els_low t q h]
  rfl
theorem lo_lt {n : Nat} (h : n < 2 ^ 64) (h0 : n ≠ 0) : lo n < 64 := by
  have : lo n ∈ els n := by rw [els_wl h h0]; simp
  exact els_lt this
theorem lo_neg {n : Nat} (h : n < 2 ^ 64) (h0 : n ≠ 0) : n &&& (2 ^ 64 - n) = 2 ^ lo n := by
  obtain ⟨t, q, rfl⟩ := low_exists n h0
  rw [neg_and t q h]
  unfold lo
  rw [els_low t q h]
  rfl
theorem els_nil {n : Nat} (h : n < 2 ^ 64) (e : els n = []) : n = 0 := by
  rcases Nat.eq_zero_or_pos n with h0 | h0
  · exact h0
  · rw [els_wl h (by omega)] at e; cases e
end Go.Proofs.Ytbknbjabkhhlfaa
/- The plain mathematics of layer 2, second part: the functions of the layer over the integers that the walks name. -/
namespace Go.Proofs.Ytbknbjabkhhlfaa
open Go.RowKit

/-- Is i a number that a set can contain? -/
def inr (i : Int) : Bool := decide (0 ≤ i) && decide (i < 64)
def hasB (b i : Int) : Bool := inr i && b.toNat.testBit i.toNat
def posI (b i : Int) : Int := (((els b.toNat).filter fun (k : Nat) => decide ((k : Int) < i)).length : Nat)
def cntI (b : Int) : Int := ((els b.toNat).length : Nat)
def sngI (i : Int) : Int := if inr i then ((2 ^ i.toNat : Nat) : Int) else 0
def withI (b i : Int) : Int := if inr i then ((b.toNat ||| 2 ^ i.toNat : Nat) : Int) else b
def wtoI (b i : Int) : Int := if inr i then ((b.toNat &&& (18446744073709551615 - 2 ^ i.toNat) : Nat) : Int) else b
def atI (b i : Int) : Int := if i < 0 then -1 else ((els b.toNat)[i.toNat]?).elim (-1) (fun k => (k : Int))
def wlI (b : Int) : Int := ((wl b.toNat : Nat) : Int)
def loI (b : Int) : Int := ((lo b.toNat : Nat) : Int)

theorem inr_iff (i : Int) : inr i = true ↔ 0 ≤ i ∧ i < 64 := by simp [inr]
theorem inr_not (i : Int) : inr i = false ↔ ¬ (0 ≤ i ∧ i < 64) := by rw [← inr_iff]; simp
theorem pow_lt {i : Int} (h : inr i = true) : 2 ^ i.toNat < 2 ^ 64 := Nat.pow_lt_pow_right (by omega) (by have := (inr_iff i).1 h; omega)
theorem pow_le {i : Int} (h : inr i = true) : 2 ^ i.toNat ≤ 18446744073709551615 := by have := pow_lt h; simp only [Nat.reducePow] at this; omega
theorem nat_lt {b : Int} (h : U64 b) : b.toNat < 2 ^ 64 := by unfold U64 at h; simp only [Nat.reducePow]; omega
theorem sng_u64 (i : Int) : U64 (sngI i) := by
  unfold sngI; split
  · rename_i h; exact u64_nat _ (pow_lt h)
  · unfold U64; omega
theorem with_u64 {b : Int} (i : Int) (hb : U64 b) : U64 (withI b i) := by
  unfold withI; split
  · rename_i h; exact u64_nat _ (Nat.or_lt_two_pow (nat_lt hb) (pow_lt h))
  · exact hb
theorem wto_u64 {b : Int} (i : Int) (hb : U64 b) : U64 (wtoI b i) := by
  unfold wtoI; split
  · exact u64_nat _ (Nat.lt_of_le_of_lt Nat.and_le_left (nat_lt hb))
  · exact hb
theorem wl_u64 {b : Int} (hb : U64 b) : U64 (wlI b) := u64_nat _ (wl_lt (nat_lt hb))
theorem and_u64 {a b : Int} (ha : U64 a) (hb : U64 b) : bits .and .u64 a b = ((a.toNat &&& b.toNat : Nat) : Int) := u64_and _ _ ha.1 ha.2 hb.1 hb.2
theorem or_u64 {a b : Int} (ha : U64 a) (hb : U64 b) : bits .or .u64 a b = ((a.toNat ||| b.toNat : Nat) : Int) := u64_or _ _ ha.1 ha.2 hb.1 hb.2
theorem andNot_u64 {a b : Int} (ha : U64 a) (hb : U64 b) : bits .andNot .u64 a b = ((a.toNat &&& (18446744073709551615 - b.toNat) : Nat) : Int) := u64_andNot _ _ ha.1 ha.2 hb.1 hb.2

/-- One number's bit, as the walk has it. -/
theorem sng_walk {i : Int} (h : inr i = true) : IntKind.u64.wrap (2 ^ i.toNat) = sngI i := by
  unfold sngI; rw [if_pos h]
  have p := pow_le h
  have e : (2 ^ i.toNat : Int) = ((2 ^ i.toNat : Nat) : Int) := by simp
  rw [e]; generalize 2 ^ i.toNat = q at *
  exact IntWalk.u64_in _ (by omega)
theorem sng_out {i : Int} (h : inr i = false) : sngI i = 0 := by unfold sngI; rw [h]; rfl
theorem has_walk {b i : Int} (hb : U64 b) : (bits .and .u64 b (sngI i) != 0) = hasB b i := by
  rw [and_u64 hb (sng_u64 i)]
  unfold hasB sngI
  cases h : inr i
  · simp
  · rw [if_pos rfl]
    rw [Int.toNat_natCast, nat_bit, Bool.true_and, Nat.testBit_eq_decide_div_mod_eq]
    have p := Nat.two_pow_pos i.toNat
    generalize 2 ^ i.toNat = q at *
    have : b.toNat / q % 2 = 0 ∨ b.toNat / q % 2 = 1 := by omega
    rcases this with e | e <;> rw [e]
    · simp
    · simp; omega
theorem with_walk {b i : Int} (hb : U64 b) : bits .or .u64 b (sngI i) = withI b i := by
  rw [or_u64 hb (sng_u64 i)]
  unfold withI sngI
  cases h : inr i
  · unfold U64 at hb; simp; omega
  · rfl
theorem wto_walk {b i : Int} (hb : U64 b) : bits .andNot .u64 b (sngI i) = wtoI b i := by
  rw [andNot_u64 hb (sng_u64 i)]
  unfold wtoI sngI
  cases h : inr i
  · have e : b.toNat &&& (2 ^ 64 - 1) = b.toNat := Nat.and_two_pow_sub_one_of_lt_two_pow (nat_lt hb)
    simp only [Nat.reducePow, Nat.reduceSub] at e
    simp [e]; unfold U64 at hb; omega
  · rfl
theorem wl_walk {b : Int} (hb : U64 b) (h0 : 0 < b) : bits .and .u64 b (b - 1) = wlI b := by
  rw [and_u64 hb (by unfold U64 at *; omega)]
  unfold wlI wl
  rw [show (b - 1).toNat = b.toNat - 1 by omega]

/-! ### Positions and counts -/
theorem testBit_low {n k i : Nat} : (n &&& (2 ^ k - 1)).testBit i = (n.testBit i && decide (i < k)) := by
  rw [Nat.testBit_and, Nat.testBit_two_pow_sub_one]
theorem els_below (n k : Nat) : els (n &&& (2 ^ k - 1)) = (els n).filter (fun i => decide (i < k)) := by
  unfold els
  rw [List.filter_filter]
  apply List.filter_congr
  intro i _
  rw [testBit_low, Bool.and_comm]
theorem pos_lo {b i : Int} (h : i ≤ 0) : posI b i = 0 := by
  unfold posI
  have : (els b.toNat).filter (fun (k : Nat) => decide ((k : Int) < i)) = [] := by
    rw [List.filter_eq_nil_iff]; intro k _; simp; omega
  rw [this]; rfl
theorem pos_hi {b i : Int} (h : 64 ≤ i) : posI b i = cntI b := by
  unfold posI cntI
  have : (els b.toNat).filter (fun (k : Nat) => decide ((k : Int) < i)) = els b.toNat := by
    rw [List.filter_eq_self]; intro k hk; have := els_lt hk; simp; omega
  rw [this]
theorem pos_mid {b i : Int} (hb : U64 b) (h : inr i = true) : cntI (bits .and .u64 b (sngI i - 1)) = posI b i := by
  have hi := (inr_iff i).1 h
  have p := pow_le h
  have p0 := Nat.two_pow_pos i.toNat
  have e : (sngI i - 1) = ((2 ^ i.toNat - 1 : Nat) : Int) := by
    unfold sngI; rw [if_pos h]; generalize 2 ^ i.toNat = q at *; omega
  rw [e, and_u64 hb (by unfold U64; generalize 2 ^ i.toNat = q at *; omega)]
  unfold cntI posI
  rw [Int.toNat_natCast, Int.toNat_natCast, els_below]
  congr 3
  funext k
  rw [decide_eq_decide]; omega
theorem low_u64 {b i : Int} (hb : U64 b) (h : inr i = true) : U64 (bits .and .u64 b (sngI i - 1)) := by
  have p := pow_le h
  have p0 := Nat.two_pow_pos i.toNat
  have e : (sngI i - 1) = ((2 ^ i.toNat - 1 : Nat) : Int) := by
    unfold sngI; rw [if_pos h]; generalize 2 ^ i.toNat = q at *; omega
  rw [e, and_u64 hb (by unfold U64; generalize 2 ^ i.toNat = q at *; omega)]
  exact u64_nat _ (Nat.lt_of_le_of_lt Nat.and_le_left (nat_lt hb))
theorem pos_succ {b : Int} (k : Nat) : posI b ((k : Int) + 1) = posI b k + if hasB b k then 1 else 0 := by
  have hf : ∀ l : List Nat, l.Nodup → ((l.filter fun (j : Nat) => decide ((j : Int) < (k : Int) + 1)).length : Int) = (l.filter fun (j : Nat) => decide ((j : Int) < (k : Int))).length + if k ∈ l then 1 else 0 := by
    intro l
    induction l with
    | nil => intro _; simp
    | cons a l ih =>
      intro hn
      rw [List.nodup_cons] at hn
      have := ih hn.2
      by_cases h1 : a = k
      · subst h1
        rw [if_neg hn.1] at this
        rw [List.filter_cons_of_pos (by simp; omega), List.filter_cons_of_neg (by simp), if_pos (by simp), List.length_cons]
        omega
      · have hm : (k ∈ a :: l) = (k ∈ l) := by simp [Ne.symm h1]
        by_cases h2 : a < k
        · rw [List.filter_cons_of_pos (by simp; omega), List.filter_cons_of_pos (by simp; omega)]
          simp only [List.length_cons, hm]; omega
        · rw [List.filter_cons_of_neg (by simp; omega), List.filter_cons_of_neg (by simp; omega)]
          simp only [hm]; exact this
  have nd : (els b.toNat).Nodup := (els_sorted b.toNat).imp (fun h => Nat.ne_of_lt h)
  have := hf _ nd
  unfold posI
  rw [this]
  have e : (k ∈ els b.toNat) ↔ hasB b k = true := by
    rw [mem_els]; simp [hasB, inr]
    intro _; omega
  simp only [e]
theorem pos_range (b i : Int) : 0 ≤ posI b i ∧ posI b i ≤ 64 := by
  unfold posI
  have := List.length_filter_le (fun (k : Nat) => decide ((k : Int) < i)) (els b.toNat)
  have := els_len b.toNat
  omega
theorem cnt_range (b : Int) : 0 ≤ cntI b ∧ cntI b ≤ 64 := by
  unfold cntI; have := els_len b.toNat; omega
theorem cnt_zero : cntI 0 = 0 := by unfold cntI; simp [els_zero]
theorem cnt_step {b : Int} (hb : U64 b) (h0 : 0 < b) : cntI b = cntI (wlI b) + 1 := by
  unfold cntI wlI
  rw [els_wl (nat_lt hb) (by omega), Int.toNat_natCast]
  simp
theorem wl_lt' {b : Int} (h0 : 0 < b) : 0 ≤ wlI b ∧ wlI b < b := by
  unfold wlI wl
  have h1 : b.toNat &&& (b.toNat - 1) ≤ b.toNat - 1 := Nat.and_le_right
  omega
theorem refhas_walk {b i : Int} (hb : U64 b) (h : inr i = true) : (bits .and .u64 (b / 2 ^ i.toNat) 1 == 1) = hasB b i := by
  obtain ⟨n, rfl⟩ := Int.eq_ofNat_of_zero_le hb.1
  have e : ((n : Int) / 2 ^ i.toNat) = ((n / 2 ^ i.toNat : Nat) : Int) := by simp
  have hlt : n / 2 ^ i.toNat < 18446744073709551616 := Nat.lt_of_le_of_lt (Nat.div_le_self _ _) (by unfold U64 at hb; omega)
  rw [e, show (1 : Int) = ((1 : Nat) : Int) from rfl, u64_and_nat _ 1 hlt (by decide), nat_mask1]
  unfold hasB
  rw [h, Int.toNat_natCast, Nat.testBit_eq_decide_div_mod_eq]
  generalize n / 2 ^ i.toNat % 2 = q
  rw [Bool.true_and, Bool.eq_iff_iff, beq_iff_eq, decide_eq_true_eq]
  omega
theorem has_out {b i : Int} (h : inr i = false) : hasB b i = false := by unfold hasB; rw [h]; rfl
end Go.Proofs.Ytbknbjabkhhlfaa
