/- The plain mathematics of layer 2, fourth part: what the statements say of the layer's functions. -/
import Derived.Test.YtadmglkpjpfehaaDoorMath3
namespace Go.Proofs.YtadmglkpjpfehaaDoor
open Go.RowKit

/-! ### The reference's words -/
theorem refhas_walk {b i : Int} (hb : U64 b) (h : inr i = true) : (bits .and .u64 (b / 2 ^ i.toNat) 1 == 1) = hasB b i := by
  obtain ⟨n, rfl⟩ := Int.eq_ofNat_of_zero_le hb.1
  have e : ((n : Int) / 2 ^ i.toNat) = ((n / 2 ^ i.toNat : Nat) : Int) := by simp
  have hlt : n / 2 ^ i.toNat < 18446744073709551616 := Nat.lt_of_le_of_lt (Nat.div_le_self _ _) (by unfold U64 at hb; omega)
  rw [e, show (1 : Int) = ((1 : Nat) : Int) from rfl, u64_and_nat _ 1 hlt (by decide), nat_mask1]
  unfold hasB
  rw [h, Int.toNat_natCast, Nat.testBit_eq_decide_div_mod_eq]
  generalize n / 2 ^ i.toNat % 2 = q
  rw [Bool.true_and, Bool.eq_iff_iff, beq_iff_eq, decide_eq_true_eq]
  omega
theorem has_out {b i : Int} (h : inr i = false) : hasB b i = false := by unfold hasB; rw [h]; rfl
theorem refwith_walk {b i : Int} (hb : U64 b) (h : inr i = true) : bits .or .u64 b (IntKind.u64.wrap (2 ^ i.toNat)) = withI b i := by rw [sng_walk h, with_walk hb]
theorem with_out {b i : Int} (h : inr i = false) : withI b i = b := by unfold withI; rw [h]; rfl
theorem wto_bits {n i j : Nat} (hn : n < 2 ^ 64) (hi : i < 64) : (n &&& (18446744073709551615 - 2 ^ i)).testBit j = (n.testBit j && decide (j ≠ i)) := by
  have e : (18446744073709551615 - 2 ^ i).testBit j = (decide (j < 64) && !(2 ^ i).testBit j) := by
    have := Nat.testBit_two_pow_sub_succ (x := 2 ^ i) (n := 64) (Nat.pow_lt_pow_right (by omega) hi) j
    rw [← this, Nat.add_comm, Nat.sub_add_eq]
  rw [Nat.testBit_and, e, Nat.testBit_two_pow]
  by_cases hj : j < 64
  · by_cases h2 : i = j
    · simp [h2]
    · simp [hj, h2, Ne.symm h2]
  · rw [testBit_hi hn (by omega)]; simp
theorem wto_sub {n i : Nat} (hn : n < 2 ^ 64) (hi : i < 64) (h : n.testBit i = true) : n &&& (18446744073709551615 - 2 ^ i) = n - 2 ^ i := by
  have hd : n / 2 ^ i % 2 = 1 := by simpa [Nat.testBit_eq_decide_div_mod_eq] using h
  have p := Nat.two_pow_pos i
  have hr : n % 2 ^ i < 2 ^ i := Nat.mod_lt _ p
  have hn' : n = 2 ^ i * (2 * (n / 2 ^ i / 2) + 1) + n % 2 ^ i := by
    rw [show 2 * (n / 2 ^ i / 2) + 1 = n / 2 ^ i by omega]; exact (Nat.div_add_mod n (2 ^ i)).symm
  generalize n / 2 ^ i / 2 = q at hn'
  generalize n % 2 ^ i = r at hn' hr
  have es : n - 2 ^ i = 2 ^ i * (2 * q) + r := by rw [hn', Nat.mul_add, Nat.mul_one]; omega
  apply Nat.eq_of_testBit_eq
  intro j
  rw [wto_bits hn hi, es]
  rw [hn', Nat.testBit_two_pow_mul_add _ hr, Nat.testBit_two_pow_mul_add _ hr]
  by_cases hj : j < i
  · rw [if_pos hj, if_pos hj]; have : decide (j ≠ i) = true := by simp; omega
    rw [this, Bool.and_true]
  · rw [if_neg hj, if_neg hj]
    by_cases e : j = i
    · subst e; simp
    · obtain ⟨k, hk⟩ : ∃ k, j - i = k + 1 := ⟨j - i - 1, by omega⟩
      rw [hk, Nat.testBit_succ, Nat.testBit_succ, show (2 * q + 1) / 2 = q by omega, show 2 * q / 2 = q by omega]; simp [e]
theorem refwto_walk {b i : Int} (hb : U64 b) (h : hasB b i = true) : IntKind.u64.wrap (b - IntKind.u64.wrap (2 ^ i.toNat)) = wtoI b i := by
  unfold hasB at h
  rw [Bool.and_eq_true] at h
  obtain ⟨hi, ht⟩ := h
  have hi' := (inr_iff i).1 hi
  rw [sng_walk hi]
  unfold sngI wtoI
  rw [if_pos hi, if_pos hi, wto_sub (nat_lt hb) (by omega) ht]
  have hle : 2 ^ i.toNat ≤ b.toNat := Nat.ge_two_pow_of_testBit ht
  unfold U64 at hb
  generalize 2 ^ i.toNat = q at *
  rw [IntWalk.u64_in _ (by omega)]; omega
theorem wto_not {b i : Int} (hb : U64 b) (h : hasB b i = false) : wtoI b i = b := by
  unfold wtoI
  cases hi : inr i
  · rfl
  · rw [if_pos rfl]
    have hi' := (inr_iff i).1 hi
    have ht : b.toNat.testBit i.toNat = false := by unfold hasB at h; rw [hi] at h; simpa using h
    have e : b.toNat &&& (18446744073709551615 - 2 ^ i.toNat) = b.toNat := by
      apply Nat.eq_of_testBit_eq
      intro j
      rw [wto_bits (nat_lt hb) (by omega)]
      by_cases e : j = i.toNat
      · subst e; rw [ht]; rfl
      · simp [e]
    rw [e]; unfold U64 at hb; omega

/-! ### At -/
theorem at_in {b m p : Int} (hm : U64 m) (h0 : 0 < m) (hp : 0 ≤ p) (h : els m.toNat = (els b.toNat).drop p.toNat) : loI m = atI b p := by
  unfold atI loI
  rw [if_neg (by omega)]
  have e := els_wl (nat_lt hm) (by omega)
  rw [h] at e
  have : (els b.toNat)[p.toNat]? = some (lo m.toNat) := by
    have g := congrArg (fun l => l[0]?) e
    simpa [List.getElem?_drop] using g
  rw [this]; rfl
theorem at_out {b i : Int} (p : Int) (hi : i < 0 ∨ p ≤ i) (_ : 0 ≤ p) (h : els 0 = (els b.toNat).drop p.toNat) : atI b i = -1 := by
  unfold atI
  by_cases g : i < 0
  · rw [if_pos g]
  · rw [if_neg g]
    rw [els_zero] at h
    have hl : (els b.toNat).length ≤ p.toNat := List.drop_eq_nil_iff.1 h.symm
    rw [List.getElem?_eq_none (by omega)]; rfl
theorem at_step {b m : Int} {p : Int} (hm : U64 m) (h0 : 0 < m) (hp : 0 ≤ p) (h : els m.toNat = (els b.toNat).drop p.toNat) : els (wlI m).toNat = (els b.toNat).drop (p + 1).toNat := by
  have e := els_wl (nat_lt hm) (by omega)
  unfold wlI
  rw [Int.toNat_natCast, show (p + 1).toNat = p.toNat + 1 by omega, ← List.drop_drop, ← h, e]
  rfl
theorem drop_len {b m p : Int} (h0 : 0 < m) (hm : U64 m) (_ : 0 ≤ p) (h : els m.toNat = (els b.toNat).drop p.toNat) : p < 64 := by
  have e := els_wl (nat_lt hm) (by omega)
  rw [h] at e
  have := congrArg List.length e
  have := els_len b.toNat
  simp at *; omega

/-! ### The statements' facts -/
theorem has_with_same {b i : Int} (h : inr i = true) : hasB (withI b i) i = true := by
  unfold hasB withI
  rw [if_pos h, h, Int.toNat_natCast, Nat.testBit_or, Nat.testBit_two_pow]; simp
theorem has_with_other {b i j : Int} (hj : 0 ≤ j) (hne : i ≠ j) : hasB (withI b i) j = hasB b j := by
  unfold hasB withI
  cases h : inr i
  · rfl
  · have := (inr_iff i).1 h
    rw [if_pos rfl, Int.toNat_natCast, Nat.testBit_or, Nat.testBit_two_pow]
    have : decide (i.toNat = j.toNat) = false := by simp; omega
    rw [this, Bool.or_false]
theorem has_wto {b i j : Int} (hb : U64 b) (h : inr i = true) (hj : 0 ≤ j) : hasB (wtoI b i) j = (hasB b j && decide (j ≠ i)) := by
  have := (inr_iff i).1 h
  unfold hasB wtoI
  rw [if_pos h, Int.toNat_natCast, wto_bits (nat_lt hb) (by omega), ← Bool.and_assoc]
  congr 1
  rw [decide_eq_decide]; omega
theorem set_ext {a b : Int} (ha : U64 a) (hb : U64 b) (h : ∀ j : Nat, j < 64 → hasB a j = hasB b j) : a = b := by
  have e : a.toNat = b.toNat := by
    apply Nat.eq_of_testBit_eq
    intro j
    by_cases hj : j < 64
    · have := h j hj
      have hi : inr (j : Int) = true := (inr_iff _).2 (by omega)
      unfold hasB at this
      rw [hi] at this
      simpa using this
    · rw [testBit_hi (nat_lt ha) (by omega), testBit_hi (nat_lt hb) (by omega)]
  unfold U64 at *; omega
theorem wto_with {b i : Int} (hb : U64 b) (h : inr i = true) : wtoI (withI b i) i = wtoI b i := by
  refine set_ext (wto_u64 _ (with_u64 _ hb)) (wto_u64 _ hb) fun j _ => ?_
  rw [has_wto (with_u64 _ hb) h (by omega), has_wto hb h (by omega)]
  by_cases e : (j : Int) = i
  · simp [e]
  · rw [has_with_other (by omega) (Ne.symm e)]
theorem with_wto {b i : Int} (hb : U64 b) (h : inr i = true) : withI (wtoI b i) i = withI b i := by
  refine set_ext (with_u64 _ (wto_u64 _ hb)) (with_u64 _ hb) fun j _ => ?_
  by_cases e : (j : Int) = i
  · rw [e, has_with_same h, has_with_same h]
  · rw [has_with_other (by omega) (Ne.symm e), has_with_other (by omega) (Ne.symm e), has_wto hb h (by omega)]
    simp [e]
theorem pos_with {b i : Int} (h : inr i = true) : ∀ k : Nat, k ≤ 64 → posI (withI b i) k = posI b k + if i < k ∧ hasB b i = false then 1 else 0
  | 0, _ => by rw [pos_lo (by omega), pos_lo (by omega), if_neg (by have := (inr_iff i).1 h; omega)]; rfl
  | k + 1, hk => by
    have ih := pos_with (b := b) h k (by omega)
    have := (inr_iff i).1 h
    rw [Int.natCast_add, Int.natCast_one, pos_succ, pos_succ, ih]
    by_cases e : i = (k : Int)
    · rw [← e, has_with_same h, if_neg (show ¬ (i < i ∧ _) by omega)]
      cases hasB b i <;> simp <;> omega
    · rw [has_with_other (by omega) e]
      by_cases g : i < (k : Int)
      · have g2 : i < (k : Int) + 1 := by omega
        simp only [g, g2, true_and]; omega
      · have g2 : ¬ i < (k : Int) + 1 := by omega
        simp only [g, g2, false_and, if_false]; omega
theorem len_parts (p : Nat → Bool) : ∀ l : List Nat, l.length = (l.filter p).length + (l.filter fun k => !p k).length
  | [] => rfl
  | a :: l => by
    have := len_parts p l
    cases h : p a
    · rw [List.filter_cons_of_neg (by simp [h]), List.filter_cons_of_pos (by simp [h])]; simp only [List.length_cons]; omega
    · rw [List.filter_cons_of_pos (by simp [h]), List.filter_cons_of_neg (by simp [h])]; simp only [List.length_cons]; omega
theorem cnt_split {b i : Int} (hb : U64 b) (h : inr i = true) : cntI b = cntI (bits .and .u64 b (sngI i - 1)) + cntI (bits .andNot .u64 b (sngI i - 1)) := by
  have hi := (inr_iff i).1 h
  have p := pow_le h
  have p0 := Nat.two_pow_pos i.toNat
  have e : (sngI i - 1) = ((2 ^ i.toNat - 1 : Nat) : Int) := by
    unfold sngI; rw [if_pos h]; generalize 2 ^ i.toNat = q at *; omega
  have eu : U64 (sngI i - 1) := by rw [e]; unfold U64; generalize 2 ^ i.toNat = q at *; omega
  rw [pos_mid hb h, andNot_u64 hb eu, e]
  unfold cntI posI
  rw [Int.toNat_natCast, Int.toNat_natCast]
  have eh : els (b.toNat &&& (18446744073709551615 - (2 ^ i.toNat - 1))) = (els b.toNat).filter (fun (k : Nat) => !decide ((k : Int) < i)) := by
    unfold els
    rw [List.filter_filter]
    apply List.filter_congr
    intro j hj
    rw [List.mem_range] at hj
    have e2 : (18446744073709551615 - (2 ^ i.toNat - 1)).testBit j = (decide (j < 64) && !(2 ^ i.toNat - 1).testBit j) := by
      have := Nat.testBit_two_pow_sub_succ (x := 2 ^ i.toNat - 1) (n := 64) (by simp only [Nat.reducePow] at p ⊢; omega) j
      rw [← this, Nat.add_comm, Nat.sub_add_eq]
    rw [Nat.testBit_and, e2, Nat.testBit_two_pow_sub_one, Bool.and_comm]
    have d : decide (j < 64) = true := by simpa using hj
    rw [d, Bool.true_and]
    congr 2
    rw [decide_eq_decide]; omega
  rw [eh]
  have := len_parts (fun (k : Nat) => decide ((k : Int) < i)) (els b.toNat)
  omega
theorem high_u64 {b i : Int} (hb : U64 b) (h : inr i = true) : U64 (bits .andNot .u64 b (sngI i - 1)) := by
  have p := pow_le h
  have p0 := Nat.two_pow_pos i.toNat
  have e : (sngI i - 1) = ((2 ^ i.toNat - 1 : Nat) : Int) := by
    unfold sngI; rw [if_pos h]; generalize 2 ^ i.toNat = q at *; omega
  rw [andNot_u64 hb (by rw [e]; unfold U64; generalize 2 ^ i.toNat = q at *; omega)]
  exact u64_nat _ (Nat.lt_of_le_of_lt Nat.and_le_left (nat_lt hb))
end Go.Proofs.YtadmglkpjpfehaaDoor
