/- The plain mathematics of layer 2, second part: the functions of the layer over the integers that the walks name. -/
import Derived.Test.YtcmnmimkjkpimaaBitA
namespace Go.Proofs.Ytcmnmimkjkpimaa
open Go.RowKit

/-- Is i a number that a set can contain? -/
def inr (i : Int) : Bool := decide (0 ≤ i) && decide (i < 64)
def hasB (b i : Int) : Bool := inr i && b.toNat.testBit i.toNat
def posI (b i : Int) : Int := (((els b.toNat).filter fun (k : Nat) => decide ((k : Int) < i)).length : Nat)
def cntI (b : Int) : Int := ((els b.toNat).length : Nat)
def sngI (i : Int) : Int := if inr i then ((2 ^ i.toNat : Nat) : Int) else 0
def withI (b i : Int) : Int := if inr i then ((b.toNat ||| 2 ^ i.toNat : Nat) : Int) else b
def wtoI (b i : Int) : Int := if inr i then ((b.toNat &&& (18446744073709551615 - 2 ^ i.toNat) : Nat) : Int) else b
def atI (b i : Int) : Int := if i < 0 then -1 else ((els b.toNat)[i.toNat]?).elim (-1) (fun k => (k : Int))
def wlI (b : Int) : Int := ((wl b.toNat : Nat) : Int)
def loI (b : Int) : Int := ((lo b.toNat : Nat) : Int)

theorem inr_iff (i : Int) : inr i = true ↔ 0 ≤ i ∧ i < 64 := by simp [inr]
theorem inr_not (i : Int) : inr i = false ↔ ¬ (0 ≤ i ∧ i < 64) := by rw [← inr_iff]; simp
theorem pow_lt {i : Int} (h : inr i = true) : 2 ^ i.toNat < 2 ^ 64 := Nat.pow_lt_pow_right (by omega) (by have := (inr_iff i).1 h; omega)
theorem pow_le {i : Int} (h : inr i = true) : 2 ^ i.toNat ≤ 18446744073709551615 := by have := pow_lt h; simp only [Nat.reducePow] at this; omega
theorem nat_lt {b : Int} (h : U64 b) : b.toNat < 2 ^ 64 := by unfold U64 at h; simp only [Nat.reducePow]; omega
theorem sng_u64 (i : Int) : U64 (sngI i) := by
  unfold sngI; split
  · rename_i h; exact u64_nat _ (pow_lt h)
  · unfold U64; omega
theorem with_u64 {b : Int} (i : Int) (hb : U64 b) : U64 (withI b i) := by
  unfold withI; split
  · rename_i h; exact u64_nat _ (Nat.or_lt_two_pow (nat_lt hb) (pow_lt h))
  · exact hb
theorem wto_u64 {b : Int} (i : Int) (hb : U64 b) : U64 (wtoI b i) := by
  unfold wtoI; split
  · exact u64_nat _ (Nat.lt_of_le_of_lt Nat.and_le_left (nat_lt hb))
  · exact hb
theorem wl_u64 {b : Int} (hb : U64 b) : U64 (wlI b) := u64_nat _ (wl_lt (nat_lt hb))
theorem and_u64 {a b : Int} (ha : U64 a) (hb : U64 b) : bits .and .u64 a b = ((a.toNat &&& b.toNat : Nat) : Int) := u64_and _ _ ha.1 ha.2 hb.1 hb.2
theorem or_u64 {a b : Int} (ha : U64 a) (hb : U64 b) : bits .or .u64 a b = ((a.toNat ||| b.toNat : Nat) : Int) := u64_or _ _ ha.1 ha.2 hb.1 hb.2
theorem andNot_u64 {a b : Int} (ha : U64 a) (hb : U64 b) : bits .andNot .u64 a b = ((a.toNat &&& (18446744073709551615 - b.toNat) : Nat) : Int) := u64_andNot _ _ ha.1 ha.2 hb.1 hb.2

/-- One number's bit, as the walk has it. -/
theorem sng_walk {i : Int} (h : inr i = true) : IntKind.u64.wrap (2 ^ i.toNat) = sngI i := by
  unfold sngI; rw [if_pos h]
  have p := pow_le h
  have e : (2 ^ i.toNat : Int) = ((2 ^ i.toNat : Nat) : Int) := by simp
  rw [e]; generalize 2 ^ i.toNat = q at *
  exact IntWalk.u64_in _ (by omega)
theorem sng_out {i : Int} (h : inr i = false) : sngI i = 0 := by unfold sngI; rw [h]; rfl
theorem has_walk {b i : Int} (hb : U64 b) : (bits .and .u64 b (sngI i) != 0) = hasB b i := by
  rw [and_u64 hb (sng_u64 i)]
  unfold hasB sngI
  cases h : inr i
  · simp
  · rw [if_pos rfl]
    rw [Int.toNat_natCast, nat_bit, Bool.true_and, Nat.testBit_eq_decide_div_mod_eq]
    have p := Nat.two_pow_pos i.toNat
    generalize 2 ^ i.toNat = q at *
    have : b.toNat / q % 2 = 0 ∨ b.toNat / q % 2 = 1 := by omega
    rcases this with e | e <;> rw [e]
    · simp
    · simp; omega
theorem with_walk {b i : Int} (hb : U64 b) : bits .or .u64 b (sngI i) = withI b i := by
  rw [or_u64 hb (sng_u64 i)]
  unfold withI sngI
  cases h : inr i
  · unfold U64 at hb; simp; omega
  · rfl
theorem wto_walk {b i : Int} (hb : U64 b) : bits .andNot .u64 b (sngI i) = wtoI b i := by
  rw [andNot_u64 hb (sng_u64 i)]
  unfold wtoI sngI
  cases h : inr i
  · have e : b.toNat &&& (2 ^ 64 - 1) = b.toNat := Nat.and_two_pow_sub_one_of_lt_two_pow (nat_lt hb)
    simp only [Nat.reducePow, Nat.reduceSub] at e
    simp [e]; unfold U64 at hb; omega
  · rfl
theorem wl_walk {b : Int} (hb : U64 b) (h0 : 0 < b) : bits .and .u64 b (b - 1) = wlI b := by
  rw [and_u64 hb (by unfold U64 at *; omega)]
  unfold wlI wl
  rw [show (b - 1).toNat = b.toNat - 1 by omega]

/-! ### Positions and counts -/
theorem testBit_low {n k i : Nat} : (n &&& (2 ^ k - 1)).testBit i = (n.testBit i && decide (i < k)) := by
  rw [Nat.testBit_and, Nat.testBit_two_pow_sub_one]
theorem els_below (n k : Nat) : els (n &&& (2 ^ k - 1)) = (els n).filter (fun i => decide (i < k)) := by
  unfold els
  rw [List.filter_filter]
  apply List.filter_congr
  intro i _
  rw [testBit_low, Bool.and_comm]
theorem pos_lo {b i : Int} (h : i ≤ 0) : posI b i = 0 := by
  unfold posI
  have : (els b.toNat).filter (fun (k : Nat) => decide ((k : Int) < i)) = [] := by
    rw [List.filter_eq_nil_iff]; intro k _; simp; omega
  rw [this]; rfl
theorem pos_hi {b i : Int} (h : 64 ≤ i) : posI b i = cntI b := by
  unfold posI cntI
  have : (els b.toNat).filter (fun (k : Nat) => decide ((k : Int) < i)) = els b.toNat := by
    rw [List.filter_eq_self]; intro k hk; have := els_lt hk; simp; omega
  rw [this]
theorem pos_mid {b i : Int} (hb : U64 b) (h : inr i = true) : cntI (bits .and .u64 b (sngI i - 1)) = posI b i := by
  have hi := (inr_iff i).1 h
  have p := pow_le h
  have p0 := Nat.two_pow_pos i.toNat
  have e : (sngI i - 1) = ((2 ^ i.toNat - 1 : Nat) : Int) := by
    unfold sngI; rw [if_pos h]; generalize 2 ^ i.toNat = q at *; omega
  rw [e, and_u64 hb (by unfold U64; generalize 2 ^ i.toNat = q at *; omega)]
  unfold cntI posI
  rw [Int.toNat_natCast, Int.toNat_natCast, els_below]
  congr 3
  funext k
  rw [decide_eq_decide]; omega
theorem low_u64 {b i : Int} (hb : U64 b) (h : inr i = true) : U64 (bits .and .u64 b (sngI i - 1)) := by
  have p := pow_le h
  have p0 := Nat.two_pow_pos i.toNat
  have e : (sngI i - 1) = ((2 ^ i.toNat - 1 : Nat) : Int) := by
    unfold sngI; rw [if_pos h]; generalize 2 ^ i.toNat = q at *; omega
  rw [e, and_u64 hb (by unfold U64; generalize 2 ^ i.toNat = q at *; omega)]
  exact u64_nat _ (Nat.lt_of_le_of_lt Nat.and_le_left (nat_lt hb))
theorem pos_succ {b : Int} (k : Nat) : posI b ((k : Int) + 1) = posI b k + if hasB b k then 1 else 0 := by
  have hf : ∀ l : List Nat, l.Nodup → ((l.filter fun (j : Nat) => decide ((j : Int) < (k : Int) + 1)).length : Int) = (l.filter fun (j : Nat) => decide ((j : Int) < (k : Int))).length + if k ∈ l then 1 else 0 := by
    intro l
    induction l with
    | nil => intro _; simp
    | cons a l ih =>
      intro hn
      rw [List.nodup_cons] at hn
      have := ih hn.2
      by_cases h1 : a = k
      · subst h1
        rw [if_neg hn.1] at this
        rw [List.filter_cons_of_pos (by simp; omega), List.filter_cons_of_neg (by simp), if_pos (by simp), List.length_cons]
        omega
      · have hm : (k ∈ a :: l) = (k ∈ l) := by simp [Ne.symm h1]
        by_cases h2 : a < k
        · rw [List.filter_cons_of_pos (by simp; omega), List.filter_cons_of_pos (by simp; omega)]
          simp only [List.length_cons, hm]; omega
        · rw [List.filter_cons_of_neg (by simp; omega), List.filter_cons_of_neg (by simp; omega)]
          simp only [hm]; exact this
  have nd : (els b.toNat).Nodup := (els_sorted b.toNat).imp (fun h => Nat.ne_of_lt h)
  have := hf _ nd
  unfold posI
  rw [this]
  have e : (k ∈ els b.toNat) ↔ hasB b k = true := by
    rw [mem_els]; simp [hasB, inr]
    intro _; omega
  simp only [e]
theorem pos_range (b i : Int) : 0 ≤ posI b i ∧ posI b i ≤ 64 := by
  unfold posI
  have := List.length_filter_le (fun (k : Nat) => decide ((k : Int) < i)) (els b.toNat)
  have := els_len b.toNat
  omega
theorem cnt_range (b : Int) : 0 ≤ cntI b ∧ cntI b ≤ 64 := by
  unfold cntI; have := els_len b.toNat; omega
theorem cnt_zero : cntI 0 = 0 := by unfold cntI; simp [els_zero]
theorem cnt_step {b : Int} (hb : U64 b) (h0 : 0 < b) : cntI b = cntI (wlI b) + 1 := by
  unfold cntI wlI
  rw [els_wl (nat_lt hb) (by omega), Int.toNat_natCast]
  simp
theorem wl_lt' {b : Int} (h0 : 0 < b) : 0 ≤ wlI b ∧ wlI b < b := by
  unfold wlI wl
  have h1 : b.toNat &&& (b.toNat - 1) ≤ b.toNat - 1 := Nat.and_le_right
  omega
theorem refhas_walk {b i : Int} (hb : U64 b) (h : inr i = true) : (bits .and .u64 (b / 2 ^ i.toNat) 1 == 1) = hasB b i := by
  obtain ⟨n, rfl⟩ := Int.eq_ofNat_of_zero_le hb.1
  have e : ((n : Int) / 2 ^ i.toNat) = ((n / 2 ^ i.toNat : Nat) : Int) := by simp
  have hlt : n / 2 ^ i.toNat < 18446744073709551616 := Nat.lt_of_le_of_lt (Nat.div_le_self _ _) (by unfold U64 at hb; omega)
  rw [e, show (1 : Int) = ((1 : Nat) : Int) from rfl, u64_and_nat _ 1 hlt (by decide), nat_mask1]
  unfold hasB
  rw [h, Int.toNat_natCast, Nat.testBit_eq_decide_div_mod_eq]
  generalize n / 2 ^ i.toNat % 2 = q
  rw [Bool.true_and, Bool.eq_iff_iff, beq_iff_eq, decide_eq_true_eq]
  omega
theorem has_out {b i : Int} (h : inr i = false) : hasB b i = false := by unfold hasB; rw [h]; rfl
end Go.Proofs.Ytcmnmimkjkpimaa
