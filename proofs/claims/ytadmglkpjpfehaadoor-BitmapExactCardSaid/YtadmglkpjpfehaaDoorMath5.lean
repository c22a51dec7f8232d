/- The plain mathematics of layer 2, fifth part: the list of the elements, and the number out of it. -/
import Derived.Test.YtadmglkpjpfehaaDoorMath4
namespace Go.Proofs.YtadmglkpjpfehaaDoor
open Go.RowKit

def elI (b : Int) (p : Nat) : Int := (((els b.toNat).getD p 0 : Nat) : Int)
theorem el_range (b : Int) (p : Nat) : 0 ≤ elI b p ∧ elI b p ≤ 63 := by
  unfold elI
  by_cases h : p < (els b.toNat).length
  · have : (els b.toNat).getD p 0 ∈ els b.toNat := by simp [List.getD, h]
    have := els_lt this; omega
  · have e : (els b.toNat).getD p 0 = 0 := by simp [List.getD, List.getElem?_eq_none (by omega : (els b.toNat).length ≤ p)]
    rw [e]; omega
theorem el_mono {b : Int} {p : Nat} (h : p + 1 < (els b.toNat).length) : elI b p < elI b (p + 1) := by
  have := List.pairwise_iff_getElem.1 (els_sorted b.toNat) p (p + 1) (by omega) h (by omega)
  unfold elI
  simp [List.getD, h, show p < (els b.toNat).length by omega]; omega
theorem filter_sorted {l : List Nat} (hs : l.Pairwise (· < ·)) {p : Nat} (h : p < l.length) : (l.filter fun (k : Nat) => decide ((k : Int) < (l[p] : Nat))).length = p := by
  have e : l = l.take p ++ l[p] :: l.drop (p + 1) := by rw [List.getElem_cons_drop, List.take_append_drop]
  generalize hx : l[p] = x at e
  have hp : (l.take p).length = p := by simp; omega
  generalize l.take p = a at e hp
  generalize l.drop (p + 1) = d at e
  clear hx
  subst e
  rw [List.pairwise_append] at hs
  obtain ⟨_, h2, h3⟩ := hs
  rw [List.pairwise_cons] at h2
  have f1 : a.filter (fun (k : Nat) => decide ((k : Int) < (x : Nat))) = a := by
    rw [List.filter_eq_self]; intro k hk; have := h3 k hk x (by simp); simp; omega
  have f2 : d.filter (fun (k : Nat) => decide ((k : Int) < (x : Nat))) = [] := by
    rw [List.filter_eq_nil_iff]; intro k hk; have := h2.1 k hk; simp; omega
  rw [List.filter_append, f1, List.filter_cons_of_neg (by simp), f2, List.append_nil]
  exact hp
theorem el_pos {b : Int} {p : Nat} (h : p < (els b.toNat).length) : posI b (elI b p) = p := by
  unfold posI elI
  have e : (els b.toNat).getD p 0 = (els b.toNat)[p] := by simp [List.getD, h]
  rw [e, filter_sorted (els_sorted _) h]
theorem el_at {b : Int} {p : Nat} (h : p < (els b.toNat).length) : atI b p = elI b p := by
  unfold atI elI
  rw [if_neg (by omega), Int.toNat_natCast, List.getElem?_eq_getElem h]
  simp [List.getD, h]
theorem el_has {b : Int} {p : Nat} (h : p < (els b.toNat).length) : hasB b (elI b p) = true := by
  have hm : (els b.toNat)[p] ∈ els b.toNat := List.getElem_mem h
  have e : (els b.toNat).getD p 0 = (els b.toNat)[p] := by simp [List.getD, h]
  unfold elI hasB
  rw [e, Int.toNat_natCast, (mem_els.1 hm).2, (inr_iff _).2 (by have := els_lt hm; omega)]; rfl

/-! ### The number out of the list -/
def sumN (l : List Nat) : Nat := l.foldl (fun s k => s ||| 2 ^ k) 0
theorem fold_bits (j : Nat) : ∀ (l : List Nat) (s : Nat), (l.foldl (fun s k => s ||| 2 ^ k) s).testBit j = (s.testBit j || decide (j ∈ l))
  | [], s => by simp
  | a :: l, s => by
    rw [List.foldl_cons, fold_bits j l, Nat.testBit_or, Nat.testBit_two_pow, Bool.or_assoc]
    congr 1
    by_cases h : a = j
    · simp [h]
    · simp [h, Ne.symm h]
theorem sum_els {n : Nat} (h : n < 2 ^ 64) : sumN (els n) = n := by
  apply Nat.eq_of_testBit_eq
  intro j
  unfold sumN
  rw [fold_bits, Nat.zero_testBit, Bool.false_or]
  by_cases hj : j < 64
  · simp [mem_els, hj]
  · rw [testBit_hi h (by omega)]; simp [mem_els, hj]
def sumI (b : Int) (p : Nat) : Int := ((sumN ((els b.toNat).take p) : Nat) : Int)
theorem sum_zero (b : Int) : sumI b 0 = 0 := by unfold sumI sumN; simp
theorem sum_all {b : Int} (hb : U64 b) : sumI b (els b.toNat).length = b := by
  unfold sumI; rw [List.take_length, sum_els (nat_lt hb)]; unfold U64 at hb; omega
theorem sum_u64 (b : Int) (p : Nat) : U64 (sumI b p) := by
  refine u64_nat _ (Nat.lt_pow_two_of_testBit _ fun j hj => ?_)
  unfold sumN
  rw [fold_bits, Nat.zero_testBit, Bool.false_or, decide_eq_false_iff_not]
  intro hm
  have := els_lt (List.mem_of_mem_take hm); omega
theorem sum_step {b : Int} {p : Nat} (h : p < (els b.toNat).length) : bits .or .u64 (sumI b p) (IntKind.u64.wrap (2 ^ (elI b p).toNat)) = sumI b (p + 1) := by
  have r := el_range b p
  have hi : inr (elI b p) = true := (inr_iff _).2 (by omega)
  rw [sng_walk hi, with_walk (sum_u64 b p)]
  unfold withI
  rw [if_pos hi]
  have e : (elI b p).toNat = (els b.toNat)[p] := by unfold elI; simp [List.getD, h]
  rw [e]
  unfold sumI
  rw [Int.toNat_natCast, List.take_succ_eq_append_getElem h]
  unfold sumN
  rw [List.foldl_append]; rfl

/-! ### The list in memory -/
def cntN (b : Int) : Nat := (els b.toNat).length
def lstI (b : Int) : List Int := (els b.toNat).map fun (k : Nat) => (k : Int)
theorem lst_len (b : Int) : (lstI b).length = cntN b := by unfold lstI cntN; simp
theorem cnt_nat (b : Int) : cntI b = (cntN b : Nat) := rfl
theorem cntN_le (b : Int) : cntN b ≤ 64 := els_len _
theorem lst_get {b : Int} {p : Nat} (h : p < cntN b) : (lstI b)[p]? = some (elI b p) := by
  unfold cntN at h
  unfold lstI elI
  simp [List.getD, h]
theorem lst_take {b : Int} {p : Nat} (h : p < cntN b) : (lstI b).take (p + 1) = (lstI b).take p ++ [elI b p] := by
  rw [List.take_add_one, lst_get h]; rfl
theorem els_drop_lo {b m : Int} {p : Nat} (hm : U64 m) (h0 : 0 < m) (h : els m.toNat = (els b.toNat).drop p) : p < cntN b ∧ loI m = elI b p ∧ els (wlI m).toNat = (els b.toNat).drop (p + 1) := by
  have e := els_wl (nat_lt hm) (by omega)
  rw [h] at e
  have hp : p < (els b.toNat).length := by
    have := congrArg List.length e
    simp at this; omega
  refine ⟨hp, ?_, ?_⟩
  · have g := congrArg (fun l => l[0]?) e
    have : (els b.toNat)[p]? = some (lo m.toNat) := by simpa [List.getElem?_drop] using g
    unfold loI elI
    simp [List.getD, this]
  · unfold wlI
    rw [Int.toNat_natCast, ← List.drop_drop, e]; rfl
theorem drop_end {b : Int} {p : Nat} (hp : p ≤ cntN b) (h : els 0 = (els b.toNat).drop p) : p = cntN b := by
  rw [els_zero] at h
  have := List.drop_eq_nil_iff.1 h.symm
  unfold cntN at *; omega
end Go.Proofs.YtadmglkpjpfehaaDoor
