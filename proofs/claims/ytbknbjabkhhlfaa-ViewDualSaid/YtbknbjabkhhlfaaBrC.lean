/-
  Layer 6, the plain mathematics: bitmaps with lists of branches as maps from indices.
-/
import Derived.Test.YtbknbjabkhhlfaaBitB
import Derived.Test.YtbknbjabkhhlfaaMemR
import Derived.Test.YtbknbjabkhhlfaaWalksG
import Derived.Test.YtbknbjabkhhlfaaDuA
import Derived.Test.YtbknbjabkhhlfaaWalksZ
set_option linter.unusedVariables false
namespace Go.Proofs.Ytbknbjabkhhlfaa
open Go.RowKit
theorem refwith_walk {b i : Int} (hb : U64 b) (h : inr i = true) : bits .or .u64 b (IntKind.u64.wrap (2 ^ i.toNat)) = withI b i := by rw [sng_walk h, with_walk hb]
theorem with_out {b i : Int} (h : inr i = false) : withI b i = b := by unfold withI; rw [h]; rfl
theorem wto_bits {n i j : Nat} (hn : n < 2 ^ 64) (hi : i < 64) : (n &&& (18446744073709551615 - 2 ^ i)).testBit j = (n.testBit j && decide (j ≠ i)) := by
  have e : (18446744073709551615 - 2 ^ i).testBit j = (decide (j < 64) && !(2 ^ i).testBit j) := by
    have := Nat.testBit_two_pow_sub_succ (x := 2 ^ i) (n := 64) (Nat.pow_lt_pow_right (by omega) hi) j
    rw [← this, Nat.add_comm, Nat.sub_add_eq]
  rw [Nat.testBit_and, e, Nat.testBit_two_pow]
  by_cases hj : j < 64
  · by_cases h2 : i = j
    · simp [h2]
    · simp [hj, h2, Ne.symm h2]
  · rw [testBit_hi hn (by omega)]; simp
theorem has_with_same {b i : Int} (h : inr i = true) : hasB (withI b i) i = true := by
  unfold hasB withI
  rw [if_pos h, h, Int.toNat_natCast, Nat.testBit_or, Nat.testBit_two_pow]; simp
theorem has_with_other {b i j : Int} (hj : 0 ≤ j) (hne : i ≠ j) : hasB (withI b i) j = hasB b j := by
  unfold hasB withI
  cases h : inr i
  · rfl
  · have := (inr_iff i).1 h
    rw [if_pos rfl, Int.toNat_natCast, Nat.testBit_or, Nat.testBit_two_pow]
    have : decide (i.toNat = j.toNat) = false := by simp; omega
    rw [this, Bool.or_false]
theorem has_wto {b i j : Int} (hb : U64 b) (h : inr i = true) (hj : 0 ≤ j) : hasB (wtoI b i) j = (hasB b j && decide (j ≠ i)) := by
  have := (inr_iff i).1 h
  unfold hasB wtoI
  rw [if_pos h, Int.toNat_natCast, wto_bits (nat_lt hb) (by omega), ← Bool.and_assoc]
  congr 1
  rw [decide_eq_decide]; omega
theorem set_ext {a b : Int} (ha : U64 a) (hb : U64 b) (h : ∀ j : Nat, j < 64 → hasB a j = hasB b j) : a = b := by
  have e : a.toNat = b.toNat := by
    apply Nat.eq_of_testBit_eq
    intro j
    by_cases hj : j < 64
    · have := h j hj
      have hi : inr (j : Int) = true := (inr_iff _).2 (by omega)
      unfold hasB at this
      rw [hi] at this
      simpa using this
    · rw [testBit_hi (nat_lt ha) (by omega), testBit_hi (nat_lt hb) (by omega)]
  unfold U64 at *; omega
theorem wto_with {b i : Int} (hb : U64 b) (h : inr i = true) : wtoI (withI b i) i = wtoI b i := by
  refine set_ext (wto_u64 _ (with_u64 _ hb)) (wto_u64 _ hb) fun j _ => ?_
  rw [has_wto (with_u64 _ hb) h (by omega), has_wto hb h (by omega)]
  by_cases e : (j : Int) = i
  · simp [e]
  · rw [has_with_other (by omega) (Ne.symm e)]
theorem with_wto {b i : Int} (hb : U64 b) (h : inr i = true) : withI (wtoI b i) i = withI b i := by
  refine set_ext (with_u64 _ (wto_u64 _ hb)) (with_u64 _ hb) fun j _ => ?_
  by_cases e : (j : Int) = i
  · rw [e, has_with_same h, has_with_same h]
  · rw [has_with_other (by omega) (Ne.symm e), has_with_other (by omega) (Ne.symm e), has_wto hb h (by omega)]
    simp [e]
theorem pos_with {b i : Int} (h : inr i = true) : ∀ k : Nat, k ≤ 64 → posI (withI b i) k = posI b k + if i < k ∧ hasB b i = false then 1 else 0
  | 0, _ => by rw [pos_lo (by omega), pos_lo (by omega), if_neg (by have := (inr_iff i).1 h; omega)]; rfl
  | k + 1, hk => by
    have ih := pos_with (b := b) h k (by omega)
    have := (inr_iff i).1 h
    rw [Int.natCast_add, Int.natCast_one, pos_succ, pos_succ, ih]
    by_cases e : i = (k : Int)
    · rw [← e, has_with_same h, if_neg (show ¬ (i < i ∧ _) by omega)]
      cases hasB b i <;> simp <;> omega
    · rw [has_with_other (by omega) e]
      by_cases g : i < (k : Int)
      · have g2 : i < (k : Int) + 1 := by omega
        simp only [g, g2, true_and]; omega
      · have g2 : ¬ i < (k : Int) + 1 := by omega
        simp only [g, g2, false_and, if_false]; omega
theorem wto_not {b i : Int} (hb : U64 b) (h : hasB b i = false) : wtoI b i = b := by
  unfold wtoI
  cases hi : inr i
  · rfl
  · rw [if_pos rfl]
    have hi' := (inr_iff i).1 hi
    have ht : b.toNat.testBit i.toNat = false := by unfold hasB at h; rw [hi] at h; simpa using h
    have e : b.toNat &&& (18446744073709551615 - 2 ^ i.toNat) = b.toNat := by
      apply Nat.eq_of_testBit_eq
      intro j
      rw [wto_bits (nat_lt hb) (by omega)]
      by_cases e : j = i.toNat
      · subst e; rw [ht]; rfl
      · simp [e]
    rw [e]; unfold U64 at hb; omega
def elI (b : Int) (p : Nat) : Int := (((els b.toNat).getD p 0 : Nat) : Int)
theorem filter_sorted {l : List Nat} (hs : l.Pairwise (· < ·)) {p : Nat} (h : p < l.length) : (l.filter fun (k : Nat) => decide ((k : Int) < (l[p] : Nat))).length = p := by
  have e : l = l.take p ++ l[p] :: l.drop (p + 1) := by rw [List.getElem_cons_drop, List.take_append_drop]
  generalize hx : l[p] = x at e
  have hp : (l.take p).length = p := by simp; omega
  generalize l.take p = a at e hp
  generalize l.drop (p + 1) = d at e
  clear hx
  subst e
  rw [List.pairwise_append] at hs
  obtain ⟨_, h2, h3⟩ := hs
  rw [List.pairwise_cons] at h2
  have f1 : a.filter (fun (k : Nat) => decide ((k : Int) < (x : Nat))) = a := by
    rw [List.filter_eq_self]; intro k hk; have := h3 k hk x (by simp); simp; omega
  have f2 : d.filter (fun (k : Nat) => decide ((k : Int) < (x : Nat))) = [] := by
    rw [List.filter_eq_nil_iff]; intro k hk; have := h2.1 k hk; simp; omega
  rw [List.filter_append, f1, List.filter_cons_of_neg (by simp), f2, List.append_nil]
  exact hp
theorem el_pos {b : Int} {p : Nat} (h : p < (els b.toNat).length) : posI b (elI b p) = p := by
  unfold posI elI
  have e : (els b.toNat).getD p 0 = (els b.toNat)[p] := by simp [List.getD, h]
  rw [e, filter_sorted (els_sorted _) h]
theorem el_has {b : Int} {p : Nat} (h : p < (els b.toNat).length) : hasB b (elI b p) = true := by
  have hm : (els b.toNat)[p] ∈ els b.toNat := List.getElem_mem h
  have e : (els b.toNat).getD p 0 = (els b.toNat)[p] := by simp [List.getD, h]
  unfold elI hasB
  rw [e, Int.toNat_natCast, (mem_els.1 hm).2, (inr_iff _).2 (by have := els_lt hm; omega)]; rfl

/-! ### Positions -/
theorem has_inr {b i : Int} (h : hasB b i = true) : inr i = true := by
  unfold hasB at h; rw [Bool.and_eq_true] at h; exact h.1
theorem has_nat {b i : Int} (h : hasB b i = true) : ∃ k : Nat, k < 64 ∧ i = (k : Int) := by
  have := (inr_iff i).1 (has_inr h)
  exact ⟨i.toNat, by omega, by omega⟩
theorem pos_mono (b : Int) (j : Nat) : ∀ d : Nat, posI b j ≤ posI b ((j + d : Nat) : Int)
  | 0 => Int.le_refl _
  | d + 1 => by
    have ih := pos_mono b j d
    rw [show ((j + (d + 1) : Nat) : Int) = ((j + d : Nat) : Int) + 1 by omega, pos_succ]
    split <;> omega
theorem pos_lt {b : Int} {j k : Nat} (h : hasB b j = true) (hk : j < k) : posI b j < posI b k := by
  have := pos_mono b (j + 1) (k - (j + 1))
  rw [show j + 1 + (k - (j + 1)) = k by omega, show ((j + 1 : Nat) : Int) = (j : Int) + 1 by omega, pos_succ, if_pos h] at this
  omega
theorem pos_le {b : Int} {j k : Nat} (hk : j ≤ k) : posI b j ≤ posI b k := by
  have := pos_mono b j (k - j)
  rwa [show j + (k - j) = k by omega] at this
theorem pos_cnt {b i : Int} (h : hasB b i = true) : posI b i < cntI b := by
  obtain ⟨k, hk, rfl⟩ := has_nat h
  have := pos_lt (k := 64) h hk
  rwa [show ((64 : Nat) : Int) = 64 from rfl, pos_hi (b := b) (i := 64) (by omega)] at this
theorem pos_le_cnt (b i : Int) : posI b i ≤ cntI b := by
  by_cases h : 64 ≤ i
  · rw [pos_hi h]; omega
  · by_cases h0 : i ≤ 0
    · rw [pos_lo h0]; exact (cnt_range b).1
    · have := pos_le (b := b) (j := i.toNat) (k := 64) (by omega)
      rwa [show ((i.toNat : Nat) : Int) = i by omega, show ((64 : Nat) : Int) = 64 from rfl, pos_hi (b := b) (i := 64) (by omega)] at this
theorem cnt_with {b i : Int} (h : inr i = true) : cntI (withI b i) = cntI b + if hasB b i = false then 1 else 0 := by
  have := pos_with (b := b) h 64 (by omega)
  have hi := (inr_iff i).1 h
  rw [show ((64 : Nat) : Int) = 64 from rfl, pos_hi (by omega), pos_hi (by omega)] at this
  rw [this]
  simp [hi.2]
theorem with_has {b i : Int} (hb : U64 b) (h : hasB b i = true) : withI b i = b := by
  refine set_ext (with_u64 _ hb) hb fun j _ => ?_
  by_cases e : (j : Int) = i
  · rw [e, has_with_same (has_inr h), h]
  · rw [has_with_other (by omega) (Ne.symm e)]
theorem with_of_wto {b i : Int} (hb : U64 b) (h : hasB b i = true) : withI (wtoI b i) i = b := by
  rw [with_wto hb (has_inr h), with_has hb h]
theorem wto_of_with {b i : Int} (hb : U64 b) (hi : inr i = true) (h : hasB b i = false) : wtoI (withI b i) i = b := by
  rw [wto_with hb hi, wto_not hb h]
theorem has_wto_same {b i : Int} (hb : U64 b) (h : inr i = true) : hasB (wtoI b i) i = false := by
  have := (inr_iff i).1 h
  rw [has_wto hb h (by omega)]; simp
theorem pos_wto {b i : Int} (hb : U64 b) (h : hasB b i = true) (k : Nat) (hk : k ≤ 64) : posI b k = posI (wtoI b i) k + if i < k then 1 else 0 := by
  have := pos_with (b := wtoI b i) (has_inr h) k hk
  rw [with_of_wto hb h] at this
  rw [this]
  simp [has_wto_same hb (has_inr h)]
theorem cnt_wto {b i : Int} (hb : U64 b) (h : hasB b i = true) : cntI b = cntI (wtoI b i) + 1 := by
  have := cnt_with (b := wtoI b i) (has_inr h)
  rw [with_of_wto hb h] at this
  rw [this]
  simp [has_wto_same hb (has_inr h)]

/-! ### The branches of a bitmap -/
/-- The branch at an index. -/
def lkI (b : Int) (L : List Int) (j : Int) : Option Int := if hasB b j then L[(posI b j).toNat]? else none
def pN (b i : Int) : Nat := (posI b i).toNat
theorem pN_cast (b i : Int) : ((pN b i : Nat) : Int) = posI b i := by
  have := (pos_range b i).1
  unfold pN; omega
def insL (b : Int) (L : List Int) (i r : Int) : List Int := L.take (pN b i) ++ r :: L.drop (pN b i)
def updL (b : Int) (L : List Int) (i r : Int) : List Int := L.take (pN b i) ++ r :: L.drop (pN b i + 1)
def remL (b : Int) (L : List Int) (i : Int) : List Int := L.take (pN b i) ++ L.drop (pN b i + 1)
theorem get_ins (L : List Int) (p q : Nat) (r : Int) (hp : p ≤ L.length) : (L.take p ++ r :: L.drop p)[q]? = if q < p then L[q]? else if q = p then some r else L[q - 1]? := by
  have e : (L.take p).length = p := by simp; omega
  rw [List.getElem?_append, e]
  split
  · rw [List.getElem?_take, if_pos ‹_›]
  · rename_i h
    split
    · subst_vars; simp
    · rw [show q - p = (q - 1 - p) + 1 by omega, List.getElem?_cons_succ, List.getElem?_drop, show p + (q - 1 - p) = q - 1 by omega]
theorem get_upd (L : List Int) (p q : Nat) (r : Int) (hp : p < L.length) : (L.take p ++ r :: L.drop (p + 1))[q]? = if q = p then some r else L[q]? := by
  have e : (L.take p).length = p := by simp; omega
  rw [List.getElem?_append, e]
  split
  · rw [if_neg (by omega), List.getElem?_take, if_pos ‹_›]
  · split
    · subst_vars; simp
    · rw [show q - p = (q - 1 - p) + 1 by omega, List.getElem?_cons_succ, List.getElem?_drop, show p + 1 + (q - 1 - p) = q by omega]
theorem get_rem (L : List Int) (p q : Nat) (hp : p < L.length) : (L.take p ++ L.drop (p + 1))[q]? = if q < p then L[q]? else L[q + 1]? := by
  have e : (L.take p).length = p := by simp; omega
  rw [List.getElem?_append, e]
  split
  · rw [List.getElem?_take, if_pos ‹_›]
  · rw [List.getElem?_drop, show p + 1 + (q - p) = q + 1 by omega]
/-- As many branches as elements. -/
def Ok (b : Int) (L : List Int) : Prop := U64 b ∧ (L.length : Int) = cntI b
theorem Ok.pn {b i : Int} {L : List Int} (h : Ok b L) (hi : hasB b i = true) : pN b i < L.length := by
  have := pos_cnt hi
  have := pN_cast b i
  have := h.2; omega
theorem Ok.pn' {b : Int} {L : List Int} (h : Ok b L) (i : Int) : pN b i ≤ L.length := by
  have := pos_le_cnt b i
  have := pN_cast b i
  have := h.2; omega
theorem len_ins {L : List Int} {b i r : Int} (h : Ok b L) : (insL b L i r).length = L.length + 1 := by
  have := h.pn' i
  unfold insL; simp; omega
theorem len_upd {L : List Int} {b i r : Int} (h : Ok b L) (hi : hasB b i = true) : (updL b L i r).length = L.length := by
  have := h.pn hi
  unfold updL; simp; omega
theorem len_rem {L : List Int} {b i : Int} (h : Ok b L) (hi : hasB b i = true) : (remL b L i).length + 1 = L.length := by
  have := h.pn hi
  unfold remL; simp; omega
theorem ok_ins {b i r : Int} {L : List Int} (h : Ok b L) (hi : inr i = true) (hn : hasB b i = false) : Ok (withI b i) (insL b L i r) := by
  refine ⟨with_u64 _ h.1, ?_⟩
  have := h.2
  rw [len_ins h, cnt_with hi, if_pos hn]; omega
theorem ok_upd {b i r : Int} {L : List Int} (h : Ok b L) (hi : hasB b i = true) : Ok b (updL b L i r) := ⟨h.1, by rw [len_upd h hi]; exact h.2⟩
theorem ok_rem {b i : Int} {L : List Int} (h : Ok b L) (hi : hasB b i = true) : Ok (wtoI b i) (remL b L i) := by
  refine ⟨wto_u64 _ h.1, ?_⟩
  have := h.2
  have := len_rem h hi
  have := cnt_wto h.1 hi
  omega
theorem lkI_some {b j : Int} {L : List Int} (h : Ok b L) (hj : hasB b j = true) : ∃ z, lkI b L j = some z ∧ L[pN b j]? = some z := by
  have := h.pn hj
  refine ⟨L[pN b j], ?_, List.getElem?_eq_getElem this⟩
  unfold lkI; rw [if_pos hj]; exact List.getElem?_eq_getElem this
theorem lkI_none {b j : Int} {L : List Int} (hj : hasB b j = false) : lkI b L j = none := by
  unfold lkI; rw [hj]; rfl
theorem lkI_ins {b i r : Int} {L : List Int} (h : Ok b L) (hi : inr i = true) (hn : hasB b i = false) (j : Nat) (hj : j < 64) :
    lkI (withI b i) (insL b L i r) j = if (j : Int) = i then some r else lkI b L j := by
  have hp := h.pn' i
  have hpos := pos_with (b := b) hi j (by omega)
  have hii := (inr_iff i).1 hi
  by_cases e : (j : Int) = i
  · rw [if_pos e]
    unfold lkI insL
    rw [e] at hpos
    rw [e, has_with_same hi, if_pos rfl, get_ins _ _ _ _ hp]
    have : (posI (withI b i) i).toNat = pN b i := by
      rw [hpos]; unfold pN; simp
    rw [this, if_neg (by omega), if_pos rfl]
  · rw [if_neg e]
    unfold lkI insL
    rw [has_with_other (by omega) (Ne.symm e)]
    split
    · rename_i hh
      rw [get_ins _ _ _ _ hp]
      have c1 := pN_cast b i
      have c2 := (pos_range b j).1
      by_cases g : (j : Int) < i
      · have : posI b j < posI b i := by
          have := pos_lt (k := i.toNat) hh (by omega)
          rwa [show ((i.toNat : Nat) : Int) = i by omega] at this
        rw [if_neg (show ¬ (i < (j : Int) ∧ _) by omega), Int.add_zero] at hpos
        rw [hpos, if_pos (by omega)]
      · have : posI b i ≤ posI b j := by
          have := pos_le (b := b) (j := i.toNat) (k := j) (by omega)
          rwa [show ((i.toNat : Nat) : Int) = i by omega] at this
        rw [if_pos ⟨by omega, hn⟩] at hpos
        rw [hpos, if_neg (by omega), if_neg (by omega)]
        congr 1
    · rfl
theorem lkI_upd {b i r : Int} {L : List Int} (h : Ok b L) (hi : hasB b i = true) (j : Nat) (hj : j < 64) :
    lkI b (updL b L i r) j = if (j : Int) = i then some r else lkI b L j := by
  have hp := h.pn hi
  unfold lkI updL
  by_cases e : (j : Int) = i
  · rw [if_pos e, e, hi, if_pos rfl, get_upd _ _ _ _ hp]; exact if_pos rfl
  · rw [if_neg e]
    split
    · rename_i hh
      rw [get_upd _ _ _ _ hp]
      have hii := (inr_iff i).1 (has_inr hi)
      have c1 := pN_cast b i
      have c2 := (pos_range b j).1
      rw [if_neg]
      intro hc
      by_cases g : (j : Int) < i
      · have := pos_lt (k := i.toNat) hh (by omega)
        rw [show ((i.toNat : Nat) : Int) = i by omega] at this
        omega
      · have hi' : hasB b ((i.toNat : Nat) : Int) = true := by rwa [show ((i.toNat : Nat) : Int) = i by omega]
        have := pos_lt (k := j) hi' (by omega)
        rw [show ((i.toNat : Nat) : Int) = i by omega] at this
        omega
    · rfl
theorem lkI_rem {b i : Int} {L : List Int} (h : Ok b L) (hi : hasB b i = true) (j : Nat) (hj : j < 64) :
    lkI (wtoI b i) (remL b L i) j = if (j : Int) = i then none else lkI b L j := by
  have hp := h.pn hi
  have hpos := pos_wto h.1 hi j (by omega)
  have hii := (inr_iff i).1 (has_inr hi)
  unfold lkI remL
  rw [has_wto h.1 (has_inr hi) (by omega)]
  by_cases e : (j : Int) = i
  · rw [if_pos e]; simp [e]
  · rw [if_neg e, show decide ((j : Int) ≠ i) = true by simp [e], Bool.and_true]
    split
    · rename_i hh
      rw [get_rem _ _ _ hp]
      have c1 := pN_cast b i
      have c2 := (pos_range (wtoI b i) j).1
      by_cases g : (j : Int) < i
      · have := pos_lt (k := i.toNat) hh (by omega)
        rw [show ((i.toNat : Nat) : Int) = i by omega] at this
        rw [if_neg (show ¬ (i < (j : Int)) by omega)] at hpos
        rw [if_pos (by omega)]
        congr 1; omega
      · have hi' : hasB b ((i.toNat : Nat) : Int) = true := by rwa [show ((i.toNat : Nat) : Int) = i by omega]
        have := pos_lt (k := j) hi' (by omega)
        rw [show ((i.toNat : Nat) : Int) = i by omega] at this
        rw [if_pos (show (i < (j : Int)) by omega)] at hpos
        rw [if_neg (by omega)]
        congr 1; omega
    · rfl
/-- A C-node is its map. -/
theorem ok_ext {a b : Int} {K L : List Int} (hK : Ok a K) (hL : Ok b L) (h : ∀ j : Nat, j < 64 → lkI a K j = lkI b L j) : a = b ∧ K = L := by
  have e : a = b := by
    refine set_ext hK.1 hL.1 fun j hj => ?_
    have := h j hj
    cases h1 : hasB a j <;> cases h2 : hasB b j
    · rfl
    · obtain ⟨z, hz, _⟩ := lkI_some hL h2
      rw [lkI_none h1, hz] at this; cases this
    · obtain ⟨z, hz, _⟩ := lkI_some hK h1
      rw [lkI_none h2, hz] at this; cases this
    · rfl
  subst e
  refine ⟨rfl, ?_⟩
  have hn : K.length = L.length := by have := hK.2; have := hL.2; omega
  refine List.ext_getElem? fun q => ?_
  by_cases hq : q < K.length
  · have hq' : q < (els a.toNat).length := by have := hK.2; unfold cntI at this; omega
    have hh := el_has hq'
    have hpp := el_pos hq'
    obtain ⟨k, hk, hke⟩ := has_nat hh
    have := h k hk
    rw [← hke] at this
    unfold lkI at this
    rw [hh, if_pos rfl, if_pos rfl, hpp, Int.toNat_natCast] at this
    exact this
  · rw [List.getElem?_eq_none (by omega), List.getElem?_eq_none (by omega)]

/-! ### Building index by index -/
def low (T : Int) (k : Nat) : Int := ((T.toNat &&& (2 ^ k - 1) : Nat) : Int)
theorem low_zero (T : Int) : low T 0 = 0 := by simp [low]
theorem low_u {T : Int} (hT : U64 T) (k : Nat) : U64 (low T k) := u64_nat _ (Nat.lt_of_le_of_lt Nat.and_le_left (nat_lt hT))
theorem low_has {T : Int} (k j : Nat) (hj : j < 64) : hasB (low T k) j = (hasB T j && decide (j < k)) := by
  unfold hasB low
  rw [(inr_iff _).2 (by omega), Int.toNat_natCast, Int.toNat_natCast, testBit_low, Bool.true_and, Bool.true_and]
theorem low_all {T : Int} (hT : U64 T) : low T 64 = T :=
  set_ext (low_u hT _) hT fun j hj => by rw [low_has _ _ hj]; simp [hj]
theorem low_yes {T : Int} (hT : U64 T) {k : Nat} (h : hasB T k = true) : withI (low T k) k = low T (k + 1) := by
  have hk := (inr_iff _).1 (has_inr h)
  refine set_ext (with_u64 _ (low_u hT _)) (low_u hT _) fun j hj => ?_
  by_cases e : (k : Int) = j
  · rw [← e, has_with_same (has_inr h), low_has _ _ (by omega), h]; simp
  · rw [has_with_other (by omega) e, low_has _ _ hj, low_has _ _ hj]
    congr 1; rw [decide_eq_decide]; omega
theorem low_no {T : Int} (hT : U64 T) {k : Nat} (h : hasB T k = false) : low T k = low T (k + 1) := by
  refine set_ext (low_u hT _) (low_u hT _) fun j hj => ?_
  rw [low_has _ _ hj, low_has _ _ hj]
  by_cases e : j = k
  · subst e; rw [h]; simp
  · congr 1; rw [decide_eq_decide]; omega
theorem take_yes {T : Int} {L : List Int} {k : Nat} {z : Int} (h : hasB T k = true) (hz : lkI T L k = some z) : L.take (pN T k) ++ [z] = L.take (pN T ((k + 1 : Nat) : Int)) := by
  unfold lkI at hz
  rw [h, if_pos rfl] at hz
  have e : pN T ((k + 1 : Nat) : Int) = pN T k + 1 := by
    have := (pos_range T k).1
    unfold pN
    rw [Int.natCast_add, Int.natCast_one, pos_succ, if_pos h]; omega
  rw [e, List.take_add_one, show L[pN T k]? = some z from hz]; rfl
theorem take_no {T : Int} {L : List Int} {k : Nat} (h : hasB T k = false) : L.take (pN T k) = L.take (pN T ((k + 1 : Nat) : Int)) := by
  unfold pN
  rw [Int.natCast_add, Int.natCast_one, pos_succ, h]; simp
theorem take_all {T : Int} {L : List Int} (h : Ok T L) : L.take (pN T ((64 : Nat) : Int)) = L := by
  refine List.take_of_length_le ?_
  have := h.2
  unfold pN
  rw [pos_hi (by omega)]; omega
theorem take_len (T : Int) (L : List Int) (k : Int) : (L.take (pN T k)).length ≤ 64 := by
  have := (pos_range T k).2
  have := (pos_range T k).1
  unfold pN
  simp; omega

end Go.Proofs.Ytbknbjabkhhlfaa
/-
  The contracts of the functions of layer 2 that layer 6 calls.
-/
set_option linter.unusedVariables false
set_option maxRecDepth 100000
namespace Go.Proofs.Ytbknbjabkhhlfaa
open Go.RowKit
theorem sng_any (i : Int) (w : World) :
    Calls Try.prog 85 #[.int .i64 i] w fun e w' => e = .returned (.int .u64 (sngI i)) ∧ w = w' := by
  by_cases h0 : i < 0
  · have hf : inr i = false := (inr_not i).2 (by omega)
    have S := Lib.hid (sng_out hf); clear hf
    go_enter Try.func85, Try.ntmps85
    go_wp2
    go_ret
    exact ⟨ret_int S.out.symm, rfl⟩
  · by_cases h1 : 64 ≤ i
    · have hf : inr i = false := (inr_not i).2 (by omega)
      have S := Lib.hid (sng_out hf); clear hf
      go_enter Try.func85, Try.ntmps85
      go_wp2
      go_ret
      exact ⟨ret_int S.out.symm, rfl⟩
    · have hf : inr i = true := (inr_iff i).2 (by omega)
      have S := Lib.hid (sng_walk hf); clear hf
      go_enter Try.func85, Try.ntmps85
      go_wp2
      go_ret
      exact ⟨ret_int S.out, rfl⟩
theorem has_any (b i : Int) (hb : U64 b) (w : World) :
    Calls Try.prog 70 #[.int .u64 b, .int .i64 i] w fun e w' => e = .returned (.bool (hasB b i)) ∧ w = w' := by
  have H := Lib.hid hb; clear hb
  go_enter Try.func70, Try.ntmps70
  go_wp2_with (go_at_call 85; refine (sng_any _ _).mono ?_; rintro e w' ⟨rfl, rfl⟩)
  go_ret
  exact ⟨ret_bool (has_walk H.out), rfl⟩
theorem bwith_any (b i : Int) (hb : U64 b) (w : World) :
    Calls Try.prog 73 #[.int .u64 b, .int .i64 i] w fun e w' => e = .returned (.int .u64 (withI b i)) ∧ w = w' := by
  have H := Lib.hid hb; clear hb
  go_enter Try.func73, Try.ntmps73
  go_wp2_with (go_at_call 85; refine (sng_any _ _).mono ?_; rintro e w' ⟨rfl, rfl⟩)
  go_ret
  exact ⟨ret_int (with_walk H.out), rfl⟩
theorem position_any (b i : Int) (hb : U64 b) (w : World) :
    Calls Try.prog 71 #[.int .u64 b, .int .i64 i] w fun e w' => e = .returned (.int .i64 (posI b i)) ∧ w = w' := by
  by_cases h0 : i < 0
  · have S := Lib.hid (pos_lo (b := b) (i := i) (by omega))
    clear hb
    go_enter Try.func71, Try.ntmps71
    go_wp2
    go_ret
    exact ⟨ret_int S.out.symm, rfl⟩
  · by_cases h1 : 64 ≤ i
    · have S := Lib.hid (pos_hi (b := b) (i := i) h1)
      have H := Lib.hid hb; clear hb
      go_enter Try.func71, Try.ntmps71
      go_wp2_with (go_at_call 78; refine (count_any _ H.out _).mono ?_; rintro e w' ⟨rfl, rfl⟩)
      go_ret
      exact ⟨ret_int S.out.symm, rfl⟩
    · have hf : inr i = true := (inr_iff i).2 (by omega)
      have S := Lib.hid (pos_mid hb hf)
      have L := Lib.hid (low_u64 hb hf)
      have U := (sng_u64 i).2
      have P := pow_le hf
      have P1 : 1 ≤ sngI i := by unfold sngI; rw [if_pos hf]; have := Nat.two_pow_pos i.toNat; omega
      clear hb hf P
      go_enter Try.func71, Try.ntmps71
      go_wp2_with (first | (go_at_call 85; refine (sng_any _ _).mono ?_; rintro e w' ⟨rfl, rfl⟩) | (go_at_call 78; refine (count_any _ L.out _).mono ?_; rintro e w' ⟨rfl, rfl⟩))
      go_ret
      exact ⟨ret_int S.out, rfl⟩
end Go.Proofs.Ytbknbjabkhhlfaa
/-
  Layer 6: what a C-node is; the walks of the small functions and of Lookup and Sole.
-/
set_option linter.unusedVariables false
set_option maxRecDepth 100000
namespace Go.Proofs.Ytbknbjabkhhlfaa
open Go.Shelf Go.RowKit Go.Lib Go.Sort
attribute [local go_sem ↓] exec_load28

/-- A valid C-node. -/
noncomputable def isC (n : Nd) : Bool := n.kind == 3 && validN n
theorem isC_ok {n : Nd} (h : isC n = true) : n.kind = 3 ∧ (n.bs.length : Int) = cntI n.bm ∧ (∀ z ∈ n.bs, 1 ≤ z) := by
  unfold isC at h
  rw [Bool.and_eq_true, beq_iff_eq] at h
  obtain ⟨hk, hv⟩ := h
  unfold validN at hv
  rw [Bool.and_eq_true, Bool.and_eq_true] at hv
  obtain ⟨_, _, hf⟩ := hv
  unfold fieldsB at hf
  rw [hk] at hf
  simp at hf
  refine ⟨hk, hf.1, fun z hz => ?_⟩
  have := List.any_eq_false.1 hf.2 z hz
  unfold lowK at this
  simpa using this
theorem isC_Ok {n : Nd} {w : World} {B : Nat} (h : isC n = true) (hR : NRd w B n) : Ok n.bm n.bs := ⟨hR.bm, (isC_ok h).2.1⟩
noncomputable def lookB (n : Nd) (i : Int) : Bool := isC n && hasB n.bm i
noncomputable def lookV (n : Nd) (i : Int) : Int := if lookB n i then n.bs.getD (pN n.bm i) 0 else 0
noncomputable def soleB (n : Nd) : Bool := isC n && decide (n.bs.length = 1)
noncomputable def soleV (n : Nd) : Int := if soleB n then n.bs.getD 0 0 else 0

set_option maxHeartbeats 2000000 in
theorem validC_any (n : Nd) (B : Nat) (w : World) (h : NRd w B n) (hB : B ≤ w.heap.size) :
    Calls Try.prog 68 #[.agg n.cs] w fun e w' => e = .returned (.bool (isC n)) ∧ Gr w w' := by
  obtain ⟨W, hW⟩ : ∃ W, W = w.alloc (.cells n.cs 35) := ⟨_, rfl⟩
  have GW := Lib.hid (show Gr w W by rw [hW]; exact (Gr.refl w).alloc _)
  have hg : W.heap[w.heap.size]? = some (.cells n.cs 35 (0, 0)) := by rw [hW]; exact heap_alloc_new w _
  have c0 := node_cell hg (i := 0) (v := .int .i64 n.kind) rfl
  have lv := run_loadNode hg
  have CV := Lib.hid (valid_any n B W (h.gr hB GW.out) (Nat.le_trans hB GW.out.size))
  have HW := Lib.hid hW.symm
  have E := Lib.hid (show isC n = (n.kind == 3 && validN n) from rfl)
  clear h hB hg hW
  cases hk : n.kind == 3
  all_goals
    go_enter Try.func68, Try.ntmps68
    go_upto_region 1 with (fail)
    rw [HW.out]
    go_wp2_with (go_at_call 51; refine CV.out.mono ?_; rintro e w' ⟨rfl, hg⟩; have G := Lib.hid hg; clear hg)
    go_ret
  · exact ⟨ret_bool (by rw [E.out, hk]; rfl), GW.out⟩
  · exact ⟨ret_bool (by rw [E.out, hk]; rfl), GW.out.trans G.out⟩
theorem inRange_any (i : Int) (w : World) : Calls Try.prog 69 #[.int .i64 i] w fun e w' => e = .returned (.bool (inr i)) ∧ w = w' := by
  by_cases h : 0 ≤ i
  · by_cases h2 : i ≤ 63
    · have E := Lib.hid ((inr_iff i).2 (by omega))
      go_enter Try.func69, Try.ntmps69
      go_wp2
      go_ret
      exact ⟨ret_bool E.out.symm, rfl⟩
    · have E := Lib.hid ((inr_not i).2 (by omega))
      go_enter Try.func69, Try.ntmps69
      go_wp2
      go_ret
      exact ⟨ret_bool E.out.symm, rfl⟩
  · have E := Lib.hid ((inr_not i).2 (by omega))
    go_enter Try.func69, Try.ntmps69
    go_wp2
    go_ret
    exact ⟨ret_bool E.out.symm, rfl⟩

end Go.Proofs.Ytbknbjabkhhlfaa
