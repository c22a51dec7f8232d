/-
  Plain mathematics of a stable sort: what may be changed within a part of an array, block exchanges, and the merge step of symMerge.
-/
import Derived.Sort.LotA
namespace Go.Proofs.Ytpjfeaccicmgoaa
open Go.Sort
variable {α : Type} [Inhabited α]

/-- Neither is less. -/
def eqv (lt : α → α → Bool) (x y : α) : Bool := !lt x y && !lt y x

/-- d' is d, changed within [a, b) alone, and the elements that equal any one element keep their order. -/
structure Chg (lt : α → α → Bool) (a b : Nat) (d d' : Array α) : Prop where
  size : d'.size = d.size
  out : ∀ i, i < a ∨ b ≤ i → d'[i]! = d[i]!
  filt : ∀ z, d'.toList.filter (eqv lt z) = d.toList.filter (eqv lt z)

/-- .. and is sorted there. -/
structure Merged (lt : α → α → Bool) (a b : Nat) (d d' : Array α) : Prop where
  chg : Chg lt a b d d'
  sorted : SortedIn lt a b d'

variable {lt : α → α → Bool}

theorem Chg.refl (a b : Nat) (d : Array α) : Chg lt a b d d := ⟨rfl, fun _ _ => rfl, fun _ => rfl⟩
theorem Chg.trans {a b : Nat} {d d1 d2 : Array α} (h : Chg lt a b d d1) (k : Chg lt a b d1 d2) : Chg lt a b d d2 :=
  ⟨k.size.trans h.size, fun i hi => (k.out i hi).trans (h.out i hi), fun z => (k.filt z).trans (h.filt z)⟩
theorem Chg.mono {a b a' b' : Nat} {d d' : Array α} (h : Chg lt a b d d') (ha : a' ≤ a) (hb : b ≤ b') : Chg lt a' b' d d' :=
  ⟨h.size, fun i hi => h.out i (by omega), h.filt⟩

theorem get_toList (d : Array α) (i : Nat) (hi : i < d.size) : d.toList[i]? = some d[i]! := by
  rw [Array.getElem?_toList, getElem!_pos d i hi, Array.getElem?_eq_getElem hi]

theorem take_eq_of_out {d d' : Array α} (hs : d'.size = d.size) (a : Nat) (h : ∀ i, i < a → d'[i]! = d[i]!) : d'.toList.take a = d.toList.take a := by
  apply List.ext_getElem?
  intro i
  by_cases hi : i < a
  · rw [List.getElem?_take_of_lt hi, List.getElem?_take_of_lt hi]
    by_cases hd : i < d.size
    · rw [get_toList d i hd, get_toList d' i (by omega), h i hi]
    · rw [List.getElem?_eq_none (by simp; omega), List.getElem?_eq_none (by simp; omega)]
  · rw [List.getElem?_eq_none (by simp; omega), List.getElem?_eq_none (by simp; omega)]

theorem drop_eq_of_out {d d' : Array α} (hs : d'.size = d.size) (b : Nat) (h : ∀ i, b ≤ i → d'[i]! = d[i]!) : d'.toList.drop b = d.toList.drop b := by
  apply List.ext_getElem?
  intro i
  rw [List.getElem?_drop, List.getElem?_drop]
  by_cases hd : b + i < d.size
  · rw [get_toList d _ hd, get_toList d' _ (by omega), h _ (by omega)]
  · rw [List.getElem?_eq_none (by simp; omega), List.getElem?_eq_none (by simp; omega)]

omit [Inhabited α] in
theorem eqv_self (hS : SWO lt) (x : α) : eqv lt x x = true := by simp [eqv, hS.irrefl]

/-- What lies in the part afterwards lay in the part before. -/
theorem Chg.mem (hS : SWO lt) {a b : Nat} {d d' : Array α} (h : Chg lt a b d d') (hb : b ≤ d.size) {t : Nat} (h1 : a ≤ t) (h2 : t < b) : ∃ u, a ≤ u ∧ u < b ∧ d'[t]! = d[u]! := by
  have hp := take_eq_of_out h.size a fun i hi => h.out i (.inl hi)
  have hq := drop_eq_of_out h.size b fun i hi => h.out i (.inr hi)
  have split : ∀ e : Array α, e.toList = e.toList.take a ++ ((e.toList.drop a).take (b - a) ++ e.toList.drop b) := fun e => by
    have : e.toList.drop b = (e.toList.drop a).drop (b - a) := by rw [List.drop_drop]; congr 1; omega
    rw [this, List.take_append_drop, List.take_append_drop]
  have hf := h.filt d'[t]!
  rw [split d', split d, hp, hq] at hf
  simp only [List.filter_append] at hf
  have hm := List.append_cancel_right (List.append_cancel_left hf)
  have hmem : d'[t]! ∈ (d'.toList.drop a).take (b - a) := by
    rw [List.mem_iff_getElem?]
    refine ⟨t - a, ?_⟩
    rw [List.getElem?_take_of_lt (by omega), List.getElem?_drop, show a + (t - a) = t by omega, get_toList d' t (by have := h.size; omega)]
  have hmem2 : d'[t]! ∈ ((d.toList.drop a).take (b - a)).filter (eqv lt d'[t]!) := by
    rw [← hm]; exact List.mem_filter.2 ⟨hmem, eqv_self hS _⟩
  obtain ⟨u, hu⟩ := List.mem_iff_getElem?.1 (List.mem_filter.1 hmem2).1
  have hul : u < b - a := by
    rcases Nat.lt_or_ge u (b - a) with h3 | h3
    · exact h3
    · rw [List.getElem?_eq_none (by simp; omega)] at hu; cases hu
  rw [List.getElem?_take_of_lt hul, List.getElem?_drop, get_toList d _ (by omega)] at hu
  exact ⟨a + u, by omega, by omega, by injection hu with hu; exact hu.symm⟩

/-- d' is d with the blocks [s, m) and [m, e) exchanged. -/
structure Rotd (s m e : Nat) (d d' : Array α) : Prop where
  size : d'.size = d.size
  lo : ∀ t, t < s → d'[t]! = d[t]!
  fst : ∀ t, s ≤ t → t < s + (e - m) → d'[t]! = d[t - s + m]!
  snd : ∀ t, s + (e - m) ≤ t → t < e → d'[t]! = d[t - (e - m)]!
  hi : ∀ t, e ≤ t → d'[t]! = d[t]!

theorem Rotd.refl_left (s e : Nat) (d : Array α) (h : s ≤ e) : Rotd s s e d d :=
  ⟨rfl, fun _ _ => rfl, fun t h1 _ => by rw [show t - s + s = t by omega], fun t h1 h2 => by omega, fun _ _ => rfl⟩
theorem Rotd.refl_right (s e : Nat) (d : Array α) : Rotd s e e d d :=
  ⟨rfl, fun _ _ => rfl, fun t h1 h2 => by omega, fun t h1 h2 => by rw [show t - (e - e) = t by omega], fun _ _ => rfl⟩

theorem Rotd.list {s m e : Nat} {d d' : Array α} (h : Rotd s m e d d') (h1 : s ≤ m) (h2 : m ≤ e) (h3 : e ≤ d.size) :
    d'.toList = d.toList.take s ++ ((d.toList.drop m).take (e - m) ++ ((d.toList.drop s).take (m - s) ++ d.toList.drop e)) := by
  apply List.ext_getElem?
  intro t
  have hsz := h.size
  by_cases ht : t < d.size
  · rw [get_toList d' t (by omega)]
    by_cases c1 : t < s
    · rw [List.getElem?_append_left (by simp; omega), List.getElem?_take_of_lt c1, get_toList d t ht, h.lo t c1]
    · rw [List.getElem?_append_right (by simp; omega), List.length_take_of_le (by simp; omega)]
      by_cases c2 : t < s + (e - m)
      · rw [List.getElem?_append_left (by simp; omega), List.getElem?_take_of_lt (by omega), List.getElem?_drop, get_toList d _ (by omega), h.fst t (by omega) c2]
        congr 2; omega
      · rw [List.getElem?_append_right (by simp; omega), List.length_take_of_le (by simp; omega)]
        by_cases c3 : t < e
        · rw [List.getElem?_append_left (by simp; omega), List.getElem?_take_of_lt (by omega), List.getElem?_drop, get_toList d _ (by omega), h.snd t (by omega) c3]
          congr 2; omega
        · rw [List.getElem?_append_right (by simp; omega), List.length_take_of_le (by simp; omega), List.getElem?_drop, get_toList d _ (by omega), h.hi t (by omega)]
          congr 2; omega
  · rw [List.getElem?_eq_none (by simp; omega), List.getElem?_eq_none (by simp; omega)]

omit [Inhabited α] in
theorem filter_nil_or (hS : SWO lt) (z : α) (A B : List α) (h : ∀ u ∈ A, ∀ v ∈ B, lt v u = true) : A.filter (eqv lt z) = [] ∨ B.filter (eqv lt z) = [] := by
  by_cases hA : A.filter (eqv lt z) = []
  · exact .inl hA
  · right
    obtain ⟨u, hu⟩ := List.exists_mem_of_ne_nil _ hA
    obtain ⟨hu1, hu2⟩ := List.mem_filter.1 hu
    rw [List.filter_eq_nil_iff]
    intro v hv he
    simp only [eqv, Bool.and_eq_true, Bool.not_eq_true'] at hu2 he
    have := hS.ntrans v z u he.2 hu2.1
    rw [h u hu1 v hv] at this
    cases this

theorem Rotd.chg (hS : SWO lt) {s m e : Nat} {d d' : Array α} (h : Rotd s m e d d') (h1 : s ≤ m) (h2 : m ≤ e) (h3 : e ≤ d.size)
    (hlt : ∀ p q, s ≤ p → p < m → m ≤ q → q < e → lt d[q]! d[p]! = true) : Chg lt s e d d' := by
  refine ⟨h.size, fun i hi => ?_, fun z => ?_⟩
  · rcases hi with hi | hi
    · exact h.lo i hi
    · exact h.hi i hi
  · have split : d.toList = d.toList.take s ++ ((d.toList.drop s).take (m - s) ++ ((d.toList.drop m).take (e - m) ++ d.toList.drop e)) := by
      have e1 : d.toList.drop e = (d.toList.drop m).drop (e - m) := by rw [List.drop_drop]; congr 1; omega
      have e2 : d.toList.drop m = (d.toList.drop s).drop (m - s) := by rw [List.drop_drop]; congr 1; omega
      rw [e1, List.take_append_drop, e2, List.take_append_drop, List.take_append_drop]
    rw [h.list h1 h2 h3]
    conv => rhs; rw [split]
    simp only [List.filter_append]
    congr 1
    rw [← List.append_assoc, ← List.append_assoc]
    congr 1
    have hn := filter_nil_or hS z ((d.toList.drop s).take (m - s)) ((d.toList.drop m).take (e - m)) (fun u hu v hv => by
      obtain ⟨i, hi⟩ := List.mem_iff_getElem?.1 hu
      obtain ⟨j, hj⟩ := List.mem_iff_getElem?.1 hv
      have hil : i < m - s := by
        rcases Nat.lt_or_ge i (m - s) with h4 | h4
        · exact h4
        · rw [List.getElem?_eq_none (by simp; omega)] at hi; cases hi
      have hjl : j < e - m := by
        rcases Nat.lt_or_ge j (e - m) with h4 | h4
        · exact h4
        · rw [List.getElem?_eq_none (by simp; omega)] at hj; cases hj
      rw [List.getElem?_take_of_lt hil, List.getElem?_drop, get_toList d _ (by omega)] at hi
      rw [List.getElem?_take_of_lt hjl, List.getElem?_drop, get_toList d _ (by omega)] at hj
      injection hi with hi
      injection hj with hj
      rw [← hi, ← hj]
      exact hlt _ _ (by omega) (by omega) (by omega) (by omega))
    rcases hn with hn | hn <;> rw [hn] <;> simp

/-- One element inserted into the sorted block at its right. -/
theorem merged_left (hS : SWO lt) {a i b : Nat} {d d' : Array α} (h : Rotd a (a + 1) i d d') (hi : a + 1 ≤ i) (hib : i ≤ b) (hb : b ≤ d.size) (hs : SortedIn lt (a + 1) b d)
    (h1 : ∀ t, a + 1 ≤ t → t < i → lt d[t]! d[a]! = true) (h2 : ∀ t, i ≤ t → t < b → lt d[t]! d[a]! = false) : Merged lt a b d d' := by
  refine ⟨(h.chg hS (by omega) hi (by omega) fun p q hp hp' hq hq' => ?_).mono (Nat.le_refl _) hib, fun p q hp hpq hq => ?_⟩
  · obtain rfl : p = a := by omega
    exact h1 q hq hq'
  · have g : ∀ t, a ≤ t → t < b → (t < i - 1 ∧ d'[t]! = d[t + 1]!) ∨ (t = i - 1 ∧ d'[t]! = d[a]!) ∨ (i ≤ t ∧ d'[t]! = d[t]!) := fun t ht ht' => by
      by_cases c1 : t < i - 1
      · exact .inl ⟨c1, by rw [h.fst t ht (by omega), show t - a + (a + 1) = t + 1 by omega]⟩
      · by_cases c2 : t = i - 1
        · exact .inr (.inl ⟨c2, by rw [h.snd t (by omega) (by omega)]; congr 2; omega⟩)
        · exact .inr (.inr ⟨by omega, h.hi t (by omega)⟩)
    rcases g p hp (by omega) with ⟨cp, ep⟩ | ⟨cp, ep⟩ | ⟨cp, ep⟩ <;> rcases g q (by omega) hq with ⟨cq, eq⟩ | ⟨cq, eq⟩ | ⟨cq, eq⟩ <;> rw [ep, eq]
    · exact hs _ _ (by omega) (by omega) (by omega)
    · exact hS.asymmA (h1 _ (by omega) (by omega))
    · exact hs _ _ (by omega) (by omega) (by omega)
    · omega
    · omega
    · exact h2 _ cq hq
    · omega
    · omega
    · exact hs _ _ (by omega) (by omega) (by omega)

/-- One element inserted into the sorted block at its left. -/
theorem merged_right (hS : SWO lt) {a i m : Nat} {d d' : Array α} (h : Rotd i m (m + 1) d d') (hi : a ≤ i) (him : i ≤ m) (hb : m + 1 ≤ d.size) (hs : SortedIn lt a m d)
    (h1 : ∀ t, a ≤ t → t < i → lt d[m]! d[t]! = false) (h2 : ∀ t, i ≤ t → t < m → lt d[m]! d[t]! = true) : Merged lt a (m + 1) d d' := by
  refine ⟨(h.chg hS him (by omega) (by omega) fun p q hp hp' hq hq' => ?_).mono hi (Nat.le_refl _), fun p q hp hpq hq => ?_⟩
  · obtain rfl : q = m := by omega
    exact h2 p hp hp'
  · have g : ∀ t, a ≤ t → t < m + 1 → (t < i ∧ d'[t]! = d[t]!) ∨ (t = i ∧ d'[t]! = d[m]!) ∨ (i + 1 ≤ t ∧ d'[t]! = d[t - 1]!) := fun t ht ht' => by
      by_cases c1 : t < i
      · exact .inl ⟨c1, h.lo t c1⟩
      · by_cases c2 : t = i
        · exact .inr (.inl ⟨c2, by rw [h.fst t (by omega) (by omega)]; congr 2; omega⟩)
        · exact .inr (.inr ⟨by omega, by rw [h.snd t (by omega) (by omega)]; congr 2; omega⟩)
    rcases g p hp (by omega) with ⟨cp, ep⟩ | ⟨cp, ep⟩ | ⟨cp, ep⟩ <;> rcases g q (by omega) hq with ⟨cq, eq⟩ | ⟨cq, eq⟩ | ⟨cq, eq⟩ <;> rw [ep, eq]
    · exact hs _ _ (by omega) (by omega) (by omega)
    · exact h1 _ hp cp
    · exact hs _ _ (by omega) (by omega) (by omega)
    · omega
    · omega
    · exact hS.asymmA (h2 _ (by omega) (by omega))
    · omega
    · omega
    · exact hs _ _ (by omega) (by omega) (by omega)

/-- What symMerge's middle step gives: the two halves, each of two sorted blocks, and nothing of the left one is greater than anything of the right one. -/
structure Halves (lt : α → α → Bool) (a s mid e b : Nat) (d d1 : Array α) : Prop where
  chg : Chg lt a b d d1
  s1 : SortedIn lt a s d1
  s2 : SortedIn lt s mid d1
  s3 : SortedIn lt mid e d1
  s4 : SortedIn lt e b d1
  cross : ∀ i j, a ≤ i → i < mid → mid ≤ j → j < b → lt d1[j]! d1[i]! = false

theorem sorted_le (hS : SWO lt) {a b : Nat} {d : Array α} (h : SortedIn lt a b d) {i j : Nat} (h1 : a ≤ i) (h2 : i ≤ j) (h3 : j < b) : lt d[j]! d[i]! = false := by
  rcases Nat.lt_or_ge i j with h4 | h4
  · exact h i j h1 h4 h3
  · obtain rfl : i = j := by omega
    exact hS.irrefl _

theorem halves (hS : SWO lt) {a s m mid e b : Nat} {d d1 : Array α} (h : Rotd s m e d d1) (has : a ≤ s) (hsm : s ≤ m) (hme : m ≤ e) (heb : e ≤ b) (hb : b ≤ d.size) (hem : e + s = mid + m) (hsmid : s ≤ mid)
    (hl : SortedIn lt a m d) (hr : SortedIn lt m b d)
    (hB : s < m → m < e → lt d[e - 1]! d[s]! = true) (hC : a < s → e < b → lt d[e]! d[s - 1]! = false) : Halves lt a s mid e b d d1 := by
  have hlt : ∀ p q, s ≤ p → p < m → m ≤ q → q < e → lt d[q]! d[p]! = true := fun p q hp hp' hq hq' => by
    have h1 := hB (by omega) (by omega)
    have h2 := sorted_le hS hl has hp hp'
    have h3 := sorted_le hS hr hq (show q ≤ e - 1 by omega) (by omega)
    cases h4 : lt d[q]! d[p]! with
    | true => rfl
    | false =>
      have h5 := hS.ntrans _ _ _ (hS.ntrans _ _ _ h3 h4) h2
      rw [h1] at h5
      cases h5
  have hge : ∀ p q, a ≤ p → p < s → e ≤ q → q < b → lt d[q]! d[p]! = false := fun p q hp hp' hq hq' => by
    have h1 := hC (by omega) (by omega)
    have h2 := sorted_le hS hl hp (show p ≤ s - 1 by omega) (by omega)
    have h3 := sorted_le hS hr (show m ≤ e by omega) hq hq'
    exact hS.ntrans _ _ _ (hS.ntrans _ _ _ h3 h1) h2
  refine ⟨(h.chg hS hsm hme (by omega) hlt).mono has heb, fun p q hp hpq hq => ?_, fun p q hp hpq hq => ?_, fun p q hp hpq hq => ?_, fun p q hp hpq hq => ?_, fun p q hp hpq hq hqb => ?_⟩
  · rw [h.lo p (by omega), h.lo q (by omega)]; exact hl _ _ hp hpq (by omega)
  · rw [h.fst p hp (by omega), h.fst q (by omega) (by omega)]; exact hr _ _ (by omega) (by omega) (by omega)
  · rw [h.snd p (by omega) (by omega), h.snd q (by omega) hq]; exact hl _ _ (by omega) (by omega) (by omega)
  · rw [h.hi p hp, h.hi q (by omega)]; exact hr _ _ (by omega) hpq hq
  · by_cases c1 : p < s
    · rw [h.lo p c1]
      by_cases c2 : q < e
      · rw [h.snd q (by omega) c2]; exact sorted_le hS hl hp (by omega) (by omega)
      · rw [h.hi q (by omega)]; exact hge _ _ hp c1 (by omega) hqb
    · rw [h.fst p (by omega) (by omega)]
      by_cases c2 : q < e
      · rw [h.snd q (by omega) c2]; exact hS.asymmA (hlt _ _ (by omega) (by omega) (by omega) (by omega))
      · rw [h.hi q (by omega)]; exact sorted_le hS hr (by omega) (by omega) hqb

/-- A half of which one block is empty is sorted as it is. -/
theorem Halves.left_trivial {a s mid e b : Nat} {d d1 : Array α} (h : Halves lt a s mid e b d d1) (has : a ≤ s) (hsm : s ≤ mid) (hn : ¬ (a < s ∧ s < mid)) : Merged lt a mid d1 d1 := by
  refine ⟨Chg.refl _ _ _, ?_⟩
  rcases Nat.eq_or_lt_of_le has with h1 | h1
  · rw [h1]; exact h.s2
  · rw [show mid = s by omega]; exact h.s1
theorem Halves.right_trivial {a s mid e b : Nat} {d d1 : Array α} (h : Halves lt a s mid e b d d1) {d2 : Array α} (hd : Merged lt a mid d1 d2) (hme : mid ≤ e) (heb : e ≤ b) (hn : ¬ (mid < e ∧ e < b)) : Merged lt mid b d2 d2 := by
  refine ⟨Chg.refl _ _ _, fun p q hp hpq hq => ?_⟩
  rw [hd.chg.out p (by omega), hd.chg.out q (by omega)]
  rcases Nat.eq_or_lt_of_le hme with h1 | h1
  · exact h.s4 p q (by omega) hpq hq
  · exact h.s3 p q hp hpq (by omega)
theorem Halves.s3' {a s mid e b : Nat} {d d1 d2 : Array α} (h : Halves lt a s mid e b d d1) (hd : Merged lt a mid d1 d2) : SortedIn lt mid e d2 := fun p q hp hpq hq => by
  rw [hd.chg.out p (by omega), hd.chg.out q (by omega)]; exact h.s3 p q hp hpq hq
theorem Halves.s4' {a s mid e b : Nat} {d d1 d2 : Array α} (h : Halves lt a s mid e b d d1) (hd : Merged lt a mid d1 d2) (hme : mid ≤ e) : SortedIn lt e b d2 := fun p q hp hpq hq => by
  rw [hd.chg.out p (by omega), hd.chg.out q (by omega)]; exact h.s4 p q hp hpq hq

theorem Halves.merged (hS : SWO lt) {a s mid e b : Nat} {d d1 d2 d3 : Array α} (h : Halves lt a s mid e b d d1) (ham : a ≤ mid) (hmb : mid ≤ b) (hb : b ≤ d.size) (h2 : Merged lt a mid d1 d2) (h3 : Merged lt mid b d2 d3) : Merged lt a b d d3 := by
  refine ⟨(h.chg.trans (h2.chg.mono (Nat.le_refl _) hmb)).trans (h3.chg.mono ham (Nat.le_refl _)), fun p q hp hpq hq => ?_⟩
  have z1 := h.chg.size
  have z2 := h2.chg.size
  by_cases c1 : q < mid
  · rw [h3.chg.out p (.inl (by omega)), h3.chg.out q (.inl c1)]; exact h2.sorted p q hp hpq c1
  · by_cases c2 : p < mid
    · obtain ⟨u, hu1, hu2, hu⟩ := h2.chg.mem hS (by omega) hp c2
      obtain ⟨v, hv1, hv2, hv⟩ := h3.chg.mem hS (by omega) (show mid ≤ q by omega) hq
      rw [h3.chg.out p (.inl c2), hu, hv, h2.chg.out v (.inr hv1)]
      exact h.cross u v hu1 hu2 hv1 hv2
    · exact h3.sorted p q (by omega) hpq hq

/-! ### The insertion sort keeps the order of equals -/
theorem chg_swp (hS : SWO lt) (d : Array α) (j : Nat) (hj : j + 1 < d.size) (hl : lt d[j + 1]! d[j]! = true) (a b : Nat) (ha : a ≤ j) (hb : j + 2 ≤ b) : Chg lt a b d (swp d (j + 1) j) := by
  have g := swp_get d hj (show j < d.size by omega)
  have hr : Rotd j (j + 1) (j + 2) d (swp d (j + 1) j) := by
    refine ⟨swp_size _ _ _, fun t ht => ?_, fun t h1 h2 => ?_, fun t h1 h2 => ?_, fun t ht => ?_⟩
    · rw [g, if_neg (by omega), if_neg (by omega)]
    · obtain rfl : t = j := by omega
      rw [g, if_pos rfl, show t - t + (t + 1) = t + 1 by omega]
    · obtain rfl : t = j + 1 := by omega
      rw [g, if_neg (by omega), if_pos rfl, show j + 1 - (j + 2 - (j + 1)) = j by omega]
    · rw [g, if_neg (by omega), if_neg (by omega)]
  refine (hr.chg hS (by omega) (by omega) (by omega) fun p q hp hp' hq hq' => ?_).mono ha hb
  obtain rfl : p = j := by omega
  obtain rfl : q = p + 1 := by omega
  exact hl

theorem chg_inner (hS : SWO lt) (a b : Nat) : ∀ (j : Nat) (d : Array α), j < b → b ≤ d.size → Chg lt a b d (insInner lt a j d)
  | 0, d, _, _ => Chg.refl _ _ _
  | j + 1, d, hj, hb => by
    unfold insInner
    split
    · rename_i hc
      simp only [gt_iff_lt, Bool.and_eq_true, decide_eq_true_eq] at hc
      exact (chg_swp hS d j (by omega) hc.2 a b (by omega) (by omega)).trans (chg_inner hS a b j _ (by omega) (by rw [swp_size]; exact hb))
    · exact Chg.refl _ _ _

theorem chg_outer (hS : SWO lt) (a b : Nat) : ∀ (n i : Nat) (d : Array α), b - i = n → b ≤ d.size → Chg lt a b d (insOuter lt a b i d)
  | 0, i, d, hn, _ => by rw [insOuter, if_neg (by omega)]; exact Chg.refl _ _ _
  | n + 1, i, d, hn, hb => by
    rw [insOuter, if_pos (by omega)]
    have h := chg_inner hS a b i d (by omega) hb
    exact h.trans (chg_outer hS a b n (i + 1) _ (by omega) (by rw [h.size]; exact hb))

theorem merged_insertion (hS : SWO lt) (a b : Nat) (d : Array α) (hab : a ≤ b) (hb : b ≤ d.size) : Merged lt a b d (insertionSort lt d a b) :=
  ⟨chg_outer hS a b _ _ d rfl hb, (insertionSort_holds hS d a b hab hb).2⟩

end Go.Proofs.Ytpjfeaccicmgoaa
