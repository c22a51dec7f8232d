/-
  Plain mathematics of sorted lists of pairs: look-up, putting in, taking out.
-/
import Derived.Test.YtpopoihggomfiaaMemR
import Derived.Lib.Bytealg
set_option linter.unusedVariables false
set_option maxRecDepth 100000
namespace Go.Proofs.Ytpopoihggomfiaa
open Go.Sort Go.Lib

def cfK (x y : Pr) : Int := Lib.compareBytes x.1.data.toList y.1.data.toList
def ltOf (cf : Pr → Pr → Int) (x y : Pr) : Bool := decide (cf x y < 0)
abbrev lt' : Pr → Pr → Bool := ltOf cfK
theorem lt_of (x y : Pr) (h : cfK x y < 0) : lt' x y = true := decide_eq_true h
theorem nlt_of (x y : Pr) (h : ¬ cfK x y < 0) : lt' x y = false := decide_eq_false h
theorem cmp_lt : ∀ a b : List UInt8, decide (Lib.compareBytes a b < 0) = ltStr a b
  | [], b => by cases b <;> simp [Lib.compareBytes, ltStr]
  | _ :: _, [] => by simp [Lib.compareBytes, ltStr]
  | u :: a, v :: b => by
    rw [Lib.compareBytes]
    by_cases h1 : u < v
    · simp [h1, ltStr, List.cons_lt_cons_iff]
    · by_cases h2 : v < u
      · have h3 : ¬ u = v := by rintro rfl; exact h1 h2
        simp [h1, h2, h3, ltStr, List.cons_lt_cons_iff]
      · have h3 : u = v := by
          rw [UInt8.lt_iff_toNat_lt] at h1 h2
          exact UInt8.toNat_inj.1 (by omega)
        subst h3
        rw [if_neg h1, if_neg h1, cmp_lt a b]
        simp [ltStr]
theorem cmp_eq0 : ∀ a b : List UInt8, Lib.compareBytes a b = 0 ↔ a = b
  | [], [] => by simp [Lib.compareBytes]
  | [], _ :: _ => by simp [Lib.compareBytes]
  | _ :: _, [] => by simp [Lib.compareBytes]
  | u :: a, v :: b => by
    rw [Lib.compareBytes]
    by_cases h1 : u < v
    · have h3 : ¬ u = v := by rintro rfl; exact UInt8.lt_irrefl _ h1
      simp [h1, h3]
    · by_cases h2 : v < u
      · have h3 : ¬ u = v := by rintro rfl; exact h1 h2
        simp [h1, h2, h3]
      · have h3 : u = v := by
          rw [UInt8.lt_iff_toNat_lt] at h1 h2
          exact UInt8.toNat_inj.1 (by omega)
        subst h3
        rw [if_neg h1, if_neg h1, cmp_eq0 a b]
        simp

theorem ltOf_cfK (x y : Pr) : ltOf cfK x y = kl x.1 y.1 := cmp_lt _ _
theorem cfK_zero (x y : Pr) : cfK x y = 0 ↔ x.1 = y.1 := by
  unfold cfK
  rw [cmp_eq0]
  exact ⟨key_ext, fun h => by rw [h]⟩

/-- The value of the last pair with a key. -/
def lk : List Pr → ByteArray → Option Int
  | [], _ => none
  | x :: r, k => match lk r k with
    | some v => some v
    | none => if x.1 = k then some x.2 else none

theorem lk_nil (k : ByteArray) : lk [] k = none := rfl
theorem lk_append (a b : List Pr) (k : ByteArray) : lk (a ++ b) k = (lk b k).or (lk a k) := by
  induction a with
  | nil => simp [lk]
  | cons x r ih =>
    rw [List.cons_append, lk, ih]
    cases lk b k with
    | some v => simp
    | none => simp only [Option.or]; rw [lk]
theorem lk_one (x : Pr) (k : ByteArray) : lk [x] k = if x.1 = k then some x.2 else none := by simp [lk]
theorem lk_none {xs : List Pr} {k : ByteArray} (h : ∀ p ∈ xs, p.1 ≠ k) : lk xs k = none := by
  induction xs with
  | nil => rfl
  | cons x r ih =>
    rw [lk, ih (fun p hp => h p (List.mem_cons_of_mem _ hp)), if_neg (h x (List.mem_cons_self ..))]
theorem lk_filter (p : Pr → Bool) (k : ByteArray) : ∀ xs : List Pr, (∀ x ∈ xs, x.1 = k → p x = true) → lk (xs.filter p) k = lk xs k
  | [], _ => rfl
  | x :: r, h => by
    have ih := lk_filter p k r fun y hy => h y (List.mem_cons_of_mem _ hy)
    by_cases hp : p x = true
    · rw [List.filter_cons_of_pos hp, lk, lk, ih]
    · rw [List.filter_cons_of_neg hp, ih, lk, if_neg (fun e => hp (h x (List.mem_cons_self ..) e))]
      cases lk r k <;> rfl
theorem lk_mem {xs : List Pr} (h : Asc xs) (k : ByteArray) (v : Int) : (k, v) ∈ xs ↔ lk xs k = some v := by
  induction xs with
  | nil => simp [lk]
  | cons x r ih =>
    obtain ⟨h1, h2⟩ := List.pairwise_cons.1 h
    have ih := ih h2
    rw [List.mem_cons, ih, lk]
    by_cases hk : x.1 = k
    · have hn : lk r k = none := lk_none fun p hp e => kl_ne (h1 p hp) (hk.trans e.symm)
      rw [hn, if_pos hk]
      constructor
      · rintro (e | e)
        · rw [← e]
        · cases e
      · intro e
        left
        injection e with e
        rw [← hk, ← e]
    · rw [if_neg hk]
      constructor
      · rintro (e | e)
        · exact absurd (by rw [← e]) hk
        · rw [e]
      · intro e
        right
        cases hr : lk r k with
        | none => rw [hr] at e; cases e
        | some u => rw [hr] at e; exact e

/-- Two ascending lists with the same values are one. -/
theorem asc_mem_ext : ∀ xs ys : List Pr, Asc xs → Asc ys → (∀ p, p ∈ xs ↔ p ∈ ys) → xs = ys
  | [], [], _, _, _ => rfl
  | [], y :: ys, _, _, h => absurd ((h y).2 (List.mem_cons_self ..)) (List.not_mem_nil)
  | x :: xs, [], _, _, h => absurd ((h x).1 (List.mem_cons_self ..)) (List.not_mem_nil)
  | x :: xs, y :: ys, hx, hy, h => by
    obtain ⟨x1, x2⟩ := List.pairwise_cons.1 hx
    obtain ⟨y1, y2⟩ := List.pairwise_cons.1 hy
    have e : x = y := by
      rcases List.mem_cons.1 ((h x).1 (List.mem_cons_self ..)) with e | e
      · exact e
      · rcases List.mem_cons.1 ((h y).2 (List.mem_cons_self ..)) with e' | e'
        · exact e'.symm
        · have := kl_asymm (y1 x e)
          rw [x1 y e'] at this
          cases this
    subst e
    rw [asc_mem_ext xs ys x2 y2 fun p => ⟨fun hp => ?_, fun hp => ?_⟩]
    · rcases List.mem_cons.1 ((h p).1 (List.mem_cons_of_mem _ hp)) with e | e
      · subst e; exact absurd rfl (kl_ne (x1 p hp))
      · exact e
    · rcases List.mem_cons.1 ((h p).2 (List.mem_cons_of_mem _ hp)) with e | e
      · subst e; exact absurd rfl (kl_ne (y1 p hp))
      · exact e
theorem asc_ext {xs ys : List Pr} (hx : Asc xs) (hy : Asc ys) (h : ∀ k, lk xs k = lk ys k) : xs = ys :=
  asc_mem_ext xs ys hx hy fun ⟨k, v⟩ => by rw [lk_mem hx, lk_mem hy, h]

/-- The list around a key. -/
structure Split (xs : List Pr) (k : ByteArray) (A M C : List Pr) : Prop where
  eq : xs = A ++ (M ++ C)
  lo : ∀ a ∈ A, kl a.1 k = true
  hi : ∀ c ∈ C, kl k c.1 = true
  mid : M = [] ∨ ∃ u, M = [(k, u)]

def PutOf (xs : List Pr) (k : ByteArray) (v : Int) (ys : List Pr) : Prop :=
  Asc ys ∧ (∀ j, lk ys j = if j = k then some v else lk xs j) ∧ ys.length = xs.length + (if (lk xs k).isSome then 0 else 1)
def DropOf (xs : List Pr) (k : ByteArray) (ys : List Pr) : Prop :=
  Asc ys ∧ (∀ j, lk ys j = if j = k then none else lk xs j) ∧ ys.length + (if (lk xs k).isSome then 1 else 0) = xs.length
def OfOf (xs ys : List Pr) : Prop := Asc ys ∧ (∀ j, lk ys j = lk xs j) ∧ ys.length ≤ xs.length

theorem Split.lkA {xs : List Pr} {k : ByteArray} {A M C : List Pr} (h : Split xs k A M C) : lk A k = none := lk_none fun a ha => kl_ne (h.lo a ha)
theorem Split.lkC {xs : List Pr} {k : ByteArray} {A M C : List Pr} (h : Split xs k A M C) : lk C k = none := lk_none fun c hc => Ne.symm (kl_ne (h.hi c hc))
theorem Split.lk_ {xs : List Pr} {k : ByteArray} {A M C : List Pr} (h : Split xs k A M C) : lk xs k = lk M k := by
  rw [h.eq, lk_append, lk_append, h.lkA, h.lkC]
  cases lk M k <;> rfl
theorem Split.lkM {xs : List Pr} {k : ByteArray} {A M C : List Pr} (h : Split xs k A M C) {j : ByteArray} (hj : j ≠ k) : lk M j = none := by
  rcases h.mid with e | ⟨u, e⟩ <;> subst e
  · rfl
  · rw [lk_one, if_neg (Ne.symm hj)]

theorem Split.put {xs : List Pr} {k : ByteArray} {A M C : List Pr} (hx : Asc xs) (h : Split xs k A M C) (v : Int) : PutOf xs k v (A ++ (k, v) :: C) := by
  have hx' := hx
  rw [h.eq] at hx'
  obtain ⟨a1, a2, a3⟩ := List.pairwise_append.1 hx'
  obtain ⟨b1, b2, b3⟩ := List.pairwise_append.1 a2
  refine ⟨List.pairwise_append.2 ⟨a1, List.pairwise_cons.2 ⟨fun c hc => h.hi c hc, b2⟩, fun a ha c hc => ?_⟩, fun j => ?_, ?_⟩
  · rcases List.mem_cons.1 hc with e | e
    · subst e; exact h.lo a ha
    · exact a3 a ha c (List.mem_append_right _ e)
  · by_cases hj : j = k
    · subst hj
      rw [if_pos rfl, lk_append, show (j, v) :: C = [(j, v)] ++ C from rfl, lk_append, h.lkC, lk_one, if_pos rfl]
      rfl
    · rw [if_neg hj, h.eq, lk_append, show (k, v) :: C = [(k, v)] ++ C from rfl, lk_append, lk_append, lk_append, lk_one, if_neg (Ne.symm hj), h.lkM hj]
  · rw [h.lk_]
    rcases h.mid with e | ⟨u, e⟩ <;> rw [h.eq, e] <;> simp [lk] <;> omega

theorem Split.drop {xs : List Pr} {k : ByteArray} {A M C : List Pr} (hx : Asc xs) (h : Split xs k A M C) : DropOf xs k (A ++ C) := by
  have hx' := hx
  rw [h.eq] at hx'
  obtain ⟨a1, a2, a3⟩ := List.pairwise_append.1 hx'
  obtain ⟨b1, b2, b3⟩ := List.pairwise_append.1 a2
  refine ⟨List.pairwise_append.2 ⟨a1, b2, fun a ha c hc => a3 a ha c (List.mem_append_right _ hc)⟩, fun j => ?_, ?_⟩
  · by_cases hj : j = k
    · subst hj
      rw [if_pos rfl, lk_append, h.lkA, h.lkC]
      rfl
    · rw [if_neg hj, h.eq, lk_append, lk_append, lk_append, h.lkM hj]
      cases lk C j <;> rfl
  · rw [h.lk_]
    rcases h.mid with e | ⟨u, e⟩ <;> rw [h.eq, e] <;> simp [lk] <;> omega

/-- What the search finds. -/
theorem split_of {xs : List Pr} (hx : Asc xs) {k : ByteArray} {i : Nat} (hi : i ≤ xs.length) (h1 : ∀ t x, t < i → xs[t]? = some x → kl x.1 k = true) (h2 : ∀ t x, i ≤ t → xs[t]? = some x → kl x.1 k = false) :
    (∃ u, xs[i]? = some (k, u) ∧ Split xs k (xs.take i) [(k, u)] (xs.drop (i + 1))) ∨ ((∀ x, xs[i]? = some x → x.1 ≠ k) ∧ Split xs k (xs.take i) [] (xs.drop i)) := by
  have hA : ∀ a ∈ xs.take i, kl a.1 k = true := fun a ha => by
    obtain ⟨t, ht⟩ := List.mem_iff_getElem?.1 ha
    have htl : t < i := by
      rcases Nat.lt_or_ge t i with h | h
      · exact h
      · rw [List.getElem?_eq_none (by simp; omega)] at ht; cases ht
    rw [List.getElem?_take_of_lt htl] at ht
    exact h1 t a htl ht
  cases hg : xs[i]? with
  | none =>
    have hl : xs.length ≤ i := List.getElem?_eq_none_iff.1 hg
    refine .inr ⟨fun x hx => (by cases hx), ⟨by simp, hA, fun c hc => ?_, .inl rfl⟩⟩
    rw [List.drop_eq_nil_of_le hl] at hc
    cases hc
  | some y =>
    have hlt : i < xs.length := by
      rcases Nat.lt_or_ge i xs.length with h | h
      · exact h
      · rw [List.getElem?_eq_none h] at hg; cases hg
    have hd : xs.drop i = y :: xs.drop (i + 1) := by
      rw [List.drop_eq_getElem_cons hlt]
      rw [List.getElem?_eq_getElem hlt] at hg
      injection hg with hg
      rw [hg]
    have hy := h2 i y (Nat.le_refl _) hg
    have hasc : Asc (xs.drop i) := hx.sublist (List.drop_sublist ..)
    rw [hd] at hasc
    obtain ⟨c1, c2⟩ := List.pairwise_cons.1 hasc
    by_cases hk : y.1 = k
    · refine .inl ⟨y.2, by rw [← hk], ⟨?_, hA, fun c hc => by rw [← hk]; exact c1 c hc, .inr ⟨_, rfl⟩⟩⟩
      have : y = (k, y.2) := by rw [← hk]
      rw [← this]
      conv => lhs; rw [← List.take_append_drop i xs, hd]
      rfl
    · refine .inr ⟨fun x hx => (by cases hx; exact hk), ⟨by simp, hA, fun c hc => ?_, .inl rfl⟩⟩
      have hky := kl_of_ne hy hk
      rw [hd] at hc
      rcases List.mem_cons.1 hc with e | e
      · subst e; exact hky
      · exact kl_trans hky (c1 c e)

theorem PutOf.unique {xs : List Pr} {k : ByteArray} {v : Int} {ys zs : List Pr} (h : PutOf xs k v ys) (g : PutOf xs k v zs) : ys = zs :=
  asc_ext h.1 g.1 fun j => by rw [h.2.1, g.2.1]
theorem DropOf.unique {xs : List Pr} {k : ByteArray} {ys zs : List Pr} (h : DropOf xs k ys) (g : DropOf xs k zs) : ys = zs :=
  asc_ext h.1 g.1 fun j => by rw [h.2.1, g.2.1]
theorem OfOf.unique {xs ys zs : List Pr} (h : OfOf xs ys) (g : OfOf xs zs) : ys = zs :=
  asc_ext h.1 g.1 fun j => by rw [h.2.1, g.2.1]

/-! ### The last of each key, of a sorted array -/
end Go.Proofs.Ytpopoihggomfiaa
