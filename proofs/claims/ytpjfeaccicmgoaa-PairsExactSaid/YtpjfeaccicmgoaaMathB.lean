/-
  Plain mathematics of sorted lists of pairs: look-up, putting in, taking out, the last value of each key.
-/
import Derived.Test.YtpjfeaccicmgoaaWalksE
namespace Go.Proofs.Ytpjfeaccicmgoaa
open Go.Sort

/-- The order of the keys. -/
def kl (a b : ByteArray) : Bool := ltStr a.data.toList b.data.toList

theorem cmp_lt : ∀ a b : List UInt8, decide (Lib.compareBytes a b < 0) = ltStr a b
  | [], b => by cases b <;> simp [Lib.compareBytes, ltStr]
  | _ :: _, [] => by simp [Lib.compareBytes, ltStr]
  | u :: a, v :: b => by
    rw [Lib.compareBytes]
    by_cases h1 : u < v
    · simp [h1, ltStr, List.cons_lt_cons_iff]
    · by_cases h2 : v < u
      · have h3 : ¬ u = v := by rintro rfl; exact h1 h2
        simp [h1, h2, h3, ltStr, List.cons_lt_cons_iff]
      · have h3 : u = v := by
          rw [UInt8.lt_iff_toNat_lt] at h1 h2
          exact UInt8.toNat_inj.1 (by omega)
        subst h3
        rw [if_neg h1, if_neg h1, cmp_lt a b]
        simp [ltStr]
theorem cmp_eq0 : ∀ a b : List UInt8, Lib.compareBytes a b = 0 ↔ a = b
  | [], [] => by simp [Lib.compareBytes]
  | [], _ :: _ => by simp [Lib.compareBytes]
  | _ :: _, [] => by simp [Lib.compareBytes]
  | u :: a, v :: b => by
    rw [Lib.compareBytes]
    by_cases h1 : u < v
    · have h3 : ¬ u = v := by rintro rfl; exact UInt8.lt_irrefl _ h1
      simp [h1, h3]
    · by_cases h2 : v < u
      · have h3 : ¬ u = v := by rintro rfl; exact h1 h2
        simp [h1, h2, h3]
      · have h3 : u = v := by
          rw [UInt8.lt_iff_toNat_lt] at h1 h2
          exact UInt8.toNat_inj.1 (by omega)
        subst h3
        rw [if_neg h1, if_neg h1, cmp_eq0 a b]
        simp

theorem ltOf_cfK (x y : Pr) : ltOf cfK x y = kl x.1 y.1 := cmp_lt _ _
theorem key_ext {a b : ByteArray} (h : a.data.toList = b.data.toList) : a = b := by
  cases a; cases b
  simp only at h
  rw [Array.toList_inj.1 h]
theorem cfK_zero (x y : Pr) : cfK x y = 0 ↔ x.1 = y.1 := by
  unfold cfK
  rw [cmp_eq0]
  exact ⟨key_ext, fun h => by rw [h]⟩

theorem kl_irrefl (a : ByteArray) : kl a a = false := swo_ltStr.irrefl _
theorem kl_trans {a b c : ByteArray} (h : kl a b = true) (k : kl b c = true) : kl a c = true := swo_ltStr.trans _ _ _ h k
theorem kl_ntrans {a b c : ByteArray} (h : kl a b = false) (k : kl b c = false) : kl a c = false := swo_ltStr.ntrans _ _ _ h k
theorem kl_asymm {a b : ByteArray} (h : kl a b = true) : kl b a = false := swo_ltStr.asymmA h
theorem kl_eq {a b : ByteArray} (h : kl a b = false) (k : kl b a = false) : a = b := by
  apply key_ext
  simp only [kl, ltStr, decide_eq_false_iff_not, List.not_lt] at h k
  exact List.le_antisymm k h
theorem kl_ne {a b : ByteArray} (h : kl a b = true) : a ≠ b := by
  rintro rfl
  rw [kl_irrefl] at h
  cases h
theorem kl_of_ne {a b : ByteArray} (h : kl a b = false) (hne : a ≠ b) : kl b a = true := by
  cases hk : kl b a with
  | true => rfl
  | false => exact absurd (kl_eq h hk) hne

/-- Strictly ascending keys. -/
def Asc (xs : List Pr) : Prop := xs.Pairwise fun x y => kl x.1 y.1 = true

/-- The value of the last pair with a key. -/
def lk : List Pr → ByteArray → Option Int
  | [], _ => none
  | x :: r, k => match lk r k with
    | some v => some v
    | none => if x.1 = k then some x.2 else none

theorem lk_nil (k : ByteArray) : lk [] k = none := rfl
theorem lk_append (a b : List Pr) (k : ByteArray) : lk (a ++ b) k = (lk b k).or (lk a k) := by
  induction a with
  | nil => simp [lk]
  | cons x r ih =>
    rw [List.cons_append, lk, ih]
    cases lk b k with
    | some v => simp
    | none => simp only [Option.or]; rw [lk]
theorem lk_one (x : Pr) (k : ByteArray) : lk [x] k = if x.1 = k then some x.2 else none := by simp [lk]
theorem lk_none {xs : List Pr} {k : ByteArray} (h : ∀ p ∈ xs, p.1 ≠ k) : lk xs k = none := by
  induction xs with
  | nil => rfl
  | cons x r ih =>
    rw [lk, ih (fun p hp => h p (List.mem_cons_of_mem _ hp)), if_neg (h x (List.mem_cons_self ..))]
theorem lk_filter (p : Pr → Bool) (k : ByteArray) : ∀ xs : List Pr, (∀ x ∈ xs, x.1 = k → p x = true) → lk (xs.filter p) k = lk xs k
  | [], _ => rfl
  | x :: r, h => by
    have ih := lk_filter p k r fun y hy => h y (List.mem_cons_of_mem _ hy)
    by_cases hp : p x = true
    · rw [List.filter_cons_of_pos hp, lk, lk, ih]
    · rw [List.filter_cons_of_neg hp, ih, lk, if_neg (fun e => hp (h x (List.mem_cons_self ..) e))]
      cases lk r k <;> rfl
theorem lk_mem {xs : List Pr} (h : Asc xs) (k : ByteArray) (v : Int) : (k, v) ∈ xs ↔ lk xs k = some v := by
  induction xs with
  | nil => simp [lk]
  | cons x r ih =>
    obtain ⟨h1, h2⟩ := List.pairwise_cons.1 h
    have ih := ih h2
    rw [List.mem_cons, ih, lk]
    by_cases hk : x.1 = k
    · have hn : lk r k = none := lk_none fun p hp e => kl_ne (h1 p hp) (hk.trans e.symm)
      rw [hn, if_pos hk]
      constructor
      · rintro (e | e)
        · rw [← e]
        · cases e
      · intro e
        left
        injection e with e
        rw [← hk, ← e]
    · rw [if_neg hk]
      constructor
      · rintro (e | e)
        · exact absurd (by rw [← e]) hk
        · rw [e]
      · intro e
        right
        cases hr : lk r k with
        | none => rw [hr] at e; cases e
        | some u => rw [hr] at e; exact e

/-- Two ascending lists with the same values are one. -/
theorem asc_mem_ext : ∀ xs ys : List Pr, Asc xs → Asc ys → (∀ p, p ∈ xs ↔ p ∈ ys) → xs = ys
  | [], [], _, _, _ => rfl
  | [], y :: ys, _, _, h => absurd ((h y).2 (List.mem_cons_self ..)) (List.not_mem_nil)
  | x :: xs, [], _, _, h => absurd ((h x).1 (List.mem_cons_self ..)) (List.not_mem_nil)
  | x :: xs, y :: ys, hx, hy, h => by
    obtain ⟨x1, x2⟩ := List.pairwise_cons.1 hx
    obtain ⟨y1, y2⟩ := List.pairwise_cons.1 hy
    have e : x = y := by
      rcases List.mem_cons.1 ((h x).1 (List.mem_cons_self ..)) with e | e
      · exact e
      · rcases List.mem_cons.1 ((h y).2 (List.mem_cons_self ..)) with e' | e'
        · exact e'.symm
        · have := kl_asymm (y1 x e)
          rw [x1 y e'] at this
          cases this
    subst e
    rw [asc_mem_ext xs ys x2 y2 fun p => ⟨fun hp => ?_, fun hp => ?_⟩]
    · rcases List.mem_cons.1 ((h p).1 (List.mem_cons_of_mem _ hp)) with e | e
      · subst e; exact absurd rfl (kl_ne (x1 p hp))
      · exact e
    · rcases List.mem_cons.1 ((h p).2 (List.mem_cons_of_mem _ hp)) with e | e
      · subst e; exact absurd rfl (kl_ne (y1 p hp))
      · exact e
theorem asc_ext {xs ys : List Pr} (hx : Asc xs) (hy : Asc ys) (h : ∀ k, lk xs k = lk ys k) : xs = ys :=
  asc_mem_ext xs ys hx hy fun ⟨k, v⟩ => by rw [lk_mem hx, lk_mem hy, h]

/-- The list around a key. -/
structure Split (xs : List Pr) (k : ByteArray) (A M C : List Pr) : Prop where
  eq : xs = A ++ (M ++ C)
  lo : ∀ a ∈ A, kl a.1 k = true
  hi : ∀ c ∈ C, kl k c.1 = true
  mid : M = [] ∨ ∃ u, M = [(k, u)]

def PutOf (xs : List Pr) (k : ByteArray) (v : Int) (ys : List Pr) : Prop :=
  Asc ys ∧ (∀ j, lk ys j = if j = k then some v else lk xs j) ∧ ys.length = xs.length + (if (lk xs k).isSome then 0 else 1)
def DropOf (xs : List Pr) (k : ByteArray) (ys : List Pr) : Prop :=
  Asc ys ∧ (∀ j, lk ys j = if j = k then none else lk xs j) ∧ ys.length + (if (lk xs k).isSome then 1 else 0) = xs.length
def OfOf (xs ys : List Pr) : Prop := Asc ys ∧ (∀ j, lk ys j = lk xs j) ∧ ys.length ≤ xs.length

theorem Split.lkA {xs : List Pr} {k : ByteArray} {A M C : List Pr} (h : Split xs k A M C) : lk A k = none := lk_none fun a ha => kl_ne (h.lo a ha)
theorem Split.lkC {xs : List Pr} {k : ByteArray} {A M C : List Pr} (h : Split xs k A M C) : lk C k = none := lk_none fun c hc => Ne.symm (kl_ne (h.hi c hc))
theorem Split.lk_ {xs : List Pr} {k : ByteArray} {A M C : List Pr} (h : Split xs k A M C) : lk xs k = lk M k := by
  rw [h.eq, lk_append, lk_append, h.lkA, h.lkC]
  cases lk M k <;> rfl
theorem Split.lkM {xs : List Pr} {k : ByteArray} {A M C : List Pr} (h : Split xs k A M C) {j : ByteArray} (hj : j ≠ k) : lk M j = none := by
  rcases h.mid with e | ⟨u, e⟩ <;> subst e
  · rfl
  · rw [lk_one, if_neg (Ne.symm hj)]

theorem Split.put {xs : List Pr} {k : ByteArray} {A M C : List Pr} (hx : Asc xs) (h : Split xs k A M C) (v : Int) : PutOf xs k v (A ++ (k, v) :: C) := by
  have hx' := hx
  rw [h.eq] at hx'
  obtain ⟨a1, a2, a3⟩ := List.pairwise_append.1 hx'
  obtain ⟨b1, b2, b3⟩ := List.pairwise_append.1 a2
  refine ⟨List.pairwise_append.2 ⟨a1, List.pairwise_cons.2 ⟨fun c hc => h.hi c hc, b2⟩, fun a ha c hc => ?_⟩, fun j => ?_, ?_⟩
  · rcases List.mem_cons.1 hc with e | e
    · subst e; exact h.lo a ha
    · exact a3 a ha c (List.mem_append_right _ e)
  · by_cases hj : j = k
    · subst hj
      rw [if_pos rfl, lk_append, show (j, v) :: C = [(j, v)] ++ C from rfl, lk_append, h.lkC, lk_one, if_pos rfl]
      rfl
    · rw [if_neg hj, h.eq, lk_append, show (k, v) :: C = [(k, v)] ++ C from rfl, lk_append, lk_append, lk_append, lk_one, if_neg (Ne.symm hj), h.lkM hj]
  · rw [h.lk_]
    rcases h.mid with e | ⟨u, e⟩ <;> rw [h.eq, e] <;> simp [lk] <;> omega

theorem Split.drop {xs : List Pr} {k : ByteArray} {A M C : List Pr} (hx : Asc xs) (h : Split xs k A M C) : DropOf xs k (A ++ C) := by
  have hx' := hx
  rw [h.eq] at hx'
  obtain ⟨a1, a2, a3⟩ := List.pairwise_append.1 hx'
  obtain ⟨b1, b2, b3⟩ := List.pairwise_append.1 a2
  refine ⟨List.pairwise_append.2 ⟨a1, b2, fun a ha c hc => a3 a ha c (List.mem_append_right _ hc)⟩, fun j => ?_, ?_⟩
  · by_cases hj : j = k
    · subst hj
      rw [if_pos rfl, lk_append, h.lkA, h.lkC]
      rfl
    · rw [if_neg hj, h.eq, lk_append, lk_append, lk_append, h.lkM hj]
      cases lk C j <;> rfl
  · rw [h.lk_]
    rcases h.mid with e | ⟨u, e⟩ <;> rw [h.eq, e] <;> simp [lk] <;> omega

/-- What the search finds. -/
theorem split_of {xs : List Pr} (hx : Asc xs) {k : ByteArray} {i : Nat} (hi : i ≤ xs.length) (h1 : ∀ t x, t < i → xs[t]? = some x → kl x.1 k = true) (h2 : ∀ t x, i ≤ t → xs[t]? = some x → kl x.1 k = false) :
    (∃ u, xs[i]? = some (k, u) ∧ Split xs k (xs.take i) [(k, u)] (xs.drop (i + 1))) ∨ ((∀ x, xs[i]? = some x → x.1 ≠ k) ∧ Split xs k (xs.take i) [] (xs.drop i)) := by
  have hA : ∀ a ∈ xs.take i, kl a.1 k = true := fun a ha => by
    obtain ⟨t, ht⟩ := List.mem_iff_getElem?.1 ha
    have htl : t < i := by
      rcases Nat.lt_or_ge t i with h | h
      · exact h
      · rw [List.getElem?_eq_none (by simp; omega)] at ht; cases ht
    rw [List.getElem?_take_of_lt htl] at ht
    exact h1 t a htl ht
  cases hg : xs[i]? with
  | none =>
    have hl : xs.length ≤ i := List.getElem?_eq_none_iff.1 hg
    refine .inr ⟨fun x hx => (by cases hx), ⟨by simp, hA, fun c hc => ?_, .inl rfl⟩⟩
    rw [List.drop_eq_nil_of_le hl] at hc
    cases hc
  | some y =>
    have hlt : i < xs.length := by
      rcases Nat.lt_or_ge i xs.length with h | h
      · exact h
      · rw [List.getElem?_eq_none h] at hg; cases hg
    have hd : xs.drop i = y :: xs.drop (i + 1) := by
      rw [List.drop_eq_getElem_cons hlt]
      rw [List.getElem?_eq_getElem hlt] at hg
      injection hg with hg
      rw [hg]
    have hy := h2 i y (Nat.le_refl _) hg
    have hasc : Asc (xs.drop i) := hx.sublist (List.drop_sublist ..)
    rw [hd] at hasc
    obtain ⟨c1, c2⟩ := List.pairwise_cons.1 hasc
    by_cases hk : y.1 = k
    · refine .inl ⟨y.2, by rw [← hk], ⟨?_, hA, fun c hc => by rw [← hk]; exact c1 c hc, .inr ⟨_, rfl⟩⟩⟩
      have : y = (k, y.2) := by rw [← hk]
      rw [← this]
      conv => lhs; rw [← List.take_append_drop i xs, hd]
      rfl
    · refine .inr ⟨fun x hx => (by cases hx; exact hk), ⟨by simp, hA, fun c hc => ?_, .inl rfl⟩⟩
      have hky := kl_of_ne hy hk
      rw [hd] at hc
      rcases List.mem_cons.1 hc with e | e
      · subst e; exact hky
      · exact kl_trans hky (c1 c e)

theorem PutOf.unique {xs : List Pr} {k : ByteArray} {v : Int} {ys zs : List Pr} (h : PutOf xs k v ys) (g : PutOf xs k v zs) : ys = zs :=
  asc_ext h.1 g.1 fun j => by rw [h.2.1, g.2.1]
theorem DropOf.unique {xs : List Pr} {k : ByteArray} {ys zs : List Pr} (h : DropOf xs k ys) (g : DropOf xs k zs) : ys = zs :=
  asc_ext h.1 g.1 fun j => by rw [h.2.1, g.2.1]
theorem OfOf.unique {xs ys zs : List Pr} (h : OfOf xs ys) (g : OfOf xs zs) : ys = zs :=
  asc_ext h.1 g.1 fun j => by rw [h.2.1, g.2.1]

/-! ### The last of each key, of a sorted array -/
def keepB (d : Array Pr) (i : Nat) : Bool := decide (i + 1 = d.size ∨ d[i + 1]!.1 ≠ d[i]!.1)
def kp (d : Array Pr) : Nat → List Pr
  | 0 => []
  | i + 1 => if keepB d i then kp d i ++ [d[i]!] else kp d i
theorem kp_le (d : Array Pr) : ∀ i, (kp d i).length ≤ i
  | 0 => Nat.le_refl _
  | i + 1 => by
    have := kp_le d i
    unfold kp
    split
    · simp; omega
    · omega

structure KpInv (d : Array Pr) (i : Nat) : Prop where
  asc : Asc (kp d i)
  lt : i < d.size → ∀ p ∈ kp d i, kl p.1 d[i]!.1 = true
  look : ∀ k, (i < d.size → k ≠ d[i]!.1) → lk (kp d i) k = lk (d.toList.take i) k

theorem take_succ_arr (d : Array Pr) (i : Nat) (hi : i < d.size) : d.toList.take (i + 1) = d.toList.take i ++ [d[i]!] := by
  rw [List.take_add_one, get_toList d i hi]
  rfl

theorem kpInv {d : Array Pr} (hs : SortedIn (ltOf cfK) 0 d.size d) : ∀ i, i ≤ d.size → KpInv d i
  | 0, _ => ⟨List.Pairwise.nil, fun _ p hp => (by cases hp), fun k _ => by simp [kp]⟩
  | i + 1, hi => by
    have ih := kpInv hs i (by omega)
    have hil : i < d.size := by omega
    have hlt := ih.lt hil
    have hnone : lk (kp d i) d[i]!.1 = none := lk_none fun p hp => kl_ne (hlt p hp)
    by_cases hk : keepB d i = true
    · have hkp : kp d (i + 1) = kp d i ++ [d[i]!] := by rw [kp, if_pos hk]
      have hk' : i + 1 = d.size ∨ d[i + 1]!.1 ≠ d[i]!.1 := of_decide_eq_true hk
      refine ⟨?_, fun hl p hp => ?_, fun k hkk => ?_⟩
      · rw [hkp]
        exact List.pairwise_append.2 ⟨ih.asc, List.pairwise_singleton _ _, fun a ha b hb => by rw [List.mem_singleton] at hb; subst hb; exact hlt a ha⟩
      · have hne : d[i + 1]!.1 ≠ d[i]!.1 := by rcases hk' with h | h; · omega
                                               · exact h
        have h1 := hs i (i + 1) (Nat.zero_le _) (by omega) hl
        rw [ltOf_cfK] at h1
        have h2 := kl_of_ne h1 hne
        rw [hkp] at hp
        rcases List.mem_append.1 hp with e | e
        · exact kl_trans (hlt p e) h2
        · rw [List.mem_singleton] at e; subst e; exact h2
      · rw [hkp, take_succ_arr d i hil, lk_append, lk_append, lk_one]
        by_cases e : d[i]!.1 = k
        · rw [if_pos e]; rfl
        · rw [if_neg e, ih.look k fun _ => Ne.symm e]
    · have hkp : kp d (i + 1) = kp d i := by rw [kp, if_neg hk]
      have hk' : ¬ (i + 1 = d.size ∨ d[i + 1]!.1 ≠ d[i]!.1) := fun h => hk (decide_eq_true h)
      have h1 : i + 1 < d.size := by
        rcases Nat.lt_or_ge (i + 1) d.size with h | h
        · exact h
        · exact absurd (.inl (by omega)) hk'
      have he : d[i + 1]!.1 = d[i]!.1 := Classical.not_not.1 fun h => hk' (.inr h)
      refine ⟨by rw [hkp]; exact ih.asc, fun _ p hp => ?_, fun k hkk => ?_⟩
      · rw [hkp] at hp; rw [he]; exact hlt p hp
      · have hne : k ≠ d[i]!.1 := by rw [← he]; exact hkk h1
        rw [hkp, take_succ_arr d i hil, lk_append, lk_one, if_neg (Ne.symm hne), ih.look k fun _ => hne]
        rfl

/-- A stable sort keeps the last value of each key. -/
theorem lk_stable {d d' : Array Pr} (h : Chg (ltOf cfK) 0 d.size d d') (k : ByteArray) : lk d'.toList k = lk d.toList k := by
  have e : ∀ xs : List Pr, lk (xs.filter (eqv (ltOf cfK) (k, 0))) k = lk xs k := fun xs => lk_filter _ _ _ fun x _ hx => by
    simp [eqv, ltOf_cfK, hx, kl_irrefl]
  rw [← e d'.toList, ← e d.toList, h.filt]

theorem of_sorted {d d' : Array Pr} (h : Merged (ltOf cfK) 0 d.size d d') : OfOf d.toList (kp d' d'.size) := by
  have hz := h.chg.size
  have hi := kpInv (d := d') (by rw [hz]; exact h.sorted) d'.size (Nat.le_refl _)
  refine ⟨hi.asc, fun k => ?_, ?_⟩
  · rw [hi.look k (fun h => by omega), List.take_of_length_le (by simp), lk_stable h.chg k]
  · have := kp_le d' d'.size
    have h2 : d.toList.length = d.size := by simp
    omega

end Go.Proofs.Ytpjfeaccicmgoaa
